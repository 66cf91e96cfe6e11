import PyProof.Rows.All
import Wide.All
import OpenK.AllK
import Wide.FinOn
import Lean
import PyProof.EqAt
import PyProof.EqKinds
import PyProof.TupleCall
import PySem.Challenge.RW_truceroll_k53_refused_by_asking
set_option Elab.async false
set_option linter.all false
set_option maxRecDepth 100000
set_option maxHeartbeats 0
def aj:=@PySem.wpAny_bind
def bC:=@PySem.Heap.get?_push_of_some
def aE:=@PySem.wpAny_pure
def bf:=@PySem.Heap.lt_size
def bN:=@List.length_map
def eI:=@List.getElem?_eq_getElem
def bu:=@Nat.le_refl
def eG:=@PySem.Heap.get?_push_size
def dE:=@List.size_toArray
def eF:=@Nat.lt_of_lt_of_le
def bj:=@Nat.ne_of_lt
def aB:=@if_neg
def di:=@List.mem_singleton
def dh:=@Bool.false_ne_true
def fQ:=@List.getElem?_eq_some_iff
def dR:=@List.mem_cons_of_mem
def dF:=@List.mem_cons_self
def ck:=@List.mem_cons
def aC:=@if_pos
def eU:=@Array.length_toList
def eL:=@List.length_append
def hJ:=@Array.getElem?_eq_getElem
def cO:=@PySem.W.mg_of
def dB:=@Option.some.inj
def eK:=@PySem.wpAny_newObj_type
def eJ:=@Bool.and_eq_true
def gL:=@List.mem_append_right
def fP:=@PySem.F.called_set
def fB:=@List.getElem?_map
def bV:=@PySem.wpAny_mono
def fA:=@List.lookup_cons
def jl:=@PySem.Heap.get?_update_other
def gK:=@PySem.W.mg_none_of
def g9:=@PySem.mem_of_lookup
def mj:=@List.getElem?_append_right
def jt:=@PySem.Heap.get?_update_self
def gh:=@List.append_nil
def eT:=@PySem.wpAny_holding
def nZ:=@Array.getD_eq_getD_getElem?
def g8:=@beq_self_eq_true
def nY:=@List.getElem?_append_left
def fz:=@Nat.le_trans
def g7:=@PySem.W.kia_one
def g6:=@List.map_append
def sM:=@PyProof.Rows.slot_tuple_getitem
def mh:=@List.mem_of_getElem?
def gJ:=@Nat.lt_irrefl
def g5:=@List.map_cons
def fO:=@PySem.wpAny_field
def gd:=@Nat.zero_le
def kB:=@List.length_take
def gI:=@PySem.codeAny_mono
def lZ:=@PySem.wpAny_Call_Name_kw
def kz:=@PySem.wpAny_call_entry
def pA:=@PySem.wpAny_callSpecial?_slot
def pz:=@List.length_replicate
def px:=@List.getElem?_eq_none
def lY:=@List.not_mem_nil
def jk:=@List.mem_map
def nX:=@Nat.lt_succ_of_lt
def nW:=@Int.toNat_natCast
def pw:=@PySem.Heap.get?_none_of_le
def js:=@Nat.ne_of_gt
def jr:=@List.map_map
def gH:=@PySem.wpAny_call
def nV:=@List.all_eq_true
def v7:=@Array.getElem?_eq_some_iff
def sL:=@Array.getElem?_toList
def nU:=@List.mem_filter
def nR:=@List.mem_append
def sJ:=@PySem.W.looks_findIn
def jq:=@Nat.le_succ
def pk:=@List.take_add_one
def nQ:=@PySem.codeAny_builtin
def sI:=@PySem.codeAny_call_builtin
def pj:=@List.take_length
def sH:=@PySem.W.callWith_K
def sG:=@Nat.lt_of_le_of_lt
def fw:=@Iff.rfl
def sF:=@PySem.wpAny_isSubtype_exc
def nP:=@PySem.Heap.size_push
def ph:=@Bool.eq_iff_iff
def sE:=@PySem.wpAny_setField_rec
def sD:=@PySem.Obj.data_mapFields
def pe:=@PySem.wpAny_passesOwn
def g4:=@congrArg
def v5:=@Array.getElem_toList
def nO:=@PySem.wpAny_attempt
def sC:=@PySem.wpAny_setState_of
def sA:=@PySem.wpAny_loadPart_at
def v3:=@List.map_congr_left
def pd:=@List.any_cons
def vZ:=@PySem.Around.under_plainId
def sy:=@List.of_mem_zip
def sx:=@List.nodup_cons
def sv:=@List.foldl_cons
def su:=@List.find?_cons
def sq:=@PySem.wpAny_isInstance
def lX:=@Nat.not_lt
def vY:=@List.contains_cons
def uH:=@PySem.W.cellsFrom_some
def eV:=@Ne.symm
def lu:=@Nat.le_of_lt
def uG:=@List.getElem?_set_self
def m6:=@PySem.wpAny_ite_split
def pM:=@Nat.lt_succ_self
def pL:=@List.length_drop
def pK:=@List.length_cons
def pJ:=@PySem.wpAny_truthy_bool
def pI:=@PySem.wpAny_pyIter_list
def uF:=@List.mem_append_left
def pH:=@beq_false_of_ne
def uE:=@PySem.Obj.isFreed_of_fields
def yO:=@PyProof.Rows.callWith_type1
def lq:=@PySem.wpAny_of_eq
def uD:=@Bool.false_eq_true
def uC:=@List.ext_getElem?
def uB:=@List.Sublist.refl
def uA:=@PySem.Heap.SameBut.update
def yN:=@PySem.F.args_tuple_add_2
def pG:=@List.all_cons
def pF:=@PySem.wpAny_setField
def lj:=@PySem.wpAny_rule
def yM:=@PySem.wpAny_newFunctionEnv_cells
def pE:=@PySem.isSubtype_stop
def yL:=@PySem.F.entry_tuple_add
def uz:=@Option.bind_some
def uy:=@PySem.Code.quiet_builtin
def yK:=@PySem.F.slot_tuple_add
def pD:=@Bool.or_true
def ux:=@PySem.fits_of_scanBound
def pC:=@PySem.wpAny_standAt
def yJ:=@PySem.wpAny_comprehension_free
def yI:=@List.mem_iff_getElem?
def yH:=@List.length_filter_le
def lh:=@if_false
def yG:=@List.getElem?_set_ne
def ju:=@if_true
def pB:=@PySem.wpAny_typeOf
def yF:=@beq_eq_false_iff_ne
def yE:=@List.getElem_of_mem
def yD:=@List.filterMap_cons
def uw:=@PySem.wpAny_execs_nil
def uv:=@PySem.codeAny_of_tree
def ur:=@PySem.PassesOwn.never
def yC:=@PySem.codeAny_call_function
def yB:=@PySem.W.codeRec_of
def yA:=@PySem.W.check_slot
def yz:=@List.pairwise_cons
def uq:=@PySem.wpAny_runValue
def yx:=@decide_eq_true_eq
def Fh:=@PySem.F.slot_tuple_iterator_next
def Fg:=@PySem.F.slot_range_iterator_next
def uo:=@List.map_nil
def um:=@List.any_map
def yw:=@PyProof.Rows.F.plain_set_update_loop
def yv:=@PySem.wpAny_setEntries_of
def yu:=@PySem.wpAny_raiseNew_none
def Ff:=@PyProof.Rows.callWith_builtin1
def uk:=@PySem.plainId_quiet
def uj:=@List.map_id
section
namespace L2
open PySem PySem.Spec PyProof.Rows
abbrev Key:=Sum Int Str
def tP:Key->Value->Bool
 | .inl k,v=>Value.isInt k v
 | .inr x,v=>Value.isStrOf x v
def Wf(w:World):Key->Int
 | .inl k=>hashInt k
 | .inr x=>hashStr w x
theorem cv:∀{k:Key} {v:Value},tP k v=true->(∃i t,k=Sum.inl i/\v=Value.int i t)\/(∃x t,k=Sum.inr x/\v=Value.str x t)
 | .inl i,v,h=>by
  obtain⟨t,e⟩:=Value.isInt_shape (k:=i) (v:=v) h
  exact .inl ⟨i,t,rfl,e⟩
 | .inr x,v,h=>by
  obtain⟨t,e⟩:=Value.isStrOf_shape (x:=x) (v:=v) h
  exact .inr ⟨x,t,rfl,e⟩
theorem D'(i:Int)(t:Tok):tP (.inl i) (.int i t)=true:=by simp[tP,Value.isInt]
theorem DY(x:Str)(t:Tok):tP (.inr x) (.str x t)=true:=by simp[tP,Value.isStrOf]
theorem Ov(a b:Int):decide ((Sum.inl a:Key)=Sum.inl b)=(a==b):=by
 by_cases e:a=b
 ·subst e;simp
 ·have h:¬(Sum.inl a:Key)=Sum.inl b:=λq=>e (Sum.inl.inj q)
  rw[decide_eq_false h]
  exact(yF.mpr e).symm
theorem Oq(a b:Str):decide ((Sum.inr a:Key)=Sum.inr b)=decide (a=b):=by
 by_cases e:a=b
 ·subst e;simp
 ·have h:¬(Sum.inr a:Key)=Sum.inr b:=λq=>e (Sum.inr.inj q)
  rw[decide_eq_false h,decide_eq_false e]
theorem Ou(a:Int)(b:Str):decide ((Sum.inl a:Key)=Sum.inr b)=false:=decide_eq_false (λq=>nomatch q)
theorem Ot(a:Str)(b:Int):decide ((Sum.inr a:Key)=Sum.inl b)=false:=decide_eq_false (λq=>nomatch q)
def dA(prog:Program)(w:World):PySem.KeyKind prog w Key where
 is:=tP
 hash:=Wf w
 inj:=λv a b ha hb=>by
  rcases cv ha with ⟨i,t,rfl,rfl⟩ | ⟨x,t,rfl,rfl⟩
  ·rcases cv hb with ⟨j,u,rfl,e⟩ | ⟨y,u,rfl,e⟩
   ·injection e with e1 _;rw[e1]
   ·exact nomatch e
  ·rcases cv hb with ⟨j,u,rfl,e⟩ | ⟨y,u,rfl,e⟩
   ·exact nomatch e
   ·injection e with e1 _;rw[e1]
 byValue:=λk v h=>by
  rcases cv h with ⟨i,t,rfl,rfl⟩ | ⟨x,t,rfl,rfl⟩ <;> rfl
 pyHash:=λhv h=>by
  rcases cv hv with ⟨i,t,rfl,rfl⟩ | ⟨x,t,rfl,rfl⟩
  ·exact wpAny_pyHash_int h
  ·exact wpAny_pyHash_str h
 eqBool:=λhu hv h=>by
  rcases cv hu with ⟨i,t,rfl,rfl⟩ | ⟨x,t,rfl,rfl⟩
  ·rcases cv hv with ⟨j,u,rfl,rfl⟩ | ⟨y,u,rfl,rfl⟩
   ·rw[Ov]at h;exact wpAny_eqBool_int h
   ·rw[Ou]at h;exact SeqAt.EqAt.int_str i t y u _ _ _ _ h
  ·rcases cv hv with ⟨j,u,rfl,rfl⟩ | ⟨y,u,rfl,rfl⟩
   ·rw[Ot]at h;exact SeqAt.EqAt.str_int x t j u _ _ _ _ h
   ·rw[Oq]at h;exact wpAny_eqBool_str h
 «strs»:=λk x t v h=>by
  rcases cv h with ⟨i,u,rfl,e⟩ | ⟨y,u,rfl,e⟩
  ·exact nomatch e
  ·injection e with e1 _
   subst e1
   cases v <;> rfl
theorem w8(prog:Program)(w:World)(i:Int)(t:Tok):(dA prog w).is (.inl i) (.int i t)=true:=D' i t
theorem w6(prog:Program)(w:World)(x:Str)(t:Tok):(dA prog w).is (.inr x) (.str x t)=true:=DY x t
end L2
namespace L2
open PySem PySem.Spec PyProof.Rows
inductive V where
 | non | bl (b:Bool) | int (i:Int) | str (x:Str) | Fe (b:Array UInt8) | PJ (b:UInt64) | ref (a:Addr) | ty (n:String)
 deriving DecidableEq
def RelV:V->Value->Prop
 | .non,u=>u=Value.none
 | .bl b,u=>u=Value.bool b
 | .int i,u=>∃t,u=Value.int i t
 | .str x,u=>∃t,u=Value.str x t
 | .Fe b,u=>∃t,u=Value.bytes b t
 | .PJ b,u=>∃t,u=Value.float b t
 | .ref a,u=>u=Value.ref a
 | .ty n,u=>u=Value.type n
abbrev Vals:List V->List Value->Prop:=Paired RelV
theorem Vals.length{xs:List V}{us:List Value}(r:Vals xs us):xs.length=us.length:=Paired.length r
theorem Vals.get:∀{xs:List V} {us:List Value} {i:Nat} {x:V},Vals xs us->xs[i]?=some x->∃u,us[i]?=some u/\RelV x u
 | _,_,_,_,.nil,e=>by simp at e
 | _,_,0,_,.cons r _,e=>by simp at e;subst e;exact⟨_,rfl,r⟩
 | _,_,i+1,x,.cons _ t,e=>by
  obtain⟨u,h1,h2⟩:=Vals.get (i:=i) (x:=x) t (by simpa using e)
  exact⟨u,by simpa using h1,h2⟩
theorem Vals.set{x:V}{u:Value}(r:RelV x u):∀{xs:List V} {us:List Value} (i:Nat),Vals xs us->Vals (xs.set i x) (us.set i u)
 | _,_,_,.nil=>.nil
 | _,_,0,.cons _ t=>.cons r t
 | _,_,i+1,.cons q t=>.cons q (Vals.set r i t)
theorem Vals.append:∀{xs ys:List V} {us ws:List Value},Vals xs us->Vals ys ws->Vals (xs++ys) (us++ws)
 | _,_,_,_,.nil,s=>s
 | _,_,_,_,.cons r t,s=>.cons r (Vals.append t s)
theorem Vals.take:∀{xs:List V} {us:List Value} (n:Nat),Vals xs us->Vals (xs.take n) (us.take n)
 | _,_,0,_=>.nil
 | _,_,_+1,.nil=>.nil
 | _,_,n+1,.cons r t=>.cons r (Vals.take n t)
theorem Vals.drop:∀{xs:List V} {us:List Value} (n:Nat),Vals xs us->Vals (xs.drop n) (us.drop n)
 | _,_,0,r=>r
 | _,_,_+1,.nil=>.nil
 | _,_,n+1,.cons _ t=>Vals.drop n t
def oQ:Option V->Option Value->Prop
 | some v,some u=>RelV v u
 | none,none=>True
 | _,_=>False
def KV{κ:Type}:List (κ×V)->List (κ×Value)->Prop:=Paired λ(p:κ×V) (q:κ×Value)=>p.1=q.1/\RelV p.2 q.2
def kV:Key->V
 | .inl i=>.int i
 | .inr x=>.str x
inductive HO where
 | lst (xs:List V)
 | tup (xs:List V)
 | dK (aJ:List (Key×V)) | dT (aJ:List (List Key×V))
 | set (S:Int->Bool) (n:Nat)
 | ins (C dx:Addr) (fs:List (Str×V))
 | own (x:Addr)
 | xd (fs:List (Str×V))
 | met (f x:Addr)
 | Va (lo hi:Int)
 | tV (o:Obj) (u:HO)
 | ql (ps:Array Value)
 | ext (φ:Heap->Prop)
abbrev Hp:=Addr->Option HO
def upd(H:Hp)(a:Addr)(o:HO):Hp:=λb=>if b=a then some o else H b
theorem ak{H:Hp}{a:Addr}{o:HO}:upd H a o a=some o:=by unfold upd;rw[aC rfl]
theorem ay{H:Hp}{a b:Addr}{o:HO}(h:b≠a):upd H a o b=H b:=by unfold upd;rw[aB h]
theorem uP{H:Hp}{a:Addr}{o u:HO}:upd (upd H a o) a u=upd H a u:=by
 funext b;unfold upd;split <;> rfl
theorem qB{H:Hp}{a b:Addr}{o u:HO}(h:H a=some o)(h':H b=some u)(d:o≠u):a≠b:=by
 intro e;subst e;rw[h]at h';exact d (dB h')
theorem aG{H:Hp}{a b:Addr}{o:HO}(h:H a=some o)(h':H b=none):a≠b:=by
 intro e;subst e;rw[h]at h';cases h'
section
variable (P:Program)(w:World)
def bW(H:Hp)(h:Heap)(a:Addr):HO->Prop
 | .lst xs=>xs.length<=sizeLine/\∃(its:List Value) (n:Nat),Vals xs its/\h.get? a=some { cls:=.type "list",data:=.seq its.toArray n }
 | .tup xs=>xs.length<=sizeLine/\∃its:List Value,Vals xs its/\IsTup h a its.toArray
 | .dK aJ=>aJ.length<=sizeLine/\(a==sysModules)=false/\∃vs,KV aJ vs/\h.DictOf (dA P w) a vs
 | .dT aJ=>aJ.length<=sizeLine/\(a==sysModules)=false/\∃xs:List (List Key×Addr×Value),
   Paired (λ(p:List Key×V) (q:List Key×Addr×Value)=>p.1=q.1/\H q.2.1=some (.tup (p.1.map kV))/\RelV p.2 q.2.2) aJ xs/\
   ∃o es ep,h.get? a=some o/\o.ExactDict/\o.data=.dict es ep/\es.toList=xs.map (entryOfKey (tupleKind (dA P w)))/\(xs.map (·.1)).Nodup
 | .set S n=>h.SetOf (intKind P w) a S n
 | .ins C dx fs=>H dx=some (.own a)/\fs.length<=1000/\dx≠a/\h.get? a=some (PySem.W.instObj C dx)/\
   ∃mA,h.Ns1 dx mA/\(∀f,oQ (fs.lookup f) (mA f))/\PySem.Within mA (fs.map (·.1))
 | .own _=>∃o,h.get? a=some o
 | .xd fs=>∃mA,h.Ns1 a mA/\∀f,oQ (fs.lookup f) (mA f)
 | .Va lo hi=>∃t u v,h.get? a=some { cls:=.type "range",data:=.fields #[.int lo t,.int hi u,.int 1 v] }
 | .tV o u=>h.get? a=some o/\bW H h a u
 | .ql ps=>h.get? a=some { cls:=.none,data:=.fields ps }
 | .met f x=>h.get? a=some (PySem.W.methodObj (.ref f) (.ref x))
 | .ext φ=>φ h/\(∃o,h.get? a=some o)/\∀h1 h2:Heap,φ h1->(∀o,h1.get? a=some o->h2.get? a=some o)->φ h2
def gb(H:Hp)(h:Heap):Prop:=∀a o,H a=some o->bW P w H h a o
end
section
variable {P:Program}{w:World}{H H':Hp}{h h':Heap}{a:Addr}{o:HO}
theorem bW.lt(x:bW P w H h a o):a<h.objs.size:=by
 cases o with
 | lst xs=>obtain⟨_,_,_,_,e⟩:=x;exact bf e
 | tup xs=>obtain⟨_,_,_,p⟩:=x;exact p.lt
 | dK aJ=>obtain⟨_,_,_,_,o,_,_,e,_⟩:=x;exact bf e
 | dT aJ=>obtain⟨_,_,_,_,o,_,_,e,_⟩:=x;exact bf e
 | set S n=>obtain⟨o,_,_,_,e,_⟩:=x;exact bf e
 | ins C dx fs=>obtain⟨_,_,_,e,_⟩:=x;exact bf e
 | own y=>obtain⟨_,e⟩:=x;exact bf e
 | xd fs=>obtain⟨_,⟨_,_,_,e,_⟩,_⟩:=x;exact bf e
 | Va lo hi=>obtain⟨_,_,_,e⟩:=x;exact bf e
 | tV ob u=>obtain⟨e,_⟩:=x;exact bf e
 | ql ps=>exact bf (show h.get? a=some _ from x)
 | met f y=>exact bf (show h.get? a=some _ from x)
 | ext φ=>obtain⟨_,⟨_,e⟩,_⟩:=x;exact bf e
theorem Paired.Oi{α β:Type}{F G:α->β->Prop}:∀{l₁:List α} {l₂:List β},Paired F l₁ l₂->(∀a b,F a b->G a b)->Paired G l₁ l₂
 | _,_,.nil,_=>.nil
 | _,_,.cons r t,f=>.cons (f _ _ r) (Paired.Oi t f)
theorem bW.stay(x:bW P w H h a o)(k:∀b u,(b=a\/H b=some (.own a))->h.get? b=some u->h'.get? b=some u)
  (ho:∀b,H b=some (.own a)->H' b=some (.own a)) (ht:∀b xs,H b=some (.tup xs)->H' b=some (.tup xs)):bW P w H' h' a o:=by
 induction o with
 | lst xs=>obtain⟨z,its,n,r,e⟩:=x;exact⟨z,its,n,r,k _ _ (.inl rfl) e⟩
 | tup xs=>obtain⟨z,its,r,ob,e,c⟩:=x;exact⟨z,its,r,ob,k _ _ (.inl rfl) e,c⟩
 | dK aJ=>obtain⟨z,y,vs,r,ob,es,ep,e,c⟩:=x;exact⟨z,y,vs,r,ob,es,ep,k _ _ (.inl rfl) e,c⟩
 | dT aJ=>
  obtain⟨z,y,xs,r,ob,es,ep,e,c⟩:=x
  exact⟨z,y,xs,Paired.Oi r λp q z=>⟨z.1,ht _ _ z.2.1,z.2.2⟩,ob,es,ep,k _ _ (.inl rfl) e,c⟩
 | set S n=>obtain⟨ob,es,ep,t,e,c⟩:=x;exact⟨ob,es,ep,t,k _ _ (.inl rfl) e,c⟩
 | ins C dx fs=>
  obtain⟨d,z,ne,e,mA,⟨od,es,ep,e2,c⟩,r⟩:=x
  exact⟨ho _ d,z,ne,k _ _ (.inl rfl) e,mA,⟨od,es,ep,k _ _ (.inr d) e2,c⟩,r⟩
 | own y=>obtain⟨ob,e⟩:=x;exact⟨ob,k _ _ (.inl rfl) e⟩
 | xd fs=>obtain⟨mA,⟨od,es,ep,e,c⟩,r⟩:=x;exact⟨mA,⟨od,es,ep,k _ _ (.inl rfl) e,c⟩,r⟩
 | Va lo hi=>obtain⟨t,u,v,e⟩:=x;exact⟨t,u,v,k _ _ (.inl rfl) e⟩
 | tV ob u ih=>obtain⟨e,q⟩:=x;exact⟨k _ _ (.inl rfl) e,ih q⟩
 | ql ps=>
  have e:h.get? a=some { cls:=.none,data:=.fields ps }:=x
  show h'.get? a=some { cls:=.none,data:=.fields ps }
  exact k a _ (.inl rfl) e
 | met f y=>
  have e:h.get? a=some (PySem.W.methodObj (.ref f) (.ref y)):=x
  show h'.get? a=some (PySem.W.methodObj (.ref f) (.ref y))
  exact k a _ (.inl rfl) e
 | ext φ=>obtain⟨p,⟨o,e⟩,st⟩:=x;exact⟨st _ _ p λo q=>k _ _ (.inl rfl) q,⟨o,k _ _ (.inl rfl) e⟩,st⟩
theorem gb.lt(x:gb P w H h)(e:H a=some o):a<h.objs.size:=(x a o e).lt
theorem gb.fresh(x:gb P w H h)(e:h.objs.size<=a):H a=none:=by
 cases q:H a with
 | none=>rfl
 | some u=>exact absurd (eF (x.lt q) e) (gJ _)
theorem gb.kept(x:gb P w H h)(k:∀b u,h.get? b=some u->h'.get? b=some u):gb P w H h':=λa o e=>
 (x a o e).stay (λb u _ q=>k b u q) (λ_ q=>q) λ_ _ q=>q
theorem gb.laid(x:gb P w H h)(k:∀b u,h.get? b=some u->h'.get? b=some u)(hp:h.objs.size<=a)(new:bW P w (upd H a o) h' a o):gb P w (upd H a o) h':=λb u e=>by
 have hn:=x.fresh hp
 by_cases hb:b=a
 ·subst hb;rw[ak]at e;cases e;exact new
 ·rw[ay hb]at e
  exact(x b u e).stay (λc v _ q=>k c v q) (λc q=>by rw[ay (aG q hn)];exact q) λc xs q=>by rw[ay (aG q hn)];exact q
end
def Rd(H:Hp)(a:Addr)(u:HO):Prop:=H a=some u\/∃o,H a=some (.tV o u)
theorem Rd.ok{P:Program}{w:World}{H:Hp}{h:Heap}{a:Addr}{u:HO}(r:Rd H a u)(x:gb P w H h):bW P w H h a u:=by
 rcases r with r | ⟨o,r⟩
 ·exact x a u r
 ·obtain⟨_,q⟩:=x a _ r
  exact q
def Tg:Option HO->Prop
 | some (.lst _)=>True
 | some (.dK _)=>True
 | some (.dT _)=>True
 | some (.set _ _)=>True
 | some (.ins _ _ _)=>True
 | some (.ext _)=>True
 | _=>False
section
variable {P:Program}{w:World}{H:Hp}{h h':Heap}{x e:Addr}{o':HO}
theorem gb.write(ok:gb P w H h)(mu:Tg (H x))(he:e=x\/H e=some (.own x))(k:∀b u,b≠e->h.get? b=some u->h'.get? b=some u)(Qn:∃u,h'.get? e=some u)
  (new:bW P w (upd H x o') h' x o'):gb P w (upd H x o') h':=λb u q=>by
 have Rt:∀c y,H c=some (.own y)->c≠x:=λc y r z=>by subst z;rw[r]at mu;exact mu
 have lE:∀c xs,H c=some (.tup xs)->c≠x:=λc xs r z=>by subst z;rw[r]at mu;exact mu
 by_cases hb:b=x
 ·subst hb;rw[ak]at q;cases q;exact new
 ·rw[ay hb]at q
  by_cases Pl:b=e
  ·have q':H b=some (.own x):=by
    rcases he with z | z
    ·exact absurd (Pl.trans z) hb
    ·rw[Pl];exact z
   rw[q]at q';cases q'
   obtain⟨v,hv⟩:=Qn
   exact⟨v,by rw[Pl];exact hv⟩
  ·refine(ok b u q).stay (λc v hc r=>k c v ?_ r) (λc r=>by rw[ay (Rt c b r)];exact r) λc xs r=>by rw[ay (lE c xs r)];exact r
   rcases hc with rfl | hc
   ·exact Pl
   ·rintro rfl
    rcases he with z | z
    ·exact Rt c b hc z
    ·rw[hc]at z;cases z;exact hb rfl
end
structure Un(fs ex:List Addr)(H H':Hp)(h h':Heap):Prop where
 keep:∀b o,h.get? b=some o->H b=none->b∉fs->b∉ex->h'.get? b=some o
 slot:∀b o,h.get? b=some o->H b=none->b∈fs->b∉ex->∃sl,h'.get? b=some { o with slots:=sl }
 free:∀b o,h.get? b=some o->H b=none->b∉ex->H' b=none
 there:∀b o,h.get? b=some o->b∉ex->∃o',h'.get? b=some o'
 tups:∀b xs,H b=some (.tup xs)->H' b=some (.tup xs)
 frzs:∀b o u,H b=some (.tV o u)->H' b=some (.tV o u)
 tbls:∀b ps,H b=some (.ql ps)->∃more,H' b=some (.ql (ps++more))
section
variable {fs fs' ex ex':List Addr}{H H1 H2:Hp}{h h1 h2 h':Heap}{a x e:Addr}{o:HO}
theorem Un.any(u:Un fs ex H H1 h h1){b:Addr}{ob:Obj}(q:h.get? b=some ob)(n:H b=none)(hx:b∉ex):∃sl,h1.get? b=some { ob with slots:=sl }:=by
 by_cases hb:b∈fs
 ·exact u.slot b ob q n hb hx
 ·exact⟨ob.slots,u.keep b ob q n hb hx⟩
theorem Un.kept(k:∀b u,h.get? b=some u->h'.get? b=some u):Un fs ex H H h h':=
 ⟨λb ob q _ _ _=>k b ob q,λb ob q _ _ _=>⟨ob.slots,k b ob q⟩,λ_ _ _ n _=>n,λb ob q _=>⟨ob,k b ob q⟩,λ_ _ q=>q,λ_ _ _ q=>q,λ_ ps q=>⟨#[],by rw[q];simp⟩⟩
theorem Un.refl:Un fs ex H H h h:=Un.kept λ_ _ q=>q
theorem Un.laid(k:∀b u,h.get? b=some u->h'.get? b=some u)(hp:h.objs.size<=a)(hn:H a=none):Un fs ex H (upd H a o) h h' where
 keep:=λb u q _ _ _=>k b u q
 slot:=λb u q _ _ _=>⟨u.slots,k b u q⟩
 free:=λb u q n _=>by rw[ay (bj (eF (bf q) hp))];exact n
 there:=λb u q _=>⟨u,k b u q⟩
 tups:=λb xs q=>by rw[ay (aG q hn)];exact q
 frzs:=λb u xs q=>by rw[ay (aG q hn)];exact q
 tbls:=λb ps q=>⟨#[],by rw[ay (aG q hn),q];simp⟩
theorem Un.write(mu:Tg (H x))(he:e=x\/H e=some (.own x))(k:∀b u,b≠e->h.get? b=some u->h'.get? b=some u)(Qn:∃u,h'.get? e=some u):Un fs ex H (upd H x o) h h':=by
 have hx:∀b,H b=none->b≠x:=λb n z=>by subst z;rw[n]at mu;exact mu
 have hb:∀b,H b=none->b≠e:=λb n z=>by
  subst z
  rcases he with r | r
  ·exact hx b n r
  ·rw[n]at r;cases r
 have hm:∀b u,H b=some u->¬Tg (some u)->b≠x:=λb u q nm z=>by subst z;rw[q]at mu;exact nm mu
 refine⟨λb u q n _ _=>k b u (hb b n) q,λb u q n _ _=>⟨u.slots,k b u (hb b n) q⟩,λb u q n _=>by rw[ay (hx b n)];exact n,λb u q _=>?_,
  λb xs q=>by rw[ay (hm b _ q λz=>z)];exact q,λb u xs q=>by rw[ay (hm b _ q λz=>z)];exact q,λb ps q=>⟨#[],by rw[ay (hm b _ q λz=>z),q];simp⟩⟩
 by_cases Pl:b=e
 ·subst Pl;exact Qn
 ·exact⟨u,k b u Pl q⟩
end
def Tt(h:Heap)(H:Hp):List Addr:=(List.range h.objs.size).filter λa=>(H a).isSome
def rY(h:Heap)(H:Hp):Heap:=PySem.W.hideAll h (Tt h H)
theorem Ed(h:Heap)(H:Hp):(rY h H).objs.size=h.objs.size:=PySem.W.hideAll_size _ _
theorem HS{h:Heap}{H:Hp}{b:Addr}{o:Obj}(e:h.get? b=some o)(n:H b=none):(rY h H).get? b=some o:=
 PySem.W.hideAll_get _ e λhm=>by
  have q:(H b).isSome=true:=(nU.mp hm).2
  rw[n]at q;simp at q
theorem Kz{h:Heap}{H:Hp}{b:Addr}{o:Obj}(e:(rY h H).get? b=some o):h.get? b=some o/\H b=none:=by
 have e':h.get? b=some o:=PySem.W.of_hideAll (Tt h H) e
 refine⟨e',?_⟩
 cases q:H b with
 | none=>rfl
 | some x=>
  have hm:b∈Tt h H:=nU.mpr ⟨List.mem_range.mpr (bf e'),by simp[q]⟩
  have z:(rY h H).get? b=none:=PySem.W.hideAll_none (Tt h H) hm
  rw[z]at e;cases e
def Ln(g h:Heap)(L:Addr):List (Addr×Obj):=(List.range h.objs.size).filterMap λa=>if a=L\/(g.get? a).isSome=true then none else (h.get? a).map λo=>(a,o)
def rest(g h:Heap)(L d:Addr):List (Addr×Obj):=(Ln g h L).filter λp=>decide (p.1≠d)
end L2
namespace L2
open PySem PySem.Spec PyProof.Rows
structure Mod(K:PySem.W.Frag)(mg:Str->Option Value)(base:Heap):Prop where
 Jt:K.In base
 glob:base.Ns mainGlobals mg
 blt:∃mb,base.Ns builtinsNs mb/\∀x:Str,x≠"__name__"->mb x=bootBuiltins x
 nolimit:base.NoLimit
structure Cx where
 prog:Program
 w:World
 K:PySem.W.Frag
 mg:Str->Option Value
 base:Heap
 A:Around
 N:List Str
 s₀:Shared
 H₀:Hp
 env:Env
 outer:List Env
 stack:List Env
 ex:List Addr
 fn:Str->Bool
 calm:Bool
 pn:List (Addr×Obj)
 xe:Value->Shared->Prop
def ke(l:List Env):List Addr:=l.filterMap (·.frame)
abbrev Cx.fs(X:Cx):List Addr:=ke X.outer
def Qz(sc:Scope)(x:Str):Prop:=sc.names.lookup x=some .local\/sc.names.lookup x=some .cell\/sc.names.lookup x=some .free
def Loc(sc:Scope)(x:Str):Prop:=sc.names.lookup x=some .local\/sc.names.lookup x=some .cell
def Look(env:Env)(h:Heap)(m:Str->Option Value)(x:Str)(u:Value):Prop:=
 (env.kindOf x=some .local/\m x=some u)\/((env.kindOf x=some .cell\/env.kindOf x=some .free)/\∃c,env.cells.lookup x=some c/\h.IsCell c (some u))
structure Cx.Ok(X:Cx):Prop where
 mod:Mod X.K X.mg X.base
 kind:X.env.scope.kind=.function
 glob:X.env.globals=mainGlobals
 blt:X.env.builtins=builtinsNs
 above:X.s₀.heap.objs.size<=X.env.locals
 inj:∀x y c,X.env.cells.lookup x=some c->X.env.cells.lookup y=some c->x=y
 has:∀x,(X.env.kindOf x=some .cell\/X.env.kindOf x=some .free)->∃c,X.env.cells.lookup x=some c
 JC:∀x c,X.fn x=true->X.env.cells.lookup x=some c->X.s₀.heap.objs.size<=c
 hd:X.calm=true->X.A.handled=none
 frames:X.A.frames=some X.stack
 L7:X.stack=X.outer\/(X.stack=X.env::X.outer/\X.env.frame=some X.env.locals)
 Qv:∀b∈X.ex,b≠X.env.locals/\∀x c,X.env.cells.lookup x=some c->c≠b
 bs:∀b o,X.base.get? b=some o->X.s₀.heap.get? b=some o/\X.H₀ b=none
 yb:X.base.objs.size<=X.s₀.heap.objs.size
 vq:∀b o,X.base.get? b=some o->b∉X.ex
 xW:∀b∈X.ex,b∉X.fs
 il:X.s₀.heap.FunFrames X.base X.outer
 zX:∀b∈X.fs,X.H₀ b=none
structure Inv(X:Cx)(pins:List (Addr×Obj))(σ:List (Option V))(H:Hp)(s:Shared):Prop where
 ok:X.Ok
 os:s.os=X.s₀.os
 bare:AllBare s.gens
 base:Un X.fs X.ex X.H₀ H X.s₀.heap s.heap
 loc:∃m,s.heap.Ns X.env.locals m/\∀(i:Nat) (x:Str) (v:V),X.N[i]?=some x->σ[i]?=some (some v)->Qz X.env.scope x->∃u,RelV v u/\Look X.env s.heap m x u
 cell:∀x c,X.env.cells.lookup x=some c->∃v,s.heap.IsCell c v
 free:H X.env.locals=none
 dC:∀x c,X.env.cells.lookup x=some c->H c=none
 pin:∀p∈X.pn++pins,s.heap.get? p.1=some p.2/\H p.1=none/\p.1≠X.env.locals/\p.1∉X.fs/\∀v,p.2.data≠.cell v
 bp:gb X.prog X.w H s.heap
 len:σ.length=X.N.length
section
variable {X:Cx}{pins:List (Addr×Obj)}{σ:List (Option V)}{H H':Hp}{s:Shared}{h':Heap}
theorem Cx.Ok.V7(ok:X.Ok){b:Addr}{o:Obj}(e:X.base.get? b=some o):b∉X.fs:=λhb=>by
 have:=(ok.il.mem hb).1
 rw[e]at this;cases this
theorem Inv.bs(I:Inv X pins σ H s):∀b o,X.base.get? b=some o->s.heap.get? b=some o/\H b=none:=λb o e=>
 ⟨I.base.keep b o (I.ok.bs b o e).1 (I.ok.bs b o e).2 (I.ok.V7 e) (I.ok.vq b o e),I.base.free b o (I.ok.bs b o e).1 (I.ok.bs b o e).2 (I.ok.vq b o e)⟩
theorem Inv.bk(I:Inv X pins σ H s):∀b o,X.base.get? b=some o->s.heap.get? b=some o:=λb o e=>(I.bs b o e).1
theorem Inv.mod(I:Inv X pins σ H s):Mod X.K X.mg X.base:=I.ok.mod
theorem Inv.jn(I:Inv X pins σ H s):X.K.In s.heap:=I.ok.mod.Jt.keeps I.bk
theorem Inv.lt(I:Inv X pins σ H s):X.env.locals<s.heap.objs.size:=let ⟨_,hn,_⟩:=I.loc;hn.lt
theorem Inv.sz(I:Inv X pins σ H s):X.s₀.heap.objs.size<=s.heap.objs.size:=fz I.ok.above (lu I.lt)
theorem Inv.V6(I:Inv X pins σ H s){a:Addr}(h:s.heap.objs.size<=a):a∉X.fs:=λhb=>by
 obtain⟨_,o,ho,_⟩:=I.ok.il.mem hb
 exact absurd (eF (bf ho) (fz I.sz h)) (gJ _)
theorem Inv.JB(I:Inv X pins σ H s):∀x c,X.env.cells.lookup x=some c->c≠X.env.locals:=λx c e z=>by
 obtain⟨v,o,ho,hd⟩:=I.cell x c e
 obtain⟨m,⟨o',es,ep,BX,Ph,_⟩,_⟩:=I.loc
 rw[z,BX]at ho;cases ho;rw[Ph]at hd;cases hd
theorem Inv.il(I:Inv X pins σ H s):s.heap.FunFrames X.base X.outer:=by
 have all:∀(l:List Env),(∀b∈ke l,b∈X.fs)->X.s₀.heap.FunFrames X.base l->s.heap.FunFrames X.base l:=by
  intro l
  induction l with
  | nil=>intro _ _;trivial
  | cons env r ih=>
   intro hs hl
   obtain⟨hk,⟨L,o,hf,hn,ho,hd⟩,hr⟩:=hl
   have hL:L∈X.fs:=hs L (by unfold ke;rw[yD,hf];exact dF)
   obtain⟨sl,e⟩:=I.base.slot L o ho (I.ok.zX L hL) hL λz=>I.ok.xW L z hL
   exact⟨hk,⟨L,_,hf,hn,e,hd⟩,ih (λb hb=>hs b (by unfold ke;rw[yD,hf];exact dR _ hb)) hr⟩
 exact all X.outer (λ_ hb=>hb) I.ok.il
theorem Inv.stack(I:Inv X pins σ H s):s.heap.FunFrames X.base X.stack:=by
 rcases I.ok.L7 with e | ⟨e,hf⟩
 ·rw[e];exact I.il
 ·rw[e]
  obtain⟨m,hn,_⟩:=I.loc
  refine .cons (by rw[I.ok.kind];decide) hf hn ?_ I.il
  exact pw (fz I.ok.yb I.ok.above)
theorem Inv.lz(I:Inv X pins σ H s):∀b∈ke X.stack,b∈X.env.locals::X.fs:=λb hb=>by
 rcases I.ok.L7 with e | ⟨e,hf⟩
 ·rw[e]at hb;exact dR _ hb
 ·rw[e]at hb
  unfold ke at hb
  rw[yD,hf]at hb
  exact hb
theorem Inv.mF(I:Inv X pins σ H s):∀b∈ke X.stack,H b=none:=λb hb=>by
 rcases ck.mp (I.lz b hb) with e | hb
 ·rw[e];exact I.free
 ·obtain⟨_,o,ho,_⟩:=I.ok.il.mem hb
  exact I.base.free b o ho (I.ok.zX b hb) λz=>I.ok.xW b z hb
theorem Inv.step{g':Array GenState}{t':Nat}{d':Drawn}{ch:List Addr}(I:Inv X pins σ H s)
  (rZ:∀b∈ch,(b∈X.ex\/X.s₀.heap.objs.size<=b)/\b≠X.env.locals/\(∀x c,X.env.cells.lookup x=some c->c≠b)/\∀p∈X.pn++pins,p.1≠b)
  (keep:∀b o,b≠X.env.locals->b∉X.fs->b∉ch->s.heap.get? b=some o->H b=none->h'.get? b=some o)
  (slot:∀b o,b≠X.env.locals->b∈X.fs->b∉ch->s.heap.get? b=some o->H b=none->∃sl,h'.get? b=some { o with slots:=sl }) (free:∀b o,b∉ch->s.heap.get? b=some o->H b=none->H' b=none)
  (there:∀b o,b∉ch->s.heap.get? b=some o->∃o',h'.get? b=some o')
  (tups:∀b xs,H b=some (.tup xs)->H' b=some (.tup xs)) (frzs:∀b o u,H b=some (.tV o u)->H' b=some (.tV o u)) (tbls:∀b ps,H b=some (.ql ps)->∃more,H' b=some (.ql (ps++more)))
  (ns:∀m,s.heap.Ns X.env.locals m->h'.Ns X.env.locals m) (bp:gb X.prog X.w H' h') (hg:AllBare g') :
  Inv X pins σ H' { s with heap:=h',gens:=g',drawn:=d',toks:=t' }:=by
 have Zd:∀b o,X.s₀.heap.get? b=some o->b≠X.env.locals:=λb o e=>bj (eF (bf e) I.ok.above)
 have TL:∀b o,X.s₀.heap.get? b=some o->b∉X.ex->b∉ch:=λb o e hx hb=>by
  rcases(rZ b hb).1 with z | z
  ·exact hx z
  ·exact absurd (eF (bf e) z) (gJ _)
 have cellK:∀x c,X.env.cells.lookup x=some c->∀v,s.heap.IsCell c v->h'.IsCell c v:=λx c e v ⟨o,ho,hd⟩=>by
  have Ru:c∉ch:=λz=>(rZ c z).2.2.1 x c e rfl
  by_cases hc:c∈X.fs
  ·obtain⟨sl,q⟩:=slot c o (I.JB x c e) hc Ru ho (I.dC x c e)
   exact⟨_,q,hd⟩
  ·exact⟨o,keep c o (I.JB x c e) hc Ru ho (I.dC x c e),hd⟩
 refine⟨I.ok,I.os,hg,⟨λb o e n hb hx=>?_,λb o e n hb hx=>?_,λb o e n hx=>?_,λb o e hx=>?_,λb xs e=>tups b xs (I.base.tups b xs e),λb o xs e=>frzs b o xs (I.base.frzs b o xs e),λb ps e=>?_⟩,?_,λx c e=>?_,?_,λx c e=>?_,λp hp=>?_,bp,I.len⟩
 ·exact keep b o (Zd b o e) hb (TL b o e hx) (I.base.keep b o e n hb hx) (I.base.free b o e n hx)
 ·obtain⟨sl,e1⟩:=I.base.slot b o e n hb hx
  obtain⟨U6,e2⟩:=slot b _ (Zd b o e) hb (TL b o e hx) e1 (I.base.free b o e n hx)
  exact⟨U6,e2⟩
 ·obtain⟨o',e1⟩:=I.base.there b o e hx
  exact free b o' (TL b o e hx) e1 (I.base.free b o e n hx)
 ·obtain⟨o',e1⟩:=I.base.there b o e hx
  exact there b o' (TL b o e hx) e1
 ·obtain⟨m1,e1⟩:=I.base.tbls b ps e
  obtain⟨m2,e2⟩:=tbls b _ e1
  exact⟨m1++m2,by rw[e2,Array.append_assoc]⟩
 ·obtain⟨m,hn,hl⟩:=I.loc
  refine⟨m,ns m hn,λi x v e1 e2 e3=>?_⟩
  obtain⟨u,r,l⟩:=hl i x v e1 e2 e3
  refine⟨u,r,?_⟩
  rcases l with l | ⟨k,c,e,z⟩
  ·exact .inl l
  ·exact .inr ⟨k,c,e,cellK x c e _ z⟩
 ·obtain⟨v,z⟩:=I.cell x c e
  exact⟨v,cellK x c e v z⟩
 ·obtain⟨m,⟨o,_,_,ho,_⟩,_⟩:=I.loc
  exact free _ o (λz=>(rZ _ z).2.1 rfl) ho I.free
 ·obtain⟨v,o,ho,hd⟩:=I.cell x c e
  exact free c o (λz=>(rZ c z).2.2.1 x c e rfl) ho (I.dC x c e)
 ·obtain⟨e,n,ne,nf,d⟩:=I.pin p hp
  have Ru:p.1∉ch:=λz=>(rZ p.1 z).2.2.2 p hp rfl
  exact⟨keep p.1 p.2 ne nf Ru e n,free p.1 p.2 Ru e n,ne,nf,d⟩
theorem Inv.un{t':Nat}(I:Inv X pins σ H s)(u:Un X.fs [] H H' s.heap h')(bp:gb X.prog X.w H' h'):Inv X pins σ H' { s with heap:=h',toks:=t' }:=by
 obtain⟨m,⟨o,es,ep,ho,r⟩,_⟩:=id I.loc
 obtain⟨sl,hL⟩:=u.any ho I.free (by simp)
 exact I.step (g':=s.gens) (d':=s.drawn) (ch:=[]) (λ_ z=>nomatch z) (λb o _ hb _ e n=>u.keep b o e n hb (by simp)) (λb o _ hb _ e n=>u.slot b o e n hb (by simp)) (λb o _ e n=>u.free b o e n (by simp)) (λb o _ e=>u.there b o e (by simp)) u.tups u.frzs u.tbls (λm' hm=>by
  obtain⟨o',es',Uc,BX,r'⟩:=hm
  rw[ho]at BX;cases BX
  exact⟨_,es',Uc,hL,r'⟩) bp I.bare
theorem Inv.call{g':Array GenState}{t':Nat}{d':Drawn}{ch:List Addr}(I:Inv X pins σ H s)(u:Un (ke X.stack) ch H H' s.heap h')(bp:gb X.prog X.w H' h')(hg:AllBare g')
  (rZ:∀b∈ch,(b∈X.ex\/X.s₀.heap.objs.size<=b)/\b≠X.env.locals/\(∀x c,X.env.cells.lookup x=some c->c≠b)/\∀p∈X.pn++pins,p.1≠b) :
  Inv X pins σ H' { s with heap:=h',gens:=g',drawn:=d',toks:=t' }:=by
 obtain⟨m,⟨o,es,ep,ho,r⟩,_⟩:=id I.loc
 obtain⟨sl,hL⟩:=u.any ho I.free λz=>(rZ _ z).2.1 rfl
 exact I.step (ch:=ch) rZ (λb o hL hb hc e n=>u.keep b o e n (λz=>(ck.mp (I.lz b z)).elim hL hb) hc) (λb o _ _ hc e n=>u.any e n hc) (λb o hc e n=>u.free b o e n hc) (λb o hc e=>u.there b o e hc) u.tups u.frzs u.tbls (λm' hm=>by
  obtain⟨o',es',Uc,BX,r'⟩:=hm
  rw[ho]at BX;cases BX
  exact⟨_,es',Uc,hL,r'⟩) bp hg
theorem Inv.turned{t':Nat}{it:Addr}(I:Inv X pins σ H s)(k:∀b o,b≠it->s.heap.get? b=some o->h'.get? b=some o)(hn:H it=none)(hL:it≠X.env.locals)
  (h1:it∈X.ex\/X.s₀.heap.objs.size<=it) (h2:∀x c,X.env.cells.lookup x=some c->c≠it) (h3:∀p∈X.pn++pins,p.1≠it):Inv X pins σ H { s with heap:=h',toks:=t' }:=by
 have Zb:∀b u,H b=some u->b≠it:=λb u e z=>by rw[z,hn]at e;cases e
 refine I.step (g':=s.gens) (d':=s.drawn) (ch:=[it]) (λb hb=>?_) (λb o _ _ hc e _=>k b o (λz=>hc (by simp[z])) e) (λb o _ _ hc e _=>⟨o.slots,k b o (λz=>hc (by simp[z])) e⟩) (λ_ _ _ _ n=>n)
  (λb o hc e=>⟨o,k b o (λz=>hc (by simp[z])) e⟩) (λ_ _ e=>e) (λ_ _ _ e=>e) (λb ps e=>⟨#[],by rw[e];simp⟩) (λm hm=>?_) (λb u e=>?_) I.bare
 ·have e:b=it:=by simpa using hb
  subst e
  exact⟨h1,hL,h2,h3⟩
 ·obtain⟨o,es,ep,ho,r⟩:=hm
  exact⟨o,es,ep,k _ o (eV hL) ho,r⟩
 ·refine(I.bp b u e).stay (λc v hc q=>k c v ?_ q) (λ_ q=>q) λ_ _ q=>q
  rcases hc with z | z
  ·rw[z];exact Zb b u e
  ·exact Zb c _ z
theorem Inv.tok(I:Inv X pins σ H s)(t:Nat):Inv X pins σ H { s with toks:=t }:=I.un (h':=s.heap) (t':=t) Un.refl I.bp
theorem Inv.kept{t':Nat}(I:Inv X pins σ H s)(k:∀b u,s.heap.get? b=some u->h'.get? b=some u):Inv X pins σ H { s with heap:=h',toks:=t' }:=I.un (Un.kept k) (I.bp.kept k)
theorem Inv.laid{a:Addr}{o:HO}{t':Nat}(I:Inv X pins σ H s)(k:∀b u,s.heap.get? b=some u->h'.get? b=some u)(hp:s.heap.objs.size<=a)(new:bW X.prog X.w (upd H a o) h' a o) :
  Inv X pins σ (upd H a o) { s with heap:=h',toks:=t' }:=I.un (Un.laid k hp (I.bp.fresh hp)) (I.bp.laid k hp new)
theorem Inv.write{x e:Addr}{o:HO}{t':Nat}(I:Inv X pins σ H s)(mu:Tg (H x))(he:e=x\/H e=some (.own x))(k:∀b u,b≠e->s.heap.get? b=some u->h'.get? b=some u)(Qn:∃u,h'.get? e=some u)
  (new:bW X.prog X.w (upd H x o) h' x o):Inv X pins σ (upd H x o) { s with heap:=h',toks:=t' }:=I.un (Un.write mu he k Qn) (I.bp.write mu he k Qn new)
theorem Inv.Bw{wV:List (Addr×Obj)}(I:Inv X pins σ H s)(h:∀p∈wV,s.heap.get? p.1=some p.2/\H p.1=none/\p.1≠X.env.locals/\p.1∉X.fs/\∀v,p.2.data≠.cell v):Inv X wV σ H s:=
 ⟨I.ok,I.os,I.bare,I.base,I.loc,I.cell,I.free,I.dC,λp hp=>(nR.mp hp).elim (λz=>I.pin p (uF _ z)) (h p),I.bp,I.len⟩
theorem mP{N:List Str}(hN:N.Nodup){i j:Nat}{x:Str}(a:N[i]?=some x)(b:N[j]?=some x):i=j:=by
 obtain⟨h1,e1⟩:=fQ.mp a
 obtain⟨h2,e2⟩:=fQ.mp b
 exact(List.getElem_inj hN).mp (e1.trans e2.symm)
theorem tF{M:Model}{A:Around}{E:Value->Shared->Prop}{i:Nat}{x:Str}{v:V}{u:Value}{Q:Unit->Shared->Prop}(I:Inv X pins σ H s)(hN:X.N.Nodup)(hi:X.N[i]?=some x)(hx:Loc X.env.scope x)(r:RelV v u)
  (h:∀s',Inv X pins (σ.set i (some v)) H s'->(∃a,Heap.SameBut a s.heap s'.heap/\(a=X.env.locals\/X.env.cells.lookup x=some a))->Q () s') (hf:X.fn x=true\/X.env.scope.names.lookup x=some .local:=by first | exact .inl rfl | exact .inr rfl | assumption):wpAny M A (storeName X.env x u) Q E s:=by
 obtain⟨m,hn,hl⟩:=id I.loc
 have Pj:(X.env.scope.kind == .class||(X.env.scope.kind == .module&&X.env.locals != X.env.globals))=false:=by rw[I.ok.kind];rfl
 have Qm:i<σ.length:=by rw[I.len];exact(fQ.mp hi).1
 have JB:=I.JB
 have tracked:∀{a:Addr} {h':Heap},(∃o,s.heap.get? a=some o/\H a=none)->Heap.SameBut a s.heap h'->gb X.prog X.w H h':=λ{a h'} ha hs b ob e=>by
  obtain⟨_,_,xR⟩:=ha
  refine(I.bp b ob e).stay (λc w' hc q=>(hs.2 c ?_).trans q) (λ_ q=>q) λ_ _ q=>q
  rintro rfl
  rcases hc with rfl | hc
  ·rw[xR]at e;cases e
  ·rw[xR]at hc;cases hc
 rcases hx with hk | hk
 ·refine wpAny_storeName_local hk hn (λh' Mq hs=>?_) Pj
  obtain⟨oL,_,_,RP,_⟩:=id hn
  refine h _ ⟨I.ok,I.os,I.bare,⟨λb o e n hb hx=>?_,λb o e n hb hx=>?_,I.base.free,λb o e hx=>?_,I.base.tups,I.base.frzs,I.base.tbls⟩,⟨_,Mq,λj y v' e1 e2 e3=>?_⟩,λy c e=>?_,I.free,I.dC,λp hp=>?_,tracked ⟨oL,RP,I.free⟩ hs,by simpa using I.len⟩ ⟨_,hs,.inl rfl⟩
  ·exact(hs.2 b (bj (eF (bf e) I.ok.above))).trans (I.base.keep b o e n hb hx)
  ·obtain⟨sl,e1⟩:=I.base.slot b o e n hb hx
   exact⟨sl,(hs.2 b (bj (eF (bf e) I.ok.above))).trans e1⟩
  ·obtain⟨o',e1⟩:=I.base.there b o e hx
   exact⟨o',(hs.2 b (bj (eF (bf e) I.ok.above))).trans e1⟩
  ·by_cases hj:j=i
   ·subst hj
    rw[hi]at e1;cases e1
    rw[uG Qm]at e2
    cases e2
    exact⟨u,r,.inl ⟨hk,by simp⟩⟩
   ·rw[yG (eV hj)]at e2
    obtain⟨u',r',q⟩:=hl j y v' e1 e2 e3
    refine⟨u',r',?_⟩
    rcases q with ⟨k,e⟩ | ⟨k,c,e,z⟩
    ·refine .inl ⟨k,?_⟩
     have:y≠x:=λe=>hj (mP hN e1 (e ▸ hi))
     simp[this,e]
    ·exact .inr ⟨k,c,e,z.sameBut hs (JB y c e)⟩
  ·obtain⟨w',z⟩:=I.cell y c e
   exact⟨w',z.sameBut hs (JB y c e)⟩
  ·obtain⟨e,n,ne,nf,d⟩:=I.pin p hp
   exact⟨(hs.2 p.1 ne).trans e,n,ne,nf,d⟩
 ·have HW:X.fn x=true:=by
   rcases hf with z | z
   ·exact z
   ·rw[z]at hk;cases hk
  obtain⟨c,hc⟩:=I.ok.has x (.inl hk)
  obtain⟨w',z⟩:=I.cell x c hc
  refine wpAny_storeName_cell I.ok.kind hk hc z (λh' Pk hs=>?_)
  obtain⟨oc,yr,WM⟩:=id z
  refine h { s with heap:=h' } ⟨I.ok,I.os,I.bare,⟨λb o e n hb hx=>?_,λb o e n hb hx=>?_,I.base.free,λb o e hx=>?_,I.base.tups,I.base.frzs,I.base.tbls⟩,⟨m,hn.sameBut hs (eV (JB x c hc)),λj y v' e1 e2 e3=>?_⟩,λy c' e=>?_,I.free,I.dC,λp hp=>?_,tracked ⟨oc,yr,I.dC x c hc⟩ hs,by simpa using I.len⟩ ⟨c,hs,.inr hc⟩
  ·exact(hs.2 b (bj (eF (bf e) (I.ok.JC x c HW hc)))).trans (I.base.keep b o e n hb hx)
  ·obtain⟨sl,e1⟩:=I.base.slot b o e n hb hx
   exact⟨sl,(hs.2 b (bj (eF (bf e) (I.ok.JC x c HW hc)))).trans e1⟩
  ·obtain⟨o',e1⟩:=I.base.there b o e hx
   exact⟨o',(hs.2 b (bj (eF (bf e) (I.ok.JC x c HW hc)))).trans e1⟩
  ·by_cases hj:j=i
   ·subst hj
    rw[hi]at e1;cases e1
    rw[uG Qm]at e2
    cases e2
    exact⟨u,r,.inr ⟨.inl hk,c,hc,Pk⟩⟩
   ·rw[yG (eV hj)]at e2
    obtain⟨u',r',q⟩:=hl j y v' e1 e2 e3
    refine⟨u',r',?_⟩
    rcases q with q | ⟨k,c',e,z'⟩
    ·exact .inl q
    ·refine .inr ⟨k,c',e,z'.sameBut hs ?_⟩
     rintro rfl
     exact hj (mP hN e1 (I.ok.inj _ _ _ e hc ▸ hi))
  ·by_cases hcc:c'=c
   ·subst hcc;exact⟨_,Pk⟩
   ·obtain⟨w2,z2⟩:=I.cell y c' e
    exact⟨w2,z2.sameBut hs hcc⟩
  ·obtain⟨e,n,ne,nf,d⟩:=I.pin p hp
   refine⟨(hs.2 p.1 ?_).trans e,n,ne,nf,d⟩
   intro q
   rw[q,yr]at e
   have q':oc=p.2:=dB e
   exact d w' (by rw[<-q'];exact WM)
theorem gi{M:Model}{A:Around}{E:Value->Shared->Prop}{i:Nat}{x:Str}{v:V}{u:Value}{Q:Unit->Shared->Prop}(I:Inv X pins σ H s)(hN:X.N.Nodup)(hi:X.N[i]?=some x)(hx:Loc X.env.scope x)(r:RelV v u)
  (h:∀s',Inv X pins (σ.set i (some v)) H s'->Q () s') (hf:X.fn x=true\/X.env.scope.names.lookup x=some .local:=by first | exact .inl rfl | exact .inr rfl | assumption):wpAny M A (storeName X.env x u) Q E s:=
 tF I hN hi hx r (λs' I' _=>h s' I') hf
theorem Inv.call'{s':Shared}{ch:List Addr}(I:Inv X pins σ H s)(ho:s'.os=s.os)(u:Un (ke X.stack) ch H H' s.heap s'.heap)(bp:gb X.prog X.w H' s'.heap)(hg:AllBare s'.gens)
  (rZ:∀b∈ch,(b∈X.ex\/X.s₀.heap.objs.size<=b)/\b≠X.env.locals/\(∀x c,X.env.cells.lookup x=some c->c≠b)/\∀p∈X.pn++pins,p.1≠b):Inv X pins σ H' s':=by
 obtain⟨h',g',d',t',o'⟩:=s'
 have e:o'=s.os:=ho
 subst e
 exact I.call (g':=g') (t':=t') (d':=d') u bp hg rZ
end
abbrev XK:=Value->Option Addr->Hp->Prop
abbrev St:=List (Option V)
abbrev VK:=V->Hp->Prop
abbrev TE:=St->Hp->VK->Prop
abbrev TT:=St->Hp->(Bool->Hp->Prop)->Prop
abbrev TA:=St->Hp->(List V->Hp->Prop)->Prop
structure Ends where
 nx:St->Hp->Prop
 rt:VK
 bk:St->Hp->Prop:=λ_ _=>False
 ct:St->Hp->Prop:=λ_ _=>False
abbrev TS:=Ends->St->Hp->Prop
def EP(X:Cx)(pins:List (Addr×Obj))(σ:St)(Q:VK)(u:Value)(s':Shared):Prop:=∃v H',Inv X pins σ H' s'/\RelV v u/\Q v H'
def TP(X:Cx)(pins:List (Addr×Obj))(σ:St)(Q:Bool->Hp->Prop)(b:Bool)(s':Shared):Prop:=∃H',Inv X pins σ H' s'/\Q b H'
def AP(X:Cx)(pins:List (Addr×Obj))(σ:St)(Q:List V->Hp->Prop)(us:List Value)(s':Shared):Prop:=∃vs H',Inv X pins σ H' s'/\Vals vs us/\Q vs H'
def SP(X:Cx)(pins:List (Addr×Obj))(D:Ends)(f:Flow)(s':Shared):Prop:=
 match f with
 | .next=>∃σ' H',Inv X pins σ' H' s'/\D.nx σ' H'
 | .brk=>∃σ' H',Inv X pins σ' H' s'/\D.bk σ' H'
 | .cont=>∃σ' H',Inv X pins σ' H' s'/\D.ct σ' H'
 | .ret u=>∃v σ' H',Inv X pins σ' H' s'/\RelV v u/\D.rt v H'
def PE(X:Cx)(e:Expr)(t:TE):Prop:=
 ∀(pins:List (Addr×Obj)) (s:Shared) (σ:St) (H:Hp) (Q:VK),Inv X pins σ H s->t σ H Q->wpAny (model X.prog X.w) X.A (eval e X.env) (EP X pins σ Q) X.xe s
def PT(X:Cx)(e:Expr)(t:TT):Prop:=
 ∀(pins:List (Addr×Obj)) (s:Shared) (σ:St) (H:Hp) (Q:Bool->Hp->Prop),Inv X pins σ H s->t σ H Q->wpAny (model X.prog X.w) X.A (isTrue e X.env (eval e X.env)) (TP X pins σ Q) X.xe s
def PW(X:Cx)(e:Expr)(t:TT):Prop:=
 ∀(whole:Sem Value) (pins:List (Addr×Obj)) (s:Shared) (σ:St) (H:Hp) (Q:Bool->Hp->Prop),Inv X pins σ H s->t σ H Q->wpAny (model X.prog X.w) X.A (isTrue e X.env whole) (TP X pins σ Q) X.xe s
theorem PW.pt{X:Cx}{e:Expr}{t:TT}(h:PW X e t):PT X e t:=h _
def PA(X:Cx)(es:List Expr)(t:TA):Prop:=
 ∀(pos:Pos) (pins:List (Addr×Obj)) (s:Shared) (σ:St) (H:Hp) (Q:List V->Hp->Prop),Inv X pins σ H s->t σ H Q->wpAny (model X.prog X.w) X.A (spliced (backTo pos (starEach es X.env))) (AP X pins σ Q) X.xe s
def PS(X:Cx)(st:Stmt)(t:TS):Prop:=
 ∀(pins:List (Addr×Obj)) (s:Shared) (σ:St) (H:Hp) (D:Ends),Inv X pins σ H s->t D σ H->wpAny (model X.prog X.w) X.A (exec st X.env) (SP X pins D) X.xe s
def o9(X:Cx)(st:List Stmt)(t:TS):Prop:=
 ∀(pins:List (Addr×Obj)) (s:Shared) (σ:St) (H:Hp) (D:Ends),Inv X pins σ H s->t D σ H->wpAny (model X.prog X.w) X.A (execs st X.env) (SP X pins D) X.xe s
theorem cp{α:Type}{t:Sem α}{Q Q':α->Shared->Prop}{M:Model}{A:Around}{E:Value->Shared->Prop}{s:Shared}(h:wpAny M A t Q E s)(hQ:∀a s,Q a s->Q' a s):wpAny M A t Q' E s:=bV h hQ λ_ _ x=>x
end L2
namespace L2
open PySem PySem.Spec PyProof.Rows
section
variable {X:Cx}
theorem bin{a b:Expr}{ta tb:TE}(ha:PE X a ta)(hb:PE X b tb){pins:List (Addr×Obj)}{s:Shared}{σ:St}{H:Hp}{R:V->V->Hp->Prop}(I:Inv X pins σ H s)(h:ta σ H λx H1=>tb σ H1 λy H2=>R x y H2)
  {α:Type} {Q:α->Shared->Prop} {f:Value->Value->Sem α}
  (hf:∀v u s2 x y H2,Inv X pins σ H2 s2->RelV x v->RelV y u->R x y H2->wpAny (model X.prog X.w) X.A (f v u) Q X.xe s2) :
  wpAny (model X.prog X.w) X.A (eval a X.env) (λv s₁=>wpAny (model X.prog X.w) X.A (eval b X.env) (λu s₂=>wpAny (model X.prog X.w) X.A (f v u) Q X.xe s₂) X.xe s₁) X.xe s:=by
 refine cp (ha pins s σ H _ I h) λv s1 ⟨x,H1,I1,r1,q1⟩=>?_
 refine cp (hb pins s1 σ H1 _ I1 q1) λu s2 ⟨y,H2,I2,r2,q2⟩=>?_
 exact hf v u s2 x y H2 I2 r1 r2 q2
def yW(i:Nat):TE:=λσ H Q=>∃v,σ[i]?=some (some v)/\Q v H
def tC(v:V):TE:=λ_ H Q=>Q v H
theorem G7{i:Nat}{x:Str}{pos:Pos}(hN:X.N[i]?=some x)(hv:Qz X.env.scope x)(hd:(x==("__debug__" : Str))=false:=by decide)(nA:(x==("__classdict__" : Str))=false:=by decide):PE X (.Name x pos) (yW i):=by
 intro pins s σ H Q I h
 obtain⟨v,e,h⟩:=h
 obtain⟨m,hn,hl⟩:=I.loc
 obtain⟨u,r,l⟩:=hl i x v hN e hv
 have fin:EP X pins σ Q u s:=⟨v,H,I,r,h⟩
 rcases l with ⟨hk,hm⟩ | ⟨hk,c,hc,kW⟩
 ·exact wpAny_Name (wpAny_loadName_local I.ok.kind hk hn hm fin) hd
 ·rcases hk with hk | hk
  ·exact wpAny_Name (wpAny_loadName_cell I.ok.kind hk hc kW fin) hd
  ·exact wpAny_Name (wpAny_loadName_free I.ok.kind hk hc kW fin nA) hd
theorem N6{i j pos}:PE X (.Constant (.int i) j pos) (tC (.int i)):=λ_ _ _ H _ I h=>wpAny_Constant_int ⟨.int i,H,I.tok _,⟨_,rfl⟩,h⟩
theorem Rl{b j pos}:PE X (.Constant (.bool b) j pos) (tC (.bl b)):=λ_ _ _ H _ I h=>Constant_bool ⟨.bl b,H,I,rfl,h⟩
theorem N4{j pos}:PE X (.Constant .none j pos) (tC .non):=λ_ _ _ H _ I h=>Constant_none ⟨.non,H,I,rfl,h⟩
theorem N1{x j pos}:PE X (.Constant (.str x) j pos) (tC (.str x)):=λ_ _ _ H _ I h=>Calls.Constant_str ⟨.str x,H,I.tok _,⟨_,rfl⟩,h⟩
def Gl(X:Cx)(x:Str):Prop:=X.env.kindOf x=some .globalImplicit
theorem fW{E:Value->Shared->Prop}{pins:List (Addr×Obj)}{s:Shared}{σ:St}{H:Hp}{x:Str}{u:Value}{pos:Pos}{Q:Value->Shared->Prop}(I:Inv X pins σ H s)(hg:Gl X x)(hm:X.mg x=some u)(h:Q u s)
  (hd:(x==("__debug__" : Str))=false:=by decide):wpAny (model X.prog X.w) X.A (eval (.Name x pos) X.env) Q E s:=
 Calls.Name_function_global I.ok.kind hg (Calls.loadGlobal_global (by rw[I.ok.glob];exact I.mod.glob.keeps I.bk) hm h) hd
theorem qG{E:Value->Shared->Prop}{pins:List (Addr×Obj)}{s:Shared}{σ:St}{H:Hp}{x:Str}{u:Value}{pos:Pos}{Q:Value->Shared->Prop}(I:Inv X pins σ H s)(hg:Gl X x)(hm:X.mg x=none)(hv:bootBuiltins x=some u)(h:Q u s)
  (hn:x≠"__name__":=by decide) (hd:(x==("__debug__" : Str))=false:=by decide):wpAny (model X.prog X.w) X.A (eval (.Name x pos) X.env) Q E s:=by
 obtain⟨mb,h1,h2⟩:=I.mod.blt
 exact Calls.Name_function_global I.ok.kind hg (Calls.loadGlobal_builtin (by rw[I.ok.glob];exact I.mod.glob.keeps I.bk) hm (by rw[I.ok.blt];exact h1.keeps I.bk) ((h2 x hn).trans hv) h) hd
theorem Ko{x:Str}{v:V}{u:Value}{pos:Pos}(hg:Gl X x)(hm:X.mg x=some u)(r:RelV v u)(hd:(x==("__debug__" : Str))=false:=by decide):PE X (.Name x pos) (tC v):=
 λ_ _ _ H _ I h=>fW I hg hm ⟨v,H,I,r,h⟩ hd
theorem vk{x:Str}{v:V}{u:Value}{pos:Pos}(hg:Gl X x)(hm:X.mg x=none)(hv:bootBuiltins x=some u)(r:RelV v u)(hn:x≠"__name__":=by decide)(hd:(x==("__debug__" : Str))=false:=by decide):PE X (.Name x pos) (tC v):=
 λ_ _ _ H _ I h=>qG I hg hm hv ⟨v,H,I,r,h⟩ hn hd
variable {a b:Expr}{ta tb:TE}{pos:Pos}
def PC(X:Cx)(op:CmpOp)(a b:Expr)(t:TE):Prop:=
 ∀(pins:List (Addr×Obj)) (s:Shared) (σ:St) (H:Hp) (Q:VK),Inv X pins σ H s->t σ H Q->
  wpAny (model X.prog X.w) X.A (eval a X.env) (λv s₁=>wpAny (model X.prog X.w) X.A (eval b X.env) (λu s₂=>wpAny (model X.prog X.w) X.A (compareOp op v u) (EP X pins σ Q) X.xe s₂) X.xe s₁) X.xe s
theorem Ho(b:Expr){op:CmpOp}(h:op≠.In)(h2:op≠.NotIn):behindInMarks op b=false:=by
 have e1:(op==CmpOp.In)=false:=by cases op <;> first | rfl | exact absurd rfl h
 have e2:(op==CmpOp.NotIn)=false:=by cases op <;> first | rfl | exact absurd rfl h2
 cases b <;> simp[behindInMarks,e1,e2]
def tB(t:TE):TT:=λσ H Q=>t σ H λx H1=>∃c,x=.bl c/\Q c H1
theorem Vg{op:CmpOp}{t:TE}(h:PC X op a b t)(h1:behindInMarks op b=false:=by first | exact Ho _ (by decide) (by decide) | rfl):PT X (.Compare a [op] [b] pos) (tB t):=by
 intro pins s σ H Q I hw
 refine wpAny_isTrue_Compare1 (cp (h pins s σ H _ I hw) λv s1 h1=>cp h1 λu s2 h2=>cp h2 λc s3 ⟨x,H1,I1,r1,q1⟩=>?_) h1
 obtain⟨d,rfl,q⟩:=q1
 cases r1
 exact pJ ⟨H1,I1,q⟩
theorem GR{e:Expr}{t:TE}(h:PE X e t)(he:∀whole,isTrue e X.env whole=(do let v <-whole;standAt e.pos;holding [v] (truthy v)):=by intro _;rfl):PT X e (tB t):=by
 intro pins s σ H Q I hw
 refine isTrue_plain (cp (h pins s σ H _ I hw) λv s1 ⟨x,H1,I1,r1,q1⟩=>?_) (he _)
 obtain⟨d,rfl,q⟩:=q1
 cases r1
 exact pJ ⟨H1,I1,q⟩
variable {tA Jp:TT}{rest:List Expr}
def FT(t u:TT):TT:=λσ H Q=>t σ H λc H1=>if c=true then u σ H1 Q else Q false H1
def QS(t u:TT):TT:=λσ H Q=>t σ H λc H1=>if c=true then Q true H1 else u σ H1 Q
def FK(t:TT):TT:=λσ H Q=>t σ H λc H1=>Q (!c) H1
theorem Ka(ha:PT X a tA):PW X (.BoolOp .And [a] pos) tA:=by
 intro wh pins s σ H Q I h
 refine isTrue_and (cp (ha pins s σ H Q I h) λc s1 e=>?_)
 cases c with
 | true=>exact isTrue_and_nil e
 | false=>exact e
theorem NB(ha:PT X a tA):PW X (.BoolOp .Or [a] pos) tA:=by
 intro wh pins s σ H Q I h
 refine isTrue_or (cp (ha pins s σ H Q I h) λc s1 e=>?_)
 cases c with
 | false=>exact isTrue_or_nil e
 | true=>exact e
theorem NC(ha:PT X a tA)(hb:PW X (.BoolOp .And (b::rest) pos) Jp):PW X (.BoolOp .And (a::b::rest) pos) (FT tA Jp):=by
 intro wh pins s σ H Q I h
 refine isTrue_and (cp (ha pins s σ H _ I h) λc s1 ⟨H1,I1,q1⟩=>?_)
 cases c with
 | true=>exact hb wh pins s1 σ H1 Q I1 q1
 | false=>exact⟨H1,I1,q1⟩
theorem Rf(ha:PT X a tA)(hb:PW X (.BoolOp .Or (b::rest) pos) Jp):PW X (.BoolOp .Or (a::b::rest) pos) (QS tA Jp):=by
 intro wh pins s σ H Q I h
 refine isTrue_or (cp (ha pins s σ H _ I h) λc s1 ⟨H1,I1,q1⟩=>?_)
 cases c with
 | true=>exact⟨H1,I1,q1⟩
 | false=>exact hb wh pins s1 σ H1 Q I1 q1
theorem NK(ha:PT X a tA):PT X (.UnaryOp .Not a pos) (FK tA):=by
 intro pins s σ H Q I h
 exact isTrue_not (ha pins s σ H (λc H1=>Q (!c) H1) I h)
def wI(ta tb:TE):TE:=λσ H Q=>ta σ H λx H1=>∃c,x=.bl c/\if c=true then tb σ H1 Q else Q (.bl false) H1
def M9(ta tb:TE):TE:=λσ H Q=>ta σ H λx H1=>∃c,x=.bl c/\if c=true then Q (.bl true) H1 else tb σ H1 Q
def wD(ta:TE):TE:=λσ H Q=>ta σ H λx H1=>∃c,x=.bl c/\Q (.bl (!c)) H1
theorem N2{op}{t:TE}(h:PE X a t):PE X (.BoolOp op [a] pos) t:=λpins s σ H Q I hw=>BoolOp_one (h pins s σ H Q I hw)
theorem N7(ha:PE X a ta)(hb:PE X (.BoolOp .And (b::rest) pos) tb):PE X (.BoolOp .And (a::b::rest) pos) (wI ta tb):=by
 intro pins s σ H Q I h
 refine BoolOp_and (cp (ha pins s σ H _ I h) λv s1 ⟨x,H1,I1,r1,q1⟩=>?_)
 obtain⟨c,rfl,q1⟩:=q1
 cases r1
 refine pJ ?_
 cases c with
 | true=>exact hb pins s1 σ H1 Q I1 q1
 | false=>exact⟨.bl false,H1,I1,rfl,q1⟩
theorem N3(ha:PE X a ta):PE X (.UnaryOp .Not a pos) (wD ta):=by
 intro pins s σ H Q I h
 refine UnaryOp_ (cp (ha pins s σ H _ I h) λv s1 ⟨x,H1,I1,r1,q1⟩=>?_)
 obtain⟨c,rfl,q1⟩:=q1
 cases r1
 exact not_of (pJ ⟨.bl (!c),H1,I1,rfl,q1⟩)
def Ut(t:TT)(ta tb:TE):TE:=λσ H Q=>t σ H λc H1=>if c=true then ta σ H1 Q else tb σ H1 Q
end
end L2
namespace L2
open PySem PySem.Spec PyProof.Rows
def lU(K:PySem.W.Frag)(H:Hp)(a:Addr)(xs:List V):Prop:=
 Rd H a (.lst xs)\/
  ∃(o:Obj) (its:Array Value) (n:Nat),K.lookup a=some o/\o.cls=.type "list"/\o.dict=none/\o.data=.seq its n/\its.size<=sizeLine/\Vals xs its.toList
def si(K:PySem.W.Frag)(H:Hp)(a:Addr)(xs:List V):Prop:=
 Rd H a (.tup xs)\/
  ∃(o:Obj) (its:Array Value) (n:Nat),K.lookup a=some o/\o.cls=.type "tuple"/\o.data=.seq its n/\its.size<=sizeLine/\Vals xs its.toList
def YJ:Value->Option V
 | .none=>some .non
 | .bool b=>some (.bl b)
 | .int i _=>some (.int i)
 | .str x _=>some (.str x)
 | .bytes b _=>some (.Fe b)
 | .float b _=>some (.PJ b)
 | .ref a=>some (.ref a)
 | .type n=>some (.ty n)
 | _=>none
theorem RelV.abs{x:V}{u:Value}(r:RelV x u):YJ u=some x:=by
 cases x with
 | non=>cases r;rfl
 | bl _=>cases r;rfl
 | int _=>obtain⟨t,rfl⟩:=r;rfl
 | str _=>obtain⟨t,rfl⟩:=r;rfl
 | Fe _=>obtain⟨t,rfl⟩:=r;rfl
 | PJ _=>obtain⟨t,rfl⟩:=r;rfl
 | ref _=>cases r;rfl
 | ty _=>cases r;rfl
theorem RelV.inj{x y:V}{u:Value}(r:RelV x u)(q:RelV y u):x=y:=dB (r.abs.symm.trans q.abs)
theorem Vals.inj:∀{xs ys:List V} {us:List Value},Vals xs us->Vals ys us->xs=ys
 | _,_,_,.nil,.nil=>rfl
 | _,_,_,.cons r t,.cons r' t'=>by rw[r.inj r',Vals.inj t t']
section
variable {X:Cx}{pins:List (Addr×Obj)}{σ:St}{H:Hp}{s:Shared}{a:Addr}{xs ys:List V}
theorem lU.of{K:PySem.W.Frag}(h:H a=some (.lst xs)):lU K H a xs:=.inl (.inl h)
theorem si.of{K:PySem.W.Frag}(h:H a=some (.tup xs)):si K H a xs:=.inl (.inl h)
theorem Inv.list(I:Inv X pins σ H s)(h:lU X.K H a xs):∃its:List Value,Vals xs its/\PlainL s.heap a its.toArray/\xs.length<=sizeLine:=by
 rcases h with h | ⟨o,its,n,hk,hc,hd,hs,hz,r⟩
 ·obtain⟨z,its,n,r,e⟩:=h.ok I.bp
  exact⟨its,r,⟨_,n,e,rfl,rfl,rfl⟩,z⟩
 ·refine⟨its.toList,r,⟨o,n,I.jn a o hk,hc,hd,by simpa using hs⟩,?_⟩
  have e:=r.length
  simp only[eU]at e
  lia
theorem Inv.tuple(I:Inv X pins σ H s)(h:si X.K H a xs):∃its:List Value,Vals xs its/\IsTup s.heap a its.toArray/\xs.length<=sizeLine:=by
 rcases h with h | ⟨o,its,n,hk,hc,hs,hz,r⟩
 ·obtain⟨z,its,r,p⟩:=h.ok I.bp
  exact⟨its,r,p,z⟩
 ·refine⟨its.toList,r,⟨o,I.jn a o hk,hc,n,by simpa using hs⟩,?_⟩
  have e:=r.length
  simp only[eU]at e
  lia
theorem Inv.Hu(I:Inv X pins σ H s)(h:lU X.K H a xs)(h':lU X.K H a ys):xs=ys:=by
 obtain⟨its,r,⟨o,n,e,_,_,d⟩,_⟩:=I.list h
 obtain⟨its',r',⟨o',n',e',_,_,d'⟩,_⟩:=I.list h'
 rw[e]at e';cases e'
 rw[d]at d'
 injection d' with d1 _
 have:its=its':=by simpa using g4 Array.toList d1
 subst this
 exact r.inj r'
theorem Inv.tu(I:Inv X pins σ H s)(h:si X.K H a xs)(h':si X.K H a ys):xs=ys:=by
 obtain⟨its,r,⟨o,e,_,n,d⟩,_⟩:=I.tuple h
 obtain⟨its',r',⟨o',e',_,n',d'⟩,_⟩:=I.tuple h'
 rw[e]at e';cases e'
 rw[d]at d'
 injection d' with d1 _
 have:its=its':=by simpa using g4 Array.toList d1
 subst this
 exact r.inj r'
end
abbrev Cx.wish(X:Cx)(E:Value->Shared->Prop):Cx:={ X with xe:=E }
abbrev Cx.zu(X:Cx):Cx:=X.wish λ_ _=>False
theorem Cx.Ok.wish{X:Cx}(ok:X.Ok)(E:Value->Shared->Prop):(X.wish E).Ok:=
 ⟨ok.mod,ok.kind,ok.glob,ok.blt,ok.above,ok.inj,ok.has,ok.JC,ok.hd,ok.frames,ok.L7,ok.Qv,ok.bs,ok.yb,ok.vq,ok.xW,ok.il,ok.zX⟩
theorem Cx.Ok.jz{X:Cx}{E:Value->Shared->Prop}(ok:(X.wish E).Ok):X.Ok:=
 ⟨ok.mod,ok.kind,ok.glob,ok.blt,ok.above,ok.inj,ok.has,ok.JC,ok.hd,ok.frames,ok.L7,ok.Qv,ok.bs,ok.yb,ok.vq,ok.xW,ok.il,ok.zX⟩
section
variable {X:Cx}{pins:List (Addr×Obj)}{σ:St}{H:Hp}{s:Shared}{E:Value->Shared->Prop}
theorem Inv.wish(I:Inv X pins σ H s)(E:Value->Shared->Prop):Inv (X.wish E) pins σ H s:=⟨I.ok.wish E,I.os,I.bare,I.base,I.loc,I.cell,I.free,I.dC,I.pin,I.bp,I.len⟩
theorem Inv.jz(I:Inv (X.wish E) pins σ H s):Inv X pins σ H s:=⟨I.ok.jz,I.os,I.bare,I.base,I.loc,I.cell,I.free,I.dC,I.pin,I.bp,I.len⟩
theorem SP.jz{D:Ends}{f:Flow}{s':Shared}(h:SP (X.wish E) pins D f s'):SP X pins D f s':=by
 cases f with
 | next=>obtain⟨σ',H',I,q⟩:=h;exact⟨σ',H',I.jz,q⟩
 | brk=>obtain⟨σ',H',I,q⟩:=h;exact⟨σ',H',I.jz,q⟩
 | cont=>obtain⟨σ',H',I,q⟩:=h;exact⟨σ',H',I.jz,q⟩
 | ret u=>obtain⟨v,σ',H',I,r,q⟩:=h;exact⟨v,σ',H',I.jz,r,q⟩
theorem o9.zu{st:List Stmt}{t:TS}(h:o9 X.zu st t):o9 X st t:=λpins s σ H D I hw=>
 bV (h pins s σ H D (I.wish _) hw) (λ_ _ q=>q.jz) λ_ _ z=>False.elim z
end
section
variable {X:Cx}{st:Stmt}{rest:List Stmt}{t u:TS}{e:Expr}{te:TE}{pos:Pos}
def tD:TS:=λD σ H=>D.nx σ H
def tSeq(t u:TS):TS:=λD σ H=>t { D with nx:=u D } σ H
theorem Kd:o9 X [] tD:=λ_ _ σ H _ I h=>uw ⟨σ,H,I,h⟩
theorem GX(h1:PS X st t)(h2:o9 X rest u):o9 X (st::rest) (tSeq t u):=by
 intro pins s σ H D I h
 refine wpAny_execs_cons (cp (h1 pins s σ H { D with nx:=u D } I h) λf s1 q=>?_)
 cases f with
 | next=>
  obtain⟨σ',H',I',q⟩:=q
  exact h2 pins s1 σ' H' D I' q
 | ret v=>exact q
 | brk=>exact q
 | cont=>exact q
theorem Kc(h1:PS X st t):o9 X [st] t:=by
 intro pins s σ H D I h
 refine wpAny_execs_cons (cp (h1 pins s σ H D I h) λf s1 q=>?_)
 cases f with
 | next=>exact uw q
 | ret v=>exact q
 | brk=>exact q
 | cont=>exact q
theorem Inv.quiet{pins:List (Addr×Obj)}{σ:St}{H:Hp}{s:Shared}(I:Inv X pins σ H s):interactive X.env=false:=by simp[interactive,I.ok.kind]
def wF(te:TE):TS:=λD σ H=>te σ H λ_ H1=>D.nx σ H1
theorem Bu(he:PE X e te)(hs:swapsWith e none pos.line X.env=pure false:=by rfl):PS X (.Expr e pos) (wF te):=by
 intro pins s σ H D I h
 exact wpAny_Expr_any (cp (he pins s σ H _ I h) λv s1 ⟨x,H1,I1,r1,q1⟩=>⟨σ,H1,I1,q1⟩) I.quiet hs
def FH(te:TE):TS:=λD σ H=>te σ H D.rt
theorem NQ(he:PE X e te):PS X (.Return (some e) pos) (FH te):=by
 intro pins s σ H D I h
 exact wpAny_Return_some (cp (he pins s σ H _ I h) λv s1 ⟨x,H1,I1,r1,q1⟩=>⟨x,σ,H1,I1,r1,q1⟩)
def FG:TS:=λD _ H=>D.rt .non H
def Dh(c:TT)(t u:TS):TS:=λD σ H=>c σ H λb H1=>if b=true then t D σ H1 else u D σ H1
theorem Rh{c:Expr}{a b:List Stmt}{tc:TT}(hc:PT X c tc)(ha:o9 X a t)(hb:o9 X b u):PS X (.If c a b pos) (Dh tc t u):=by
 intro pins s σ H D I h
 refine wpAny_If (cp (hc pins s σ H _ I h) λd s1 ⟨H1,I1,q1⟩=>?_)
 cases d with
 | true=>exact ha pins s1 σ H1 D I1 q1
 | false=>exact hb pins s1 σ H1 D I1 q1
def y0:TS:=λ_ _ _=>False
end
abbrev TG:=V->St->Hp->(St->Hp->Prop)->Prop
abbrev Ug:=List V->St->Hp->(St->Hp->Prop)->Prop
def PG(X:Cx)(target:Expr)(t:TG):Prop:=
 ∀(pins:List (Addr×Obj)) (s:Shared) (σ:St) (H:Hp) (v:V) (u:Value) (Q:St->Hp->Prop),Inv X pins σ H s->RelV v u->t v σ H Q->
  wpAny (model X.prog X.w) X.A (assign target X.env u) (λ_ s'=>∃σ' H',Inv X pins σ' H' s'/\Q σ' H') X.xe s
abbrev Al:=V->V->V->Hp->(Hp->Prop)->Prop
def Ew(X:Cx)(t:Al):Prop:=
 ∀(pins:List (Addr×Obj)) (s:Shared) (σ:St) (H:Hp) (o i v:V) (ov iv u:Value) (Q:Hp->Prop),Inv X pins σ H s->RelV o ov->RelV i iv->RelV v u->t o i v H Q->
  wpAny (model X.prog X.w) X.A (setItem ov iv u) (λ_ s'=>∃H',Inv X pins σ H' s'/\Q H') X.xe s
abbrev Lq:=V->V->Hp->VK->Prop
def P6(X:Cx)(op:Operator)(t:Lq):Prop:=
 ∀(pins:List (Addr×Obj)) (s:Shared) (σ:St) (H:Hp) (x y:V) (v u:Value) (Q:VK),Inv X pins σ H s->RelV x v->RelV y u->t x y H Q->
  wpAny (model X.prog X.w) X.A (inplaceOp op v u) (EP X pins σ Q) X.xe s
section
variable {X:Cx}{pos:Pos}
def cP(i:Nat):TG:=λv σ H Q=>Q (σ.set i (some v)) H
theorem Bz{i:Nat}{x:Str}(hN:X.N.Nodup)(hi:X.N[i]?=some x)(hx:Loc X.env.scope x)(hf:X.fn x=true\/X.env.scope.names.lookup x=some .local:=by first | exact .inl rfl | exact .inr rfl | assumption):PG X (.Name x pos) (cP i):=by
 intro pins s σ H v u Q I r h
 exact wpAny_assign_Name (gi I hN hi hx r (λs' I'=>⟨_,H,I',h⟩) hf)
def Sq:Ug:=λvs σ H Q=>vs=[]/\Q σ H
def MK(t:TG)(u:Ug):Ug:=λvs σ H Q=>∃v r,vs=v::r/\t v σ H λσ' H'=>u r σ' H' Q
def Sn(K:PySem.W.Frag)(n:Nat)(t:Ug):TG:=λv σ H Q=>∃a xs,v=.ref a/\si K H a xs/\xs.length=n/\t xs σ H Q
def Ic(to ti:TE)(t:Al):TG:=λv σ H Q=>to σ H λo H1=>ti σ H1 λi H2=>t o i v H2 λH3=>Q σ H3
theorem G6{o i:Expr}{to ti:TE}{t:Al}(ho:PE X o to)(hi:PE X i ti)(hs:Ew X t)
  (ha:∀v,assign (.Subscript o i pos) X.env v=(do
   let ov <-holding [v] (eval o X.env)
   let iv <-holding [v,ov] (eval i X.env)
   standAt pos
   holding [v,ov,iv] (setItem ov iv v)
   release [v,ov,iv] []):=by intro _;rfl):PG X (.Subscript o i pos) (Ic to ti t):=by
 intro pins s σ H v u Q I r h
 rw[ha]
 refine aj (eT (cp (ho pins s σ H _ I h) λov s1 ⟨x,H1,I1,r1,q1⟩=>?_))
 refine aj (eT (cp (hi pins s1 σ H1 _ I1 q1) λiv s2 ⟨y,H2,I2,r2,q2⟩=>?_))
 refine aj (pC (aj (eT (cp (hs pins s2 σ H2 x y v ov iv u _ I2 r1 r2 r q2) λ_ s3 ⟨H3,I3,q3⟩=>?_))))
 exact wpAny_release ⟨σ,H3,I3,q3⟩
def qp(te:TE)(g:TG):TS:=λD σ H=>te σ H λx H1=>g x σ H1 D.nx
theorem vj{tg e:Expr}{te:TE}{g:TG}(he:PE X e te)(hg:PG X tg g)(hs:swapsWithSole [tg] e pos.line X.env=pure false:=by rfl)(hw:swappedStores [tg] e X.env=pure none:=by rfl)
  (h1:(assignEach [tg] X.env).map (·.2)=[assign tg X.env]:=by rfl):PS X (.Assign [tg] e pos) (qp te g):=by
 intro pins s σ H D I h
 refine wpAny_Assign_stores (cp (he pins s σ H _ I h) λv s1 ⟨x,H1,I1,r1,q1⟩=>?_) hs hw
 rw[h1]
 exact cp (hg pins s1 σ H1 x v _ I1 r1 q1) λ_ s2 q=>q
theorem NP{i:Nat}{x:Str}{e:Expr}{te:TE}{pos':Pos}(hN:X.N.Nodup)(hi:X.N[i]?=some x)(hx:Loc X.env.scope x)(he:PE X e te)(hs:swapsWith e (some (.Name x pos')) pos.line X.env=pure false:=by rfl)(hf:X.fn x=true\/X.env.scope.names.lookup x=some .local:=by first | exact .inl rfl | exact .inr rfl | assumption) :
  PS X (.Assign [.Name x pos'] e pos) (qp te (cP i)):=by
 intro pins s σ H D I h
 refine wpAny_Assign_Name (cp (he pins s σ H _ I h) λv s1 ⟨y,H1,I1,r1,q1⟩=>?_) hs
 exact gi I1 hN hi hx r1 (λs2 I2=>⟨_,H1,I2,q1⟩) hf
def QR(i j:Nat)(ta:TA):TS:=λD σ H=>ta σ H λvs H1=>∃v w,vs=[v,w]/\D.nx ((σ.set i (some v)).set j (some w)) H1
def JM(i:Nat)(te:TE)(ti:Lq):TS:=λD σ H=>∃x,σ[i]?=some (some x)/\te σ H λy H1=>ti x y H1 λz H2=>D.nx (σ.set i (some z)) H2
theorem NX{i:Nat}{x:Str}{e:Expr}{te:TE}{op:Operator}{ti:Lq}{pos':Pos}(hN:X.N.Nodup)(hi:X.N[i]?=some x)(hx:Loc X.env.scope x)(he:PE X e te)(ho:P6 X op ti)(hf:X.fn x=true\/X.env.scope.names.lookup x=some .local:=by first | exact .inl rfl | exact .inr rfl | assumption) :
  PS X (.AugAssign (.Name x pos') op e pos) (JM i te ti):=by
 intro pins s σ H D I h
 obtain⟨v,e1,h⟩:=h
 obtain⟨m,hn,hl⟩:=I.loc
 have Ur:Qz X.env.scope x:=by rcases hx with k | k;exact .inl k;exact .inr (.inl k)
 obtain⟨u,r,l⟩:=hl i x v hi e1 Ur
 refine wpAny_AugAssign_Name ?_
 have go:wpAny (model X.prog X.w) X.A (eval e X.env) (λw s₂=>wpAny (model X.prog X.w) X.A (inplaceOp op u w) (λr s₃=>wpAny (model X.prog X.w) X.A (storeName X.env x r) (λ_=>SP X pins D .next) X.xe s₃) X.xe s₂) X.xe s:=by
  refine cp (he pins s σ H _ I h) λw s1 ⟨y,H1,I1,r1,q1⟩=>?_
  refine cp (ho pins s1 σ H1 v y u w _ I1 r r1 q1) λz s2 ⟨zv,H2,I2,r2,q2⟩=>?_
  exact gi I2 hN hi hx r2 (λs3 I3=>⟨_,H2,I3,q2⟩) hf
 rcases l with ⟨hk,hm⟩ | ⟨hk,c,hc,kW⟩
 ·exact wpAny_loadName_local I.ok.kind hk hn hm go
 ·rcases hk with hk | hk
  ·exact wpAny_loadName_cell I.ok.kind hk hc kW go
  ·rcases hx with k | k
   ·have:X.env.scope.names.lookup x=some .free:=hk
    rw[k]at this;cases this
   ·have:X.env.scope.names.lookup x=some .free:=hk
    rw[k]at this;cases this
def wH(to ti te:TE)(yU:V->V->Hp->VK->Prop)(M7:Lq)(yT:Al):TS:=λD σ H=>to σ H λo H1=>ti σ H1 λi H2=>yU o i H2 λx H3=>te σ H3 λy H4=>M7 x y H4 λz H5=>yT o i z H5 λH6=>D.nx σ H6
def P7(X:Cx)(t:V->V->Hp->VK->Prop):Prop:=
 ∀(pins:List (Addr×Obj)) (s:Shared) (σ:St) (H:Hp) (o i:V) (ov iv:Value) (Q:VK),Inv X pins σ H s->RelV o ov->RelV i iv->t o i H Q->
  wpAny (model X.prog X.w) X.A (getItem ov iv) (EP X pins σ Q) X.xe s
theorem Bv{o i e:Expr}{to ti te:TE}{yU:V->V->Hp->VK->Prop}{M7:Lq}{yT:Al}{op:Operator}{Fu:Pos}(ho:PE X o to)(hi:PE X i ti)(hg:P7 X yU)(he:PE X e te)(hp:P6 X op M7)(hs:Ew X yT)
  (ha:∀ov iv new,augStore i ov iv new=(do holding [new,ov,iv] (setItem ov iv new);release [new,ov,iv] [];pure .next):=by intros;rfl):PS X (.AugAssign (.Subscript o i Fu) op e pos) (wH to ti te yU M7 yT):=by
 intro pins s σ H D I h
 refine wpAny_AugAssign_SubscriptAny (cp (ho pins s σ H _ I h) λov s1 ⟨x1,H1,I1,r1,q1⟩=>?_) ha
 refine cp (hi pins s1 σ H1 _ I1 q1) λiv s2 ⟨x2,H2,I2,r2,q2⟩=>?_
 refine cp (hg pins s2 σ H2 x1 x2 ov iv _ I2 r1 r2 q2) λold s3 ⟨x3,H3,I3,r3,q3⟩=>?_
 refine cp (he pins s3 σ H3 _ I3 q3) λv s4 ⟨x4,H4,I4,r4,q4⟩=>?_
 refine cp (hp pins s4 σ H4 x3 x4 old v _ I4 r3 r4 q4) λnew s5 ⟨x5,H5,I5,r5,q5⟩=>?_
 exact cp (hs pins s5 σ H5 x1 x2 x5 ov iv new _ I5 r1 r2 r5 q5) λ_ s6 ⟨H6,I6,q6⟩=>⟨σ,H6,I6,q6⟩
def Qg(f:Int->Int->Int):Lq:=λx y H Q=>∃i j,x=.int i/\y=.int j/\Q (.int (f i j)) H
theorem Hz:P6 X .Add (Qg λi j=>i+j):=by
 intro pins s σ H x y v u Q I r1 r2 h
 obtain⟨i,j,e1,e2,q⟩:=h
 subst e1;subst e2
 obtain⟨t,rfl⟩:=r1
 obtain⟨t',rfl⟩:=r2
 exact iadd_int ⟨.int _,H,I.tok _,⟨_,rfl⟩,q⟩
theorem Oy:P6 X .Sub (Qg λi j=>i-j):=by
 intro pins s σ H x y v u Q I r1 r2 h
 obtain⟨i,j,e1,e2,q⟩:=h
 subst e1;subst e2
 obtain⟨t,rfl⟩:=r1
 obtain⟨t',rfl⟩:=r2
 exact isub_int ⟨.int _,H,I.tok _,⟨_,rfl⟩,q⟩
def yV(c:TT)(tb:TS):TS:=λD σ H=>∃W:Nat->St->Hp->Prop,(∃m,W m σ H)/\∀m σ H,W m σ H->
 c σ H λb H1=>if b=true then ∃N:St->Hp->Prop,(∀σ' H',N σ' H'->∃m',m'<m/\W m' σ' H')/\tb { D with nx:=N,ct:=N,bk:=D.nx } σ H1 else D.nx σ H1
theorem G0{c:Expr}{body:List Stmt}{tc:TT}{tb:TS}(hp:PassesOwn (model X.prog X.w) X.A X.env X.xe)(hc:PT X c tc)(hb:o9 X body tb):PS X (.While c body [] pos) (yV tc tb):=by
 intro pins s σ H D I h
 obtain⟨W,⟨m0,w0⟩,turn⟩:=h
 refine wpAny_While (codeAny_whileLoop (λn s'=>∃σ' H',Inv X pins σ' H' s'/\W n σ' H') ?_ m0 ⟨σ,H,I,w0⟩)
 rintro n s1 ⟨σ1,H1,I1,w1⟩
 refine pe hp (cp (hc pins s1 σ1 H1 _ I1 (turn n σ1 H1 w1)) λb s2 ⟨H2,I2,q2⟩=>?_)
 cases b with
 | true=>
  obtain⟨N,hN,q2⟩:=q2
  rw[aC rfl]
  refine pe hp (cp (hb pins s2 σ1 H2 _ I2 q2) λf s3 q3=>?_)
  cases f with
  | next=>
   obtain⟨σ3,H3,I3,n3⟩:=q3
   obtain⟨m',hm,w3⟩:=hN σ3 H3 n3
   exact⟨m',hm,σ3,H3,I3,w3⟩
  | cont=>
   obtain⟨σ3,H3,I3,n3⟩:=q3
   obtain⟨m',hm,w3⟩:=hN σ3 H3 n3
   exact⟨m',hm,σ3,H3,I3,w3⟩
  | brk=>exact q3
  | ret v=>exact q3
 | false=>
  rw[aB dh]
  exact uw ⟨σ1,H2,I2,q2⟩
end
structure It where
 go:Nat->Hp->Prop
 yP:Nat->Hp->V->Hp->Prop
 stop:Nat->Hp->Prop
def lN(X:Cx)(pins:List (Addr×Obj))(H:Hp)(b:Addr):Prop:=
 H b=none/\b≠X.env.locals/\b∉X.fs/\(b∈X.ex\/X.s₀.heap.objs.size<=b)/\(∀x c,X.env.cells.lookup x=some c->c≠b)/\∀p∈X.pn++pins,p.1≠b
theorem Inv.Ig{X:Cx}{pins:List (Addr×Obj)}{σ:St}{H H':Hp}{s:Shared}{b:Addr}(I:Inv X pins σ H s)(hb:s.heap.objs.size<=b)(hn:H' b=none):lN X pins H' b:=by
 refine⟨hn,js (eF I.lt hb),I.V6 hb,.inr (fz I.sz hb),λx c e z=>?_,λp hp z=>?_⟩
 ·obtain⟨v,q⟩:=I.cell x c e
  exact absurd (eF q.lt (by rw[z];exact hb)) (gJ _)
 ·exact absurd (eF (bf (I.pin p hp).1) (by rw[z];exact hb)) (gJ _)
structure Turn(P:Program)(w:World)(K:PySem.W.Frag)(tg:Expr)(J:It)(fp:List Addr)(it:Addr)(tn:Nat->Heap->Prop):Prop where
 mem:it∈fp
 obj:∀i h,tn i h->∀b∈fp,∃o,h.get? b=some o/\∀v,o.data≠.cell v
 keep:∀i h h',tn i h->(∀b∈fp,∀o,h.get? b=some o->h'.get? b=some o)->tn i h'
 item:∀(X:Cx),X.prog=P->X.w=w->X.K=K->X.calm=true->∀(i:Nat) (pins:List (Addr×Obj)) (s:Shared) (σ:St) (H:Hp) (E:Value->Shared->Prop),Inv X pins σ H s->(∀b∈fp,lN X pins H b)->tn i s.heap->J.go i H->
  wpAny (model P w) X.A (pyNext (.ref it)) (λr s1=>∃u,r=some u/\
   wpAny (model P w) X.A (letOwnedTupleGo tg (.ref it) u) (λ_ s2=>∃x H',Inv X pins σ H' s2/\RelV x u/\J.yP i H x H'/\tn (i+1) s2.heap/\∀b∈fp,H' b=none) E s1) E s
 done:∀(X:Cx),X.prog=P->X.w=w->X.K=K->X.calm=true->∀(i:Nat) (pins:List (Addr×Obj)) (s:Shared) (σ:St) (H:Hp) (E:Value->Shared->Prop),Inv X pins σ H s->(∀b∈fp,lN X pins H b)->tn i s.heap->J.stop i H->
  wpAny (model P w) X.A (pyNext (.ref it)) (λr s1=>r=none/\Inv X pins σ H s1) E s
 self:∀(A:Around) (i:Nat) (s:Shared) (Q:Value->Shared->Prop) (E:Value->Shared->Prop),tn i s.heap->Q (.ref it) s->wpAny (model P w) A (pyIter (.ref it)) Q E s
abbrev TI:=St->Hp->(It->Hp->Prop)->Prop
def PIE(X:Cx)(pins:List (Addr×Obj))(σ:St)(tg:Expr)(R:It->Hp->Prop)(Ox:Value)(s2:Shared):Prop:=
 ∃(it:Addr) (fp:List Addr) (tn:Nat->Heap->Prop) (J:It) (H':Hp),Ox=.ref it/\Inv X pins σ H' s2/\Turn X.prog X.w X.K tg J fp it tn/\tn 0 s2.heap/\(∀b∈fp,lN X pins H' b)/\R J H'
def PI(X:Cx)(tg iter:Expr)(wi:TI):Prop:=
 ∀(pins:List (Addr×Obj)) (s:Shared) (σ:St) (H:Hp) (R:It->Hp->Prop),Inv X pins σ H s->wi σ H R->
  wpAny (model X.prog X.w) X.A (eval iter X.env) (λv s1=>wpAny (model X.prog X.w) X.A (pyIter v) (PIE X pins σ tg R) X.xe s1) X.xe s
theorem xU{M : Model}{A : Around}{E : Value → Shared → Prop}{s : Shared}{tg : Expr}{it : Addr}{u : Value}{o : Obj}{n : String}{vs : Array Value}{Q : Unit → Shared → Prop}(ho : s.heap.get? it=some o)(hc : o.cls=.type n)(hd : o.data=.fields vs)
    (hn : ["enumerate", "zip", "dict_itemiterator", "dict_reverseitemiterator", "odict_iterator", "itertools.zip_longest", "itertools.pairwise"].contains n=false) (hQ : Q () s) : wpAny M A (letOwnedTupleGo tg (.ref it) u) Q E s := by
  unfold letOwnedTupleGo
  cases tg <;> first
    | exact aE hQ
    | (cases u <;> first
        | exact aE hQ
        | (refine aj (wpAny_load ho ?_)
           rw[hc, hd]
           show wpAny M A (if (["enumerate", "zip", "dict_itemiterator", "dict_reverseitemiterator", "odict_iterator", "itertools.zip_longest", "itertools.pairwise"].contains n&&vs[0]? == some (rawInt _))=true then _ else _) Q E s
           rw[aB (by intro h; rw[hn, Bool.false_and]at h; cases h)]
           exact aE hQ))
def Am(K:PySem.W.Frag)(a:Addr):It:=
 ⟨λi H=>∃xs x,lU K H a xs/\xs[i]?=some x,λi H x H'=>H'=H/\∀xs,lU K H a xs->xs[i]?=some x,λi H=>∃xs,lU K H a xs/\xs.length<=i⟩
def JF(K:PySem.W.Frag)(a:Addr):It:=
 ⟨λi H=>∃xs x,si K H a xs/\xs[i]?=some x,λi H x H'=>H'=H/\∀xs,si K H a xs->xs[i]?=some x,λi H=>∃xs,si K H a xs/\xs.length<=i⟩
def yk(lo:Int)(n:Nat):It:=⟨λi _=>i<n,λi H x H'=>H'=H/\x=.int (lo+i),λi _=>n<=i⟩
theorem Dg{P:Program}{w:World}{K:PySem.W.Frag}{tg:Expr}(a it:Addr):Turn P w K tg (Am K a) [it] it (λi h=>h.IsListIter it a i) where
 mem:=by simp
 obj:=λi h st b hb=>by
  have e:b=it:=by simpa using hb
  subst e
  obtain⟨o,e,c,d⟩:=st
  exact⟨o,e,λv z=>by rw[d]at z;cases z⟩
 keep:=λi h h' st k=>st.at λo e=>k it (by simp) o e
 item:=by
  intro X hP hw hK hc i pins s σ H E I hf st hg
  subst hP hw hK
  obtain⟨xs,x,hq,hx⟩:=hg
  obtain⟨its,rv,p,hz⟩:=I.list hq
  obtain⟨u,hu,ru⟩:=rv.get hx
  obtain⟨f0,f1,f2,f3,f4,f5⟩:=hf it (by simp)
  refine wpAny_pyNext_list_item st p.isList (x:=u) (by simpa using hu) λh' yq sb=>?_
  have I1:Inv X pins σ H { s with heap:=h' }:=I.turned (t':=s.toks) (λb o hb e=>(sb.2 b hb).trans e) f0 f1 f3 f4 f5
  obtain⟨o,e,c,d⟩:=id yq
  exact⟨u,rfl,xU (s:={ s with heap:=h' }) e c d (by decide) ⟨x,H,I1,ru,⟨rfl,λys hy=>by rw[I.Hu hy hq];exact hx⟩,yq,λb hb=>(hf b hb).1⟩⟩
 done:=by
  intro X hP hw hK hc i pins s σ H E I hf st hg
  subst hP hw hK
  obtain⟨xs,hq,hx⟩:=hg
  obtain⟨its,rv,p,hz⟩:=I.list hq
  obtain⟨f0,f1,f2,f3,f4,f5⟩:=hf it (by simp)
  have hl:=rv.length
  exact wpAny_pyNext_list_end (I.ok.hd hc) st p.isList (by simp;lia) λh' eb=>⟨rfl,I.turned (t':=s.toks) (λb o hb e=>eb b o hb e) f0 f1 f3 f4 f5⟩
 self:=λ_ _ _ _ _ st h=>wpAny_pyIter_listiter st h
theorem yQ{P:Program}{w:World}{K:PySem.W.Frag}{tg:Expr}(a it:Addr):Turn P w K tg (JF K a) [it] it (λi h=>h.IsTupleIter it a i) where
 mem:=by simp
 obj:=λi h st b hb=>by
  have e:b=it:=by simpa using hb
  subst e
  obtain⟨o,e,c,d⟩:=st
  exact⟨o,e,λv z=>by rw[d]at z;cases z⟩
 keep:=λi h h' st k=>st.at λo e=>k it (by simp) o e
 item:=by
  intro X hP hw hK hc i pins s σ H E I hf st hg
  subst hP hw hK
  obtain⟨xs,x,hq,hx⟩:=hg
  obtain⟨its,rv,p,hz⟩:=I.tuple hq
  obtain⟨u,hu,ru⟩:=rv.get hx
  obtain⟨f0,f1,f2,f3,f4,f5⟩:=hf it (by simp)
  refine wpAny_pyNext_tuple_item st (show s.heap.IsTuple a its.toArray from p) (x:=u) (by simpa using hu) λh' yq sb=>?_
  have I1:Inv X pins σ H { s with heap:=h' }:=I.turned (t':=s.toks) (λb o hb e=>(sb.2 b hb).trans e) f0 f1 f3 f4 f5
  obtain⟨o,e,c,d⟩:=id yq
  exact⟨u,rfl,xU (s:={ s with heap:=h' }) e c d (by decide) ⟨x,H,I1,ru,⟨rfl,λys hy=>by rw[I.tu hy hq];exact hx⟩,yq,λb hb=>(hf b hb).1⟩⟩
 done:=by
  intro X hP hw hK hc i pins s σ H E I hf st hg
  subst hP hw hK
  obtain⟨xs,hq,hx⟩:=hg
  obtain⟨its,rv,p,hz⟩:=I.tuple hq
  obtain⟨f0,f1,f2,f3,f4,f5⟩:=hf it (by simp)
  have hl:=rv.length
  exact wpAny_pyNext_tuple_end (I.ok.hd hc) st (show s.heap.IsTuple a its.toArray from p) (by simp;lia) λh' eb=>⟨rfl,I.turned (t':=s.toks) (λb o hb e=>eb b o hb e) f0 f1 f3 f4 f5⟩
 self:=λ_ _ _ _ _ st h=>wpAny_pyIter_tupleiter st h
theorem yR{P:Program}{w:World}{K:PySem.W.Frag}{tg:Expr}(it:Addr)(lo:Int)(n:Nat):Turn P w K tg (yk lo n) [it] it (λi h=>IsRangeIter h it (lo+(i:Nat)*1) ((n:Int)-(i:Nat)) 1) where
 mem:=by simp
 obj:=λi h st b hb=>by
  have e:b=it:=by simpa using hb
  subst e
  exact⟨_,st,λv z=>by
   have z':Data.fields _=Data.cell v:=z
   cases z'⟩
 keep:=λi h h' st k=>k it (by simp) _ st
 item:=by
  intro X hP hw hK hc i pins s σ H E I hf st hg
  subst hP hw hK
  obtain⟨f0,f1,f2,f3,f4,f5⟩:=hf it (by simp)
  have W:=Walks.range (prog:=X.prog) (w:=X.w) (I.ok.hd hc) it lo 1 n
  refine W.item i s _ _ hg st λv h' tk hv yq kk=>?_
  obtain⟨t,rfl⟩:=hv
  have I1:Inv X pins σ H { s with heap:=h',toks:=tk }:=I.turned (λb o hb e=>kk b o (by simpa using hb) e) f0 f1 f3 f4 f5
  refine⟨_,rfl,xU (s:={ s with heap:=h',toks:=tk }) (n:="range_iterator") yq rfl rfl (by decide) ⟨.int (lo+i),H,I1,⟨t,?_⟩,⟨rfl,rfl⟩,yq,λb hb=>(hf b hb).1⟩⟩
  rw[Int.mul_one]
 done:=by
  intro X hP hw hK hc i pins s σ H E I hf st hg
  subst hP hw hK
  obtain⟨f0,f1,f2,f3,f4,f5⟩:=hf it (by simp)
  exact wpAny_pyNext_range_end (I.ok.hd hc) st (by have:n<=i:=hg;lia) λh' eb=>⟨rfl,I.turned (t':=s.toks) (λb o hb e=>eb b o hb e) f0 f1 f3 f4 f5⟩
 self:=λ_ _ _ _ _ st h=>wpAny_pyIter_rangeiter st h
end L2
namespace L2
open PySem PySem.Spec PyProof.Rows
section
variable {X:Cx}{tg:Expr}
def xP(K:PySem.W.Frag)(tl:TE):TI:=λσ H R=>tl σ H λx H1=>∃a,x=.ref a/\(∃xs,lU K H1 a xs)/\R (Am K a) H1
def zR(K:PySem.W.Frag)(tl:TE):TI:=λσ H R=>tl σ H λx H1=>∃a,x=.ref a/\(∃xs,si K H1 a xs)/\R (JF K a) H1
theorem Kn{l:Expr}{tl:TE}(hl:PE X l tl):PI X tg l (xP X.K tl):=by
 intro pins s σ H R I h
 refine cp (hl pins s σ H _ I h) λv s1 ⟨x,H1,I1,r1,q1⟩=>?_
 obtain⟨a,e,⟨xs,hq⟩,q⟩:=q1
 subst e
 cases r1
 obtain⟨its,rv,p,hz⟩:=I1.list hq
 refine pI p.isList ?_
 refine⟨s1.heap.objs.size,[s1.heap.objs.size],_,_,H1,rfl,I1.kept (t':=s1.toks) λb o e=>bC _ e,Dg a _,⟨_,eG _ rfl,rfl,rfl⟩,λb hb=>?_,q⟩
 have e:b=s1.heap.objs.size:=by simpa using hb
 subst e
 exact I1.Ig (bu _) (I1.bp.fresh (bu _))
theorem NZ{l:Expr}{tl:TE}(hl:PE X l tl):PI X tg l (zR X.K tl):=by
 intro pins s σ H R I h
 refine cp (hl pins s σ H _ I h) λv s1 ⟨x,H1,I1,r1,q1⟩=>?_
 obtain⟨a,e,⟨xs,hq⟩,q⟩:=q1
 subst e
 cases r1
 obtain⟨its,rv,p,hz⟩:=I1.tuple hq
 refine wpAny_pyIter_tuple (show s1.heap.IsTuple a its.toArray from p) ?_
 refine⟨s1.heap.objs.size,[s1.heap.objs.size],_,_,H1,rfl,I1.kept (t':=s1.toks) λb o e=>bC _ e,yQ a _,⟨_,eG _ rfl,rfl,rfl⟩,λb hb=>?_,q⟩
 have e:b=s1.heap.objs.size:=by simpa using hb
 subst e
 exact I1.Ig (bu _) (I1.bp.fresh (bu _))
theorem Gs{pins:List (Addr×Obj)}{σ:St}{H:Hp}{s:Shared}{R:It->Hp->Prop}{E:Value->Shared->Prop}{lo hi:Int}{t u v:Tok}{tk:Nat}(I:Inv X pins σ H s)(h1 : -(2 ^ 62)<=lo)(h2:lo<2 ^ 62)(h3 : -(2 ^ 62)<=hi)(h4:hi<2 ^ 62)
  (q:R (yk lo (hi-lo).toNat) H):wpAny (model X.prog X.w) X.A (pyIter (.ref s.heap.objs.size)) (PIE X pins σ tg R) E { s with heap:=s.heap.push { cls:=.type "range",data:=.fields #[.int lo t,.int hi u,.int 1 v] },toks:=tk }:=by
 refine wpAny_pyIter_range (IsRange.new ..) (small_one h1 h2 h3 h4) ?_
 have I1:Inv X pins σ H { s with heap:=s.heap.push { cls:=.type "range",data:=.fields #[.int lo t,.int hi u,.int 1 v] },toks:=tk }:=I.kept λb o e=>bC _ e
 refine⟨(s.heap.push { cls:=.type "range",data:=.fields #[.int lo t,.int hi u,.int 1 v] }).objs.size,[(s.heap.push { cls:=.type "range",data:=.fields #[.int lo t,.int hi u,.int 1 v] }).objs.size],_,_,H,rfl,
  I1.kept (t':=tk) λb o e=>bC _ e,yR _ lo (hi-lo).toNat,?_,λb hb=>?_,q⟩
 ·have e1:lo+((0:Nat):Int)*1=lo:=by simp
  have e2:(((hi-lo).toNat:Nat):Int)-((0:Nat):Int)=Builtin.Range.rangeSize lo hi 1:=by rw[rangeSize_one];split <;> lia
  show IsRangeIter _ _ (lo+((0:Nat):Int)*1) ((((hi-lo).toNat:Nat):Int)-((0:Nat):Int)) 1
  rw[e1,e2]
  exact eG _ rfl
 ·have e:b=(s.heap.push { cls:=.type "range",data:=.fields #[.int lo t,.int hi u,.int 1 v] }).objs.size:=by simpa using hb
  subst e
  exact I1.Ig (bu _) (I1.bp.fresh (bu _))
def qQ(ta:TA):TI:=λσ H R=>ta σ H λvs H1=>∃j:Int,vs=[.int j]/\-(2 ^ 62)<=j/\j<2 ^ 62/\R (yk 0 j.toNat) H1
def HF(ta:TA):TI:=λσ H R=>ta σ H λvs H1=>∃i j:Int,vs=[.int i,.int j]/\(-(2 ^ 62)<=i/\i<2 ^ 62/\-(2 ^ 62)<=j/\j<2 ^ 62)/\R (yk i (j-i).toNat) H1
theorem tI{a:Expr}{ta:TA}{p pos:Pos}(hg:Gl X "range")(hm:X.mg "range" = none)(ha:PA X [a] ta)(hs:starEach [a] X.env=[(false,eval a X.env)]:=by rfl):PI X tg (.Call (.Name "range" p) [a] [] pos) (qQ ta):=by
 intro pins s σ H R I h
 refine Call_ (qG I hg hm boot_range (yO (cp (ha pos pins s σ H _ I h) λus s1 ⟨vs,H1,I1,r1,q1⟩=>?_) hs rfl))
 obtain⟨j,e,q1,q2,q⟩:=q1
 subst e
 cases r1 with
 | cons r rr=>
  cases rr
  obtain⟨t,rfl⟩:=r
  exact call_range_1 (Gs I1 (by lia) (by lia) q1 q2 (by simpa using q))
def JL(wi:TI)(g:TG)(tb:TS):TS:=λD σ H=>wi σ H λJ H1=>∃W:Nat->Nat->St->Hp->Prop,(∃m,W 0 m σ H1)/\∀i m σ H,W i m σ H->
 (J.stop i H/\D.nx σ H)\/(J.go i H/\∃N:St->Hp->Prop,(∀σ' H',N σ' H'->∃m',m'<m/\W (i+1) m' σ' H')/\∀x H',J.yP i H x H'->g x σ H' λσ2 H2=>tb { D with nx:=N,ct:=N,bk:=D.nx } σ2 H2)
def nq(fp:List Addr)(h:Heap):List (Addr×Obj):=fp.filterMap λb=>(h.get? b).map λo=>(b,o)
theorem e8{fp:List Addr}{h:Heap}{b:Addr}{o:Obj}(hb:b∈fp)(e:h.get? b=some o):(b,o)∈nq fp h:=List.mem_filterMap.mpr ⟨b,hb,by rw[e];rfl⟩
theorem DR{fp:List Addr}{h:Heap}{p:Addr×Obj}(hp:p∈nq fp h):p.1∈fp/\h.get? p.1=some p.2:=by
 obtain⟨b,hb,e⟩:=List.mem_filterMap.mp hp
 cases q:h.get? b with
 | none=>rw[q]at e;cases e
 | some o=>
  rw[q]at e
  have e':(b,o)=p:=dB e
  subst e'
  exact⟨hb,q⟩
theorem Inv.pinned{pins:List (Addr×Obj)}{σ:St}{H:Hp}{s:Shared}{fp:List Addr}(I:Inv X pins σ H s)(hf:∀b∈fp,lN X pins H b)(ho:∀b∈fp,∃o,s.heap.get? b=some o/\∀v,o.data≠.cell v):Inv X (pins++nq fp s.heap) σ H s:=
 I.Bw λp hp=>(nR.mp hp).elim (λz=>I.pin p (gL _ z)) λz=>by
  obtain⟨hb,e⟩:=DR z
  obtain⟨f0,f1,f2,_⟩:=hf p.1 hb
  obtain⟨o,e',d⟩:=ho p.1 hb
  rw[e]at e';cases e'
  exact⟨e,f0,f1,f2,d⟩
theorem Inv.jA{pins pl:List (Addr×Obj)}{σ:St}{H:Hp}{s:Shared}(I:Inv X (pins++pl) σ H s):Inv X pins σ H s:=I.Bw λp hp=>I.pin p (gL _ (uF _ hp))
theorem NR{iter:Expr}{body:List Stmt}{wi:TI}{g:TG}{tb:TS}{pos:Pos}(hp:PassesOwn (model X.prog X.w) X.A X.env X.xe)(hc:X.calm=true)(hi:PI X tg iter wi)(hg:PG X tg g)(hb:o9 X body tb)
  (hs:∀x,foldedSetIterable iter X.env x=pure x:=by intro _;rfl):PS X (.For tg iter body [] pos) (JL wi g tb):=by
 intro pins s σ H D I h
 refine wpAny_For (cp (hi pins s σ H _ I h) λv s1 h1=>cp h1 λOx s2 h2=>?_) hs
 obtain⟨it,fp,tn,J,H2,e,I2,T,wK,f2,W,⟨m0,w0⟩,turn⟩:=h2
 subst e
 have stat:∀{H':Hp},(∀b∈fp,H' b=none)->∀b∈fp,lN X pins H' b:=λhn b hb=>⟨hn b hb,(f2 b hb).2⟩
 refine codeAny_forLoop_any (λn s'=>∃i σ' H',Inv X pins σ' H' s'/\tn i s'.heap/\(∀b∈fp,H' b=none)/\W i n σ' H') ?_ m0 ⟨0,σ,H2,I2,wK,λb hb=>(f2 b hb).1,w0⟩
 rintro n s3 ⟨i,σ3,H3,I3,Y0,fr3,w3⟩
 rcases turn i n σ3 H3 w3 with ⟨stop,qn⟩ | ⟨go,N,hN,step⟩
 ·refine pe hp (cp (T.done X rfl rfl rfl hc i pins s3 σ3 H3 X.xe I3 (stat fr3) Y0 stop) λr s4 ⟨hr,I4⟩=>?_)
  subst hr
  exact uw ⟨σ3,H3,I4,qn⟩
 ·refine pe hp (cp (T.item X rfl rfl rfl hc i pins s3 σ3 H3 X.xe I3 (stat fr3) Y0 go) λr s4 ⟨u,hr,h4⟩=>?_)
  subst hr
  refine pe hp (cp h4 λ_ s5 ⟨x,H5,I5,r5,y5,Uw,fr5⟩=>?_)
  have I5':=I5.pinned (stat fr5) (T.obj _ _ Uw)
  refine pe hp (cp (hg _ s5 σ3 H5 x u _ I5' r5 (step x H5 y5)) λ_ s6 ⟨σ6,H6,I6,q6⟩=>?_)
  refine pe hp (cp (hb _ s6 σ6 H6 _ I6 q6) λf s7 q7=>?_)
  have again:∀{σ7:St} {H7:Hp},Inv X (pins++nq fp s5.heap) σ7 H7 s7->N σ7 H7->∃m,m<n/\∃i σ' H',Inv X pins σ' H' s7/\tn i s7.heap/\(∀b∈fp,H' b=none)/\W i m σ' H':=λ{σ7 H7} I7 n7=>by
   obtain⟨m',hm,w7⟩:=hN σ7 H7 n7
   refine⟨m',hm,i+1,σ7,H7,I7.jA,T.keep _ _ _ Uw λb hb o e=>(I7.pin (b,o) (gL _ (gL _ (e8 hb e)))).1,λb hb=>?_,w7⟩
   obtain⟨o,e,d⟩:=T.obj _ _ Uw b hb
   exact(I7.pin (b,o) (gL _ (gL _ (e8 hb e)))).2.1
  cases f with
  | next=>obtain⟨σ7,H7,I7,n7⟩:=q7;exact again I7 n7
  | cont=>obtain⟨σ7,H7,I7,n7⟩:=q7;exact again I7 n7
  | brk=>obtain⟨σ7,H7,I7,q7⟩:=q7;exact⟨σ7,H7,I7.jA,q7⟩
  | ret v=>obtain⟨x7,σ7,H7,I7,r7,q7⟩:=q7;exact⟨x7,σ7,H7,I7.jA,r7,q7⟩
end
theorem Ih{K:PySem.W.Frag}{a:Addr}{xs:List V}{g:TG}{tb:TS}{D:Ends}{σ:St}{H:Hp}(Pv:Nat->St->Hp->Prop)(h0:Pv 0 σ H)(hl:∀i σ H,i<=xs.length->Pv i σ H->lU K H a xs)
  (hs:∀i x σ H,xs[i]?=some x->Pv i σ H->g x σ H λσ2 H2=>tb { D with nx:=Pv (i+1),ct:=Pv (i+1),bk:=D.nx } σ2 H2) (hd:∀σ H,Pv xs.length σ H->D.nx σ H) :
  ∃W:Nat->Nat->St->Hp->Prop,(∃m,W 0 m σ H)/\∀i m σ H,W i m σ H->
   ((Am K a).stop i H/\D.nx σ H)\/((Am K a).go i H/\∃N:St->Hp->Prop,(∀σ' H',N σ' H'->∃m',m'<m/\W (i+1) m' σ' H')/\∀x H',(Am K a).yP i H x H'->g x σ H' λσ2 H2=>tb { D with nx:=N,ct:=N,bk:=D.nx } σ2 H2):=by
 refine⟨λi m σ H=>m=xs.length-i/\i<=xs.length/\Pv i σ H,⟨xs.length,by simp,gd _,h0⟩,?_⟩
 rintro i m σ H ⟨rfl,hi,p⟩
 have q:=hl i σ H hi p
 by_cases kc:i<xs.length
 ·refine .inr ⟨⟨xs,xs[i],q,by simp[kc]⟩,Pv (i+1),λσ' H' p'=>⟨xs.length-(i+1),by lia,rfl,kc,p'⟩,λx H' y=>?_⟩
  obtain⟨e,y⟩:=y
  subst e
  exact hs i x σ _ (y xs q) p
 ·have e:i=xs.length:=by lia
  subst e
  exact .inl ⟨⟨xs,q,bu _⟩,hd σ H p⟩
theorem K9{K:PySem.W.Frag}{a:Addr}{xs:List V}{g:TG}{tb:TS}{D:Ends}{σ:St}{H:Hp}(Pv:Nat->St->Hp->Prop)(h0:Pv 0 σ H)(hl:∀i σ H,i<=xs.length->Pv i σ H->si K H a xs)
  (hs:∀i x σ H,xs[i]?=some x->Pv i σ H->g x σ H λσ2 H2=>tb { D with nx:=Pv (i+1),ct:=Pv (i+1),bk:=D.nx } σ2 H2) (hd:∀σ H,Pv xs.length σ H->D.nx σ H) :
  ∃W:Nat->Nat->St->Hp->Prop,(∃m,W 0 m σ H)/\∀i m σ H,W i m σ H->
   ((JF K a).stop i H/\D.nx σ H)\/((JF K a).go i H/\∃N:St->Hp->Prop,(∀σ' H',N σ' H'->∃m',m'<m/\W (i+1) m' σ' H')/\∀x H',(JF K a).yP i H x H'->g x σ H' λσ2 H2=>tb { D with nx:=N,ct:=N,bk:=D.nx } σ2 H2):=by
 refine⟨λi m σ H=>m=xs.length-i/\i<=xs.length/\Pv i σ H,⟨xs.length,by simp,gd _,h0⟩,?_⟩
 rintro i m σ H ⟨rfl,hi,p⟩
 have q:=hl i σ H hi p
 by_cases kc:i<xs.length
 ·refine .inr ⟨⟨xs,xs[i],q,by simp[kc]⟩,Pv (i+1),λσ' H' p'=>⟨xs.length-(i+1),by lia,rfl,kc,p'⟩,λx H' y=>?_⟩
  obtain⟨e,y⟩:=y
  subst e
  exact hs i x σ _ (y xs q) p
 ·have e:i=xs.length:=by lia
  subst e
  exact .inl ⟨⟨xs,q,bu _⟩,hd σ H p⟩
theorem Ef{lo:Int}{n:Nat}{g:TG}{tb:TS}{D:Ends}{σ:St}{H:Hp}(Pv:Nat->St->Hp->Prop)(h0:Pv 0 σ H)
  (hs:∀i σ H,i<n->Pv i σ H->g (.int (lo+i)) σ H λσ2 H2=>tb { D with nx:=Pv (i+1),ct:=Pv (i+1),bk:=D.nx } σ2 H2) (hd:∀σ H,Pv n σ H->D.nx σ H) :
  ∃W:Nat->Nat->St->Hp->Prop,(∃m,W 0 m σ H)/\∀i m σ H,W i m σ H->
   ((yk lo n).stop i H/\D.nx σ H)\/((yk lo n).go i H/\∃N:St->Hp->Prop,(∀σ' H',N σ' H'->∃m',m'<m/\W (i+1) m' σ' H')/\∀x H',(yk lo n).yP i H x H'->g x σ H' λσ2 H2=>tb { D with nx:=N,ct:=N,bk:=D.nx } σ2 H2):=by
 refine⟨λi m σ H=>m=n-i/\i<=n/\Pv i σ H,⟨n,by simp,gd _,h0⟩,?_⟩
 rintro i m σ H ⟨rfl,hi,p⟩
 by_cases kc:i<n
 ·refine .inr ⟨kc,Pv (i+1),λσ' H' p'=>⟨n-(i+1),by lia,rfl,kc,p'⟩,λx H' y=>?_⟩
  obtain⟨e,y⟩:=y
  subst e y
  exact hs i σ _ kc p
 ·have e:i=n:=by lia
  subst e
  exact .inl ⟨bu _,hd σ H p⟩
end L2
namespace L2
open PySem PySem.Spec PyProof.Rows
abbrev R2:=V->V->Hp->VK->Prop
def kZ(X:Cx)(f:Value->Value->Sem Value)(r:R2):Prop:=
 ∀(pins:List (Addr×Obj)) (s:Shared) (σ:St) (H:Hp) (x y:V) (v u:Value) (Q:VK),Inv X pins σ H s->RelV x v->RelV y u->r x y H Q->
  wpAny (model X.prog X.w) X.A (f v u) (EP X pins σ Q) X.xe s
def cD(X:Cx)(f:Value)(r:List V->Hp->VK->Prop):Prop:=
 ∀(pins:List (Addr×Obj)) (s:Shared) (σ:St) (H:Hp) (xs:List V) (us:List Value) (Q:VK),Inv X pins σ H s->Vals xs us->r xs H Q->
  wpAny (model X.prog X.w) X.A (call f us) (EP X pins σ Q) X.xe s
def FJ(r:R2)(ta tb:TE):TE:=λσ H Q=>ta σ H λx H1=>tb σ H1 λy H2=>r x y H2 Q
def Us(r:V->Hp->VK->Prop)(ta:TE):TE:=λσ H Q=>ta σ H λx H1=>r x H1 Q
def rI(C:Int->Int->Prop)(g:Int->Int->V):R2:=λx y H Q=>∃i j,x=.int i/\y=.int j/\C i j/\Q (g i j) H
def Gu(g:Int->Int->V):R2:=λx y H Q=>∃i j,x=.int i/\y=.int j/\Q (g i j) H
def rU(g:Int->V):V->Hp->VK->Prop:=λx H Q=>∃i,x=.int i/\Q (g i) H
section
variable {X:Cx}{a b c:Expr}{ta tb tc:TE}{pos:Pos}
theorem P1(ha:PE X a ta)(hb:PE X b tb){pins:List (Addr×Obj)}{s:Shared}{σ:St}{H:Hp}{R:V->V->Hp->Prop}(I:Inv X pins σ H s)
  (h:ta σ H λx H1=>tb σ H1 λy H2=>R x y H2) {Q:Value->Shared->Prop} {f:Value->Value->Sem Value}
  (hf:∀v u s2 x y H2,Inv X pins σ H2 s2->RelV x v->RelV y u->R x y H2->wpAny (model X.prog X.w) X.A (f v u) Q X.xe s2) :
  wpAny (model X.prog X.w) X.A (eval a X.env) (λv s₁=>wpAny (model X.prog X.w) X.A (eval b X.env) (λu s₂=>wpAny (model X.prog X.w) X.A (f v u) Q X.xe s₂) X.xe s₁) X.xe s:=by
 refine cp (ha pins s σ H _ I h) λv s1 ⟨x,H1,I1,r1,q1⟩=>?_
 refine cp (hb pins s1 σ H1 _ I1 q1) λu s2 ⟨y,H2,I2,r2,q2⟩=>?_
 exact hf v u s2 x y H2 I2 r1 r2 q2
theorem Rj{op:Operator}{r:R2}(ho:kZ X (binaryOp op) r)(ha:PE X a ta)(hb:PE X b tb):PE X (.BinOp a op b pos) (FJ r ta tb):=by
 intro pins s σ H Q I h
 exact wpAny_BinOp (P1 ha hb I h λv u s2 x y H2 I2 rx ry q=>ho pins s2 σ H2 x y v u Q I2 rx ry q)
theorem TJ{f:Value->Value->Sem Value}{C:Int->Int->Prop}{g:Int->Int->Int}
  (rule:∀(i j:Int) (t u:Tok) (s:Shared) (Q:Value->Shared->Prop) (E:Value->Shared->Prop),C i j->Q (.int (g i j) s.toks) { s with toks:=s.toks+1 }->wpAny (model X.prog X.w) X.A (f (.int i t) (.int j u)) Q E s) :
  kZ X f (rI C λi j=>.int (g i j)):=by
 intro pins s σ H x y v u Q I rx ry h
 obtain⟨i,j,rfl,rfl,hc,q⟩:=h
 obtain⟨t,rfl⟩:=rx
 obtain⟨t',rfl⟩:=ry
 exact rule i j t t' s _ _ hc ⟨.int (g i j),H,I.tok _,⟨_,rfl⟩,q⟩
theorem Rq{f:Value->Value->Sem Value}{g:Int->Int->Int}
  (rule:∀(i j:Int) (t u:Tok) (s:Shared) (Q:Value->Shared->Prop) (E:Value->Shared->Prop),Q (.int (g i j) s.toks) { s with toks:=s.toks+1 }->wpAny (model X.prog X.w) X.A (f (.int i t) (.int j u)) Q E s) :
  kZ X f (Gu λi j=>.int (g i j)):=by
 intro pins s σ H x y v u Q I rx ry h
 obtain⟨i,j,rfl,rfl,q⟩:=h
 obtain⟨t,rfl⟩:=rx
 obtain⟨t',rfl⟩:=ry
 exact rule i j t t' s _ _ ⟨.int (g i j),H,I.tok _,⟨_,rfl⟩,q⟩
theorem Kw{f:Value->Value->Sem Value}{g:Int->Int->Bool}
  (rule:∀(i j:Int) (t u:Tok) (s:Shared) (Q:Value->Shared->Prop) (E:Value->Shared->Prop),Q (.bool (g i j)) s->wpAny (model X.prog X.w) X.A (f (.int i t) (.int j u)) Q E s) :
  kZ X f (Gu λi j=>.bl (g i j)):=by
 intro pins s σ H x y v u Q I rx ry h
 obtain⟨i,j,rfl,rfl,q⟩:=h
 obtain⟨t,rfl⟩:=rx
 obtain⟨t',rfl⟩:=ry
 exact rule i j t t' s _ _ ⟨.bl (g i j),H,I,rfl,q⟩
def Tq(i j:Int):Prop:=0<=j/\j<=1000000/\i.natAbs<2 ^ 64
def jj(i j:Int):Prop:=(-(2 ^ 64)<i/\i<2 ^ 64)\/(-(2 ^ 64)<j/\j<2 ^ 64)
theorem jj.ok{i j:Int}(h:jj i j):IntMulOk i j:=by
 rcases h with ⟨h1,h2⟩ | ⟨h1,h2⟩
 ·exact .of_left (intBits_le_64 h1 h2)
 ·exact .of_right (intBits_le_64 h1 h2)
theorem eZ:kZ X (binaryOp .Add) (Gu λi j=>.int (i+j)):=Rq λ_ _ _ _ _ _ _ q=>add_int q
theorem zl:kZ X (binaryOp .Sub) (Gu λi j=>.int (i-j)):=Rq λ_ _ _ _ _ _ _ q=>sub_int q
theorem lD:kZ X (binaryOp .Mult) (rI jj λi j=>.int (i*j)):=TJ λ_ _ _ _ _ _ _ hc q=>mul_int q hc.ok
theorem jF:kZ X (binaryOp .Mod) (rI (λ_ j=>0<j) λi j=>.int (i%j)):=TJ λi j _ _ _ _ _ hc q=>by
 have h1:(0:Int)<j:=hc
 exact mod_int' (by lia) (by rw[Int.fmod_eq_emod_of_nonneg i (by lia)];exact q)
theorem vn:kZ X (binaryOp .Pow) (rI Tq λi j=>.int (i ^ j.toNat)):=TJ λ_ _ _ _ _ _ _ hc q=>pow_int_small hc.1 hc.2.1 hc.2.2 q
end
def Gm:V->V->Bool
 | .non,.non=>true | .non,.int _=>true | .int _,.non=>true | .non,.bl _=>true | .bl _,.non=>true | .non,.str _=>true | .str _,.non=>true
 | .int _,.int _=>true | .bl _,.bl _=>true | .str _,.str _=>true | .Fe _,.Fe _=>true
 | .int _,.str _=>true | .str _,.int _=>true | .bl _,.str _=>true | .str _,.bl _=>true
 | _,_=>false
def TB:R2:=λx y H Q=>Gm x y=true/\Q (.bl (decide (x=y))) H
def Tz:R2:=λx y H Q=>Gm x y=true/\Q (.bl (!decide (x=y))) H
theorem Ce{i j:Int}:decide (V.int i=V.int j)=(i==j):=by
 rw[ph]
 simp
theorem Iq{i j:Bool}:decide (V.bl i=V.bl j)=(i==j):=by
 rw[ph]
 simp
theorem Cd{i j:Str}:decide (V.str i=V.str j)=(i==j):=by
 rw[ph]
 simp
theorem Cg{i j:Array UInt8}:decide (V.Fe i=V.Fe j)=(i.toList==j.toList):=by
 rw[ph]
 cases i
 cases j
 simp
section
variable {X:Cx}{a b c:Expr}{ta tb tc:TE}{pos:Pos}
theorem bw{pins:List (Addr×Obj)}{σ:St}{H:Hp}{s:Shared}{Q:VK}{k k':Bool}(I:Inv X pins σ H s)(q:Q (.bl k) H)(e:k=k'):EP X pins σ Q (.bool k') s:=by
 subst e
 exact⟨.bl k,H,I,rfl,q⟩
theorem mO:kZ X (compareOp .Eq) TB:=by
 intro pins s σ H x y v u Q I rx ry h
 obtain⟨hs,q⟩:=h
 cases x with
 | non=>
  cases rx
  cases y with
  | non=>cases ry;exact PySem.EqNone.eq_none_none (bw I q (by simp))
  | bl j=>cases ry;exact PySem.EqNone.eq_none_bool (bw I q (by simp))
  | int j=>obtain⟨t',rfl⟩:=ry;exact PySem.EqNone.eq_none_int (bw I q (by simp))
  | str j=>obtain⟨t',rfl⟩:=ry;exact PySem.EqNone.eq_none_str (bw I q (by simp))
  | _=>exact absurd (show false=true from hs) dh
 | bl i=>
  cases rx
  cases y with
  | non=>cases ry;exact PySem.EqNone.eq_bool_none (bw I q (by simp))
  | bl j=>cases ry;exact eq_bool (bw I q Iq)
  | str j=>obtain⟨t',rfl⟩:=ry;exact PySem.EqMixed.eq_bool_str (bw I q (by simp))
  | _=>exact absurd (show false=true from hs) dh
 | int i=>
  obtain⟨t,rfl⟩:=rx
  cases y with
  | non=>cases ry;exact PySem.EqNone.eq_int_none (bw I q (by simp))
  | int j=>obtain⟨t',rfl⟩:=ry;exact eq_int (bw I q Ce)
  | str j=>obtain⟨t',rfl⟩:=ry;exact PySem.EqMixed.eq_int_str (bw I q (by simp))
  | _=>exact absurd (show false=true from hs) dh
 | str i=>
  obtain⟨t,rfl⟩:=rx
  cases y with
  | non=>cases ry;exact PySem.EqNone.eq_str_none (bw I q (by simp))
  | bl j=>cases ry;exact PySem.EqMixed.eq_str_bool (bw I q (by simp))
  | int j=>obtain⟨t',rfl⟩:=ry;exact PySem.EqMixed.eq_str_int (bw I q (by simp))
  | str j=>obtain⟨t',rfl⟩:=ry;exact eq_str (bw I q Cd)
  | _=>exact absurd (show false=true from hs) dh
 | Fe i=>
  obtain⟨t,rfl⟩:=rx
  cases y with
  | Fe j=>obtain⟨t',rfl⟩:=ry;exact PySem.W.eq_bytes (bw I q Cg)
  | _=>exact absurd (show false=true from hs) dh
 | _=>cases y <;> exact absurd (show false=true from hs) dh
theorem Hf:kZ X (compareOp .NotEq) Tz:=by
 intro pins s σ H x y v u Q I rx ry h
 obtain⟨hs,q⟩:=h
 cases x with
 | non=>
  cases rx
  cases y with
  | non=>cases ry;exact PySem.EqNone.ne_none_none (bw I q (by simp))
  | bl j=>cases ry;exact PySem.EqNone.ne_none_bool (bw I q (by simp))
  | int j=>obtain⟨t',rfl⟩:=ry;exact PySem.EqNone.ne_none_int (bw I q (by simp))
  | str j=>obtain⟨t',rfl⟩:=ry;exact PySem.EqNone.ne_none_str (bw I q (by simp))
  | _=>exact absurd (show false=true from hs) dh
 | bl i=>
  cases rx
  cases y with
  | non=>cases ry;exact PySem.EqNone.ne_bool_none (bw I q (by simp))
  | bl j=>cases ry;exact ne_bool (bw I q (g4 not Iq))
  | str j=>obtain⟨t',rfl⟩:=ry;exact PySem.EqMixed.ne_bool_str (bw I q (by simp))
  | _=>exact absurd (show false=true from hs) dh
 | int i=>
  obtain⟨t,rfl⟩:=rx
  cases y with
  | non=>cases ry;exact PySem.EqNone.ne_int_none (bw I q (by simp))
  | int j=>obtain⟨t',rfl⟩:=ry;exact ne_int (bw I q (g4 not Ce))
  | str j=>obtain⟨t',rfl⟩:=ry;exact PySem.EqMixed.ne_int_str (bw I q (by simp))
  | _=>exact absurd (show false=true from hs) dh
 | str i=>
  obtain⟨t,rfl⟩:=rx
  cases y with
  | non=>cases ry;exact PySem.EqNone.ne_str_none (bw I q (by simp))
  | bl j=>cases ry;exact PySem.EqMixed.ne_str_bool (bw I q (by simp))
  | int j=>obtain⟨t',rfl⟩:=ry;exact PySem.EqMixed.ne_str_int (bw I q (by simp))
  | str j=>obtain⟨t',rfl⟩:=ry;exact ne_str (bw I q (g4 not Cd))
  | _=>exact absurd (show false=true from hs) dh
 | Fe i=>
  obtain⟨t,rfl⟩:=rx
  cases y with
  | Fe j=>obtain⟨t',rfl⟩:=ry;exact PySem.W.ne_bytes (bw I q (g4 not Cg))
  | _=>exact absurd (show false=true from hs) dh
 | _=>cases y <;> exact absurd (show false=true from hs) dh
theorem Hg:kZ X (compareOp .Lt) (Gu λi j=>.bl (decide (i<j))):=Kw λ_ _ _ _ _ _ _ q=>lt_int q
theorem Ro:kZ X (compareOp .LtE) (Gu λi j=>.bl (decide (i<=j))):=Kw λ_ _ _ _ _ _ _ q=>le_int q
theorem Mg:kZ X (compareOp .Gt) (Gu λi j=>.bl (decide (j<i))):=Kw λ_ _ _ _ _ _ _ q=>gt_int q
theorem Rp:kZ X (compareOp .GtE) (Gu λi j=>.bl (decide (j<=i))):=Kw λ_ _ _ _ _ _ _ q=>ge_int q
theorem cA(b:Expr){op:CmpOp}(h:op≠.In:=by decide)(h2:op≠.NotIn:=by decide):behindInMarks op b=false:=by
 have e1:(op==CmpOp.In)=false:=by cases op <;> first | rfl | exact absurd rfl h
 have e2:(op==CmpOp.NotIn)=false:=by cases op <;> first | rfl | exact absurd rfl h2
 cases b <;> simp[behindInMarks,e1,e2]
theorem Kt{op:CmpOp}{r:R2}(ho:kZ X (compareOp op) r)(ha:PE X a ta)(hb:PE X b tb)(hm:behindInMarks op b=false):PE X (.Compare a [op] [b] pos) (FJ r ta tb):=by
 intro pins s σ H Q I h
 exact wpAny_Compare1 (P1 ha hb I h λv u s2 x y H2 I2 rx ry q=>ho pins s2 σ H2 x y v u Q I2 rx ry q) hm
def wB(t:TE):TT:=λσ H Q=>t σ H λx H'=>∃k,x=.bl k/\Q k H'
theorem Kb{op:CmpOp}{r:R2}(ho:kZ X (compareOp op) r)(ha:PE X a ta)(hb:PE X b tb)(hm:behindInMarks op b=false):PT X (.Compare a [op] [b] pos) (wB (FJ r ta tb)):=by
 intro pins s σ H Q I h
 refine wpAny_isTrue_Compare1 (cp (ha pins s σ H _ I h) λv s1 ⟨x,H1,I1,r1,q1⟩=>cp (hb pins s1 σ H1 _ I1 q1) λu s2 ⟨y,H2,I2,r2,q2⟩=>
  cp (ho pins s2 σ H2 x y v u _ I2 r1 r2 q2) λc s3 ⟨z,H3,I3,r3,k,e,q3⟩=>?_) hm
 subst e
 cases r3
 exact pJ ⟨H3,I3,q3⟩
theorem qF:(sizeLine:Nat)<2 ^ 63:=by rw[sizeLine_eq];decide
theorem vals1{x:V}{us:List Value}(r:Vals [x] us):∃u,us=[u]/\RelV x u:=by
 cases r with
 | cons r1 r2=>cases r2;exact⟨_,rfl,r1⟩
theorem Ja:cD X (.builtin "abs") (λxs H Q=>∃i,xs=[.int i]/\Q (.int (if i<0 then -i else i)) H):=by
 intro pins s σ H xs us Q I r h
 obtain⟨i,rfl,q⟩:=h
 obtain⟨u,rfl,t,rfl⟩:=vals1 r
 exact call_abs_int λu tk=>⟨.int (if i<0 then -i else i),H,I.tok _,⟨_,rfl⟩,q⟩
end
end L2
namespace L2
open PySem PySem.Spec PyProof.Rows
structure P8(h:Heap)(x dx C:Addr)(mA:Str->Option Value):Prop where
 obj:h.get? x=some (PySem.W.instObj C dx)
 ns:h.Ns1 dx mA
 ne:dx≠x
theorem ny{h:Heap}{dx:Addr}{mA:Str->Option Value}(n:h.Ns1 dx mA):∃od,h.get? dx=some od/\∀name,PySem.W.lookIn name od=some (mA name):=by
 obtain⟨o,es,ep,ho,hd,hk,_,hm⟩:=n
 refine⟨o,ho,λname=>?_⟩
 have e:=hm name
 unfold nsFind findBy at e
 rw[<-Array.find?_toList]at e
 unfold PySem.W.lookIn
 rw[hd]
 dsimp only
 split
 ·rename_i y q
  rw[q]at e
  exact g4 some e
 ·rename_i q
  rw[q]at e
  have a:es.toList.any (·.refKey)=false:=by
   rw[List.any_eq_false]
   intro y hy
   obtain⟨z,t,hkey⟩:=hk y (Array.mem_toList_iff.mp hy)
   simp[DictEntry.refKey,hkey]
  have a':¬es.toList.any (·.refKey)=true:=by rw[a];exact dh
  rw[aB a']
  exact g4 some e
theorem P8.look{h:Heap}{x dx C:Addr}{mA:Str->Option Value}(I:P8 h x dx C mA):∃od,PySem.W.InstAt h x (PySem.W.instObj C dx) C (some od)/\∀name,PySem.W.lookIn name od=some (mA name):=
 let ⟨od,ho,hl⟩:=ny I.ns
 ⟨od,⟨I.obj,rfl,rfl,ho⟩,hl⟩
section
variable {prog:Program}{w:World}{A:Around}{E:Value->Shared->Prop}{s:Shared}{K:PySem.W.Frag}{x dx C f:Addr}{mA:Str->Option Value}{name:Str}{v:Value}
end
def Rg(f:Str)(v:V):List (Str×V)->List (Str×V)
 | []=>[(f,v)]
 | (g,x)::r=>if g=f then (g,v)::r else (g,x)::Rg f v r
theorem oQ.some_of{v:V}{o:Option Value}(r:oQ (some v) o):∃u,o=some u/\RelV v u:=by
 cases o with
 | none=>exact(show False from r).elim
 | some u=>exact⟨u,rfl,r⟩
theorem Ee{v:V}{u:Value}(r:RelV v u):PySem.W.handedIn u=true:=by
 cases v with
 | non=>cases (show u=Value.none from r);rfl
 | bl b=>cases (show u=Value.bool b from r);rfl
 | int i=>obtain⟨t,e⟩:=(show ∃t,u=Value.int i t from r);cases e;rfl
 | str x=>obtain⟨t,e⟩:=(show ∃t,u=Value.str x t from r);cases e;rfl
 | Fe b=>obtain⟨t,e⟩:=(show ∃t,u=Value.bytes b t from r);cases e;rfl
 | PJ b=>obtain⟨t,e⟩:=(show ∃t,u=Value.float b t from r);cases e;rfl
 | ref a=>cases (show u=Value.ref a from r);rfl
 | ty n=>cases (show u=Value.type n from r);rfl
section
variable {P:Program}{w:World}{H H':Hp}{h h':Heap}{a C dx:Addr}{fs fs':List (Str×V)}
theorem KN(bp:gb P w H h)(e:H a=some (.ins C dx fs)):∃mA,P8 h a dx C mA/\(∀f,oQ (fs.lookup f) (mA f))/\PySem.Within mA (fs.map (·.1))/\fs.length<=1000/\H dx=some (.own a):=by
 obtain⟨d,z,ne,ob,mA,n,r,q⟩:=(show bW P w H h a (.ins C dx fs) from bp a _ e)
 exact⟨mA,⟨ob,n,ne⟩,r,q,z,d⟩
end
structure Cls(K:PySem.W.Frag)(C:Addr):Prop where
 pg:PySem.W.plainGet K C Str.empty=true
 hd:PySem.W.hasDictIn K C=true
 po:PySem.W.plainOver K C=true
 sa:PySem.W.findIn K (.ref C) "__setattr__" = some (some (.builtin "object.__setattr__"))
theorem Cls.get{K:PySem.W.Frag}{C:Addr}(c:Cls K C)(f:Str):PySem.W.plainGet K C f=true:=c.pg
def Jk(K:PySem.W.Frag)(C:Addr)(f:Str):Prop:=PySem.W.findIn K (.ref C) f=some none
section
variable {X:Cx}{pins:List (Addr×Obj)}{σ:St}{H:Hp}{s:Shared}{a C dx:Addr}{fs:List (Str×V)}{f:Str}{v:V}{A:Around}{E:Value->Shared->Prop}
theorem Lj{prog:Program}{w:World}{env:Env}{e:Expr}{f:Str}{pos:Pos}{s:Shared}{Q:Value->Shared->Prop}(hb:attributeBase e f env (eval e env)=eval e env)
  (h:wpAny (model prog w) A (eval e env) (λo s₁=>wpAny (model prog w) A (getAttr o f true) Q E s₁) E s):wpAny (model prog w) A (eval (.Attribute e f pos) env) Q E s:=
 Attribute_any_ h (by rw[arm_eval_Attribute,hb])
end
def QT(K:PySem.W.Frag)(ta:TE)(f:Str):TE:=λσ H Q=>ta σ H λx H1=>∃a C dx fs v,x=.ref a/\H1 a=some (.ins C dx fs)/\Cls K C/\Jk K C f/\fs.lookup f=some v/\Q v H1
def Q7(K:PySem.W.Frag)(ta tv:TE)(f:Str):TS:=λD σ H=>tv σ H λy H1=>ta σ H1 λx H2=>∃a C dx fs,x=.ref a/\H2 a=some (.ins C dx fs)/\Cls K C/\Jk K C f/\fs.length<1000/\
 D.nx σ (upd H2 a (.ins C dx (Rg f y fs)))
section
variable {X:Cx}{o e value:Expr}{f:Str}{pos pos' Fu:Pos}{ta tv:TE}
end
section
variable {X:Cx}{pins:List (Addr×Obj)}{σ:St}{H:Hp}{s:Shared}{A:Around}{E:Value->Shared->Prop}{Q:Value->Shared->Prop}{c:Value}{b:Bool}
inductive mX (K:PySem.W.Frag) (H:Hp):V->Value->Prop where
 | non:mX K H .non (.type "NoneType")
 | bl (x:Bool):mX K H (.bl x) (.type "bool")
 | int (i:Int):mX K H (.int i) (.type "int")
 | str (x:Str):mX K H (.str x) (.type "str")
 | PJ (x:UInt64):mX K H (.PJ x) (.type "float")
 | lst {a:Addr} {xs:List V} (e:H a=some (.lst xs)):mX K H (.ref a) (.type "list")
 | tV {a:Addr} {o:Obj} {xs:List V} (e:H a=some (.tV o (.lst xs))):mX K H (.ref a) (.type "list")
 | tup {a:Addr} {xs:List V} (e:H a=some (.tup xs)):mX K H (.ref a) (.type "tuple")
 | dK {a:Addr} {aJ:List (Key×V)} (e:H a=some (.dK aJ)):mX K H (.ref a) (.type "dict")
 | dT {a:Addr} {aJ:List (List Key×V)} (e:H a=some (.dT aJ)):mX K H (.ref a) (.type "dict")
 | ins {a C dx:Addr} {fs:List (Str×V)} (e:H a=some (.ins C dx fs)) (cl:Cls K C) (ha:PySem.W.findIn K (.ref C) "__class__" = some (some (.builtin "object.__class__")))
   (hn:PySem.W.specialIn K (.builtin "object.__class__") "__get__" = some (some (.builtin "getset_descriptor.__get__"))) (Z3:PySem.W.takesIn K (.builtin "object.__class__")=some true)
   (hm:PySem.W.mroIn K C (.type "object")=some true):mX K H (.ref a) (.ref C)
theorem Eb{x:V}{u t:Value}(I:Inv X pins σ H s)(rx:RelV x u)(ty:mX X.K H x t)(e:PySem.W.kitOne X.K t c=some b)(h:∀tk,Q (.bool b) { s with toks:=tk }) :
  wpAny (model X.prog X.w) A (call (.builtin "isinstance") [u,c]) Q E s:=by
 cases ty with
 | non=>cases (show u=Value.none from rx);exact g7 PySem.W.kitx_none I.jn True.intro e (λz=>nomatch z) h
 | bl y=>cases (show u=Value.bool y from rx);exact g7 PySem.W.kitx_bool I.jn True.intro e (λz=>nomatch z) h
 | int i=>obtain⟨t,q⟩:=(show ∃t,u=Value.int i t from rx);cases q;exact g7 PySem.W.kitx_int I.jn True.intro e (λz=>nomatch z) h
 | str y=>obtain⟨t,q⟩:=(show ∃t,u=Value.str y t from rx);cases q;exact g7 PySem.W.kitx_str I.jn True.intro e (λz=>nomatch z) h
 | PJ y=>obtain⟨t,q⟩:=(show ∃t,u=Value.float y t from rx);cases q;exact g7 PySem.W.kitx_float I.jn True.intro e (λz=>nomatch z) h
 | @lst a xs ea=>
  cases (show u=Value.ref a from rx)
  obtain⟨_,_,n,_,h1⟩:=(show bW X.prog X.w H s.heap a (.lst xs) from I.bp a _ ea)
  exact g7 PySem.W.kitx_list I.jn ⟨_,h1,rfl⟩ e (λz=>nomatch z) h
 | @tV a ob xs ea=>
  cases (show u=Value.ref a from rx)
  obtain⟨_,_,_,n,_,h1⟩:=(show bW X.prog X.w H s.heap a (.tV ob (.lst xs)) from I.bp a _ ea)
  exact g7 PySem.W.kitx_list I.jn ⟨_,h1,rfl⟩ e (λz=>nomatch z) h
 | @tup a xs ea=>
  cases (show u=Value.ref a from rx)
  obtain⟨_,_,_,p⟩:=(show bW X.prog X.w H s.heap a (.tup xs) from I.bp a _ ea)
  obtain⟨o,h1,h2,_⟩:=p
  exact g7 PySem.W.kitx_tuple I.jn ⟨o,h1,h2⟩ e (λz=>nomatch z) h
 | @dK a aJ ea=>
  cases (show u=Value.ref a from rx)
  obtain⟨_,_,vs,_,p⟩:=(show bW X.prog X.w H s.heap a (.dK aJ) from I.bp a _ ea)
  obtain⟨o,es,ep,h1,h2,_⟩:=p
  exact g7 PySem.W.kitx_dict I.jn ⟨o,h1,h2.1⟩ e (λz=>nomatch z) h
 | @dT a aJ ea=>
  cases (show u=Value.ref a from rx)
  obtain⟨_,_,xs,_,o,es,ep,h1,h2,_⟩:=(show bW X.prog X.w H s.heap a (.dT aJ) from I.bp a _ ea)
  exact g7 PySem.W.kitx_dict I.jn ⟨o,h1,h2.1⟩ e (λz=>nomatch z) h
 | @ins a C dx fs ea cl ha hn Z3 hm=>
  cases (show u=Value.ref a from rx)
  obtain⟨mA,O,_⟩:=KN I.bp ea
  obtain⟨od,J,_⟩:=O.look
  exact g7 (PySem.W.kitx_own (cl.get _) cl.hd ha hn Z3 hm) I.jn J e (λz=>nomatch z) h
end
end L2
namespace L2
open PySem PySem.Spec PyProof.Rows
structure cB(k:Nat)(A:Around):Prop where
 hd:A.handled=none
 dp:A.depth+3*k+5<recursionLimit
 un:A.units+16*k+200<cLine
theorem cB.mono{j k:Nat}{A:Around}(r:cB k A)(h:j<=k:=by lia):cB j A:=⟨r.hd,by have:=r.dp;lia,by have:=r.un;lia⟩
theorem cB.deeper{k:Nat}{A:Around}(r:cB (k+1) A)(env:Env):cB k (A.deeper env):=
 ⟨r.hd,by have:=r.dp;show A.depth+1+3*k+5<_;lia,by have:=r.un;show A.units+3+16*k+200<_;lia⟩
theorem zE{A:Around}{C:Addr}{us:List Value}{kw:List (Str×Value)}:(A.under (.builtin "type.__call__" ⟨.ref C::us,kw⟩)).depth=A.depth+1:=by
 first | rfl | simp[Around.under,Code.weight,Code.isCreation,Code.isGuard,Code.isCaller,Code.frames,Code.isFrame,guardIds]
theorem zD{A:Around}{C:Addr}{us:List Value}{kw:List (Str×Value)}:(A.under (.builtin "type.__call__" ⟨.ref C::us,kw⟩)).units=A.units+1:=by
 first | rfl | simp[Around.under,Code.cUnits,Code.frames,Code.isFrame]
theorem cB.make{k:Nat}{A:Around}(r:cB (k+1) A)(C:Addr)(us:List Value)(kw:List (Str×Value)):cB k (A.under (.builtin "type.__call__" ⟨.ref C::us,kw⟩)):=
 ⟨r.hd,by have:=r.dp;rw[zE];lia,by have:=r.un;rw[zD];lia⟩
theorem cB.depth{k:Nat}{A:Around}(r:cB k A):A.depth<recursionLimit:=by have:=r.dp;lia
theorem cB.units{k:Nat}{A:Around}(r:cB k A):A.units+64<cLine:=by have:=r.un;lia
theorem cB.gR{k:Nat}{A:Around}(r:cB k A):A.units<cLine:=by have:=r.un;lia
def FN:TA:=λ_ H Q=>Q [] H
def wG(ta:TE)(tr:TA):TA:=λσ H Q=>ta σ H λx H1=>tr σ H1 λxs H2=>Q (x::xs) H2
section
variable {X:Cx}{e:Expr}{es:List Expr}{te:TE}{t:TA}{pos:Pos}
theorem He:PA X [] FN:=λ_ _ _ _ H Q I h=>Calls.spliced_nil ⟨[],H,I,.nil,h⟩
theorem vm(ha:PE X e te)(hr:PA X es t)(hs:starEach (e::es) X.env=(false,eval e X.env)::starEach es X.env:=by rfl):PA X (e::es) (wG te t):=by
 intro pos pins s σ H Q I h
 rw[hs]
 show wpAny _ _ (spliced ((false,eval e X.env)::backTo pos (starEach es X.env))) _ _ s
 refine Calls.spliced_cons (cp (ha pins s σ H _ I h) λu s1 ⟨x,H1,I1,r1,q1⟩=>?_)
 exact cp (hr pos pins s1 σ H1 _ I1 q1) λus s2 ⟨xs,H2,I2,r2,q2⟩=>⟨x::xs,H2,I2,.cons r1 r2,q2⟩
def Fw(t:TA):TE:=λσ H Q=>t σ H λxs H1=>xs.length<=sizeLine/\∀p,H1 p=none->Q (.ref p) (upd H1 p (.tup xs))
def FP(t:TA):TE:=λσ H Q=>t σ H λxs H1=>xs.length<=sizeLine/\∀p,H1 p=none->Q (.ref p) (upd H1 p (.lst xs))
theorem N0{x1}(h:PA X es t):PE X (.Tuple es x1 pos) (Fw t):=by
 intro pins s σ H Q I hq
 refine wpAny_Tuple_spliced (cp (h pos pins s σ H _ I hq) λus s1 ⟨xs,H1,I1,r,z,q⟩=>⟨by rw[<-r.length];exact z,?_⟩)
 have hf:H1 s1.heap.objs.size=none:=I1.bp.fresh (bu _)
 refine⟨.ref s1.heap.objs.size,upd H1 s1.heap.objs.size (.tup xs),I1.laid (t':=s1.toks) (λb u e=>bC _ e) (bu _) ?_,rfl,q _ hf⟩
 exact⟨z,us,r,⟨_,eG _ rfl,rfl,_,rfl⟩⟩
theorem N5(h:PA X es t):PE X (.List es pos) (FP t):=by
 intro pins s σ H Q I hq
 refine wpAny_List_spliced (cp (h pos pins s σ H _ I hq) λus s1 ⟨xs,H1,I1,r,z,q⟩=>⟨by rw[<-r.length];exact z,?_⟩)
 have hf:H1 s1.heap.objs.size=none:=I1.bp.fresh (bu _)
 refine⟨.ref s1.heap.objs.size,upd H1 s1.heap.objs.size (.lst xs),I1.laid (t':=s1.toks) (λb u e=>bC _ e) (bu _) ?_,rfl,q _ hf⟩
 exact⟨z,us,0,r,eG _ rfl⟩
end
abbrev Sp:=List V->Hp->VK->XK->Prop
abbrev CQ:=List Env->Hp->Shared->XK->Value->Shared->Prop
structure lQ(P:Program)(w:World)(K:PySem.W.Frag)(mg:Str->Option Value)(base:Heap)(A:Around)(outer:List Env)(s:Shared)(H:Hp):Prop where
 frames:A.frames=some outer
 mod:Mod K mg base
 bs:∀b o,base.get? b=some o->s.heap.get? b=some o/\H b=none
 yb:base.objs.size<=s.heap.objs.size
 il:s.heap.FunFrames base outer
 zX:∀b∈ke outer,H b=none
 bp:gb P w H s.heap
 bare:AllBare s.gens
def CE(outer:List Env)(P:Program)(w:World)(H:Hp)(s:Shared)(Q:VK)(u:Value)(s':Shared):Prop:=
 ∃v H',s'.os=s.os/\AllBare s'.gens/\Un (ke outer) [] H H' s.heap s'.heap/\gb P w H' s'.heap/\RelV v u/\Q v H'
def CR(CX:CQ)(outer:List Env)(P:Program)(w:World)(H:Hp)(s:Shared)(Q:VK)(E:XK)(r:Result)(s':Shared):Prop:=
 match r with
 | .ok (.ret u)=>CE outer P w H s Q u s'
 | .ok _=>False
 | .error e=>CX outer H s E e s'
structure cw(P:Program)(w:World)(K:PySem.W.Frag)(mg:Str->Option Value)(base:Heap)(CX:CQ)(k:Nat)(f:Addr)(fd:FuncData)(ps:List Str)(sp:Sp):Prop where
 len:∀vs H Q E,sp vs H Q E->vs.length=ps.length
 run:∀(A:Around) (outer:List Env) (s:Shared) (H:Hp) (args:Args) (us:List Value) (vs:List V) (Q:VK) (E:XK),cB k A->lQ P w K mg base A outer s H->BindsTo s fd args (ps.zip us)->Vals vs us->sp vs H Q E->
  codeAny (model P w) A (.call (.ref f) args) (CR CX outer P w H s Q E) s
theorem lQ.make{P:Program}{w:World}{K:PySem.W.Frag}{mg:Str->Option Value}{base:Heap}{A:Around}{outer:List Env}{s:Shared}{H:Hp}(e:lQ P w K mg base A outer s H)(C:Addr)(us:List Value)(kw:List (Str×Value)) :
  lQ P w K mg base (A.under (.builtin "type.__call__" ⟨.ref C::us,kw⟩)) outer s H:=⟨by first | exact e.frames | (simpa [Around.under,Code.envs,Code.isFrame,pushEnvs]using e.frames),e.mod,e.bs,e.yb,e.il,e.zX,e.bp,e.bare⟩
section
variable {X:Cx}{pins:List (Addr×Obj)}{σ:St}{H:Hp}{s s':Shared}
theorem Inv.z5(I:Inv X pins σ H s):lQ X.prog X.w X.K X.mg X.base X.A X.stack s H:=
 ⟨I.ok.frames,I.ok.mod,I.bs,fz I.ok.yb I.sz,I.stack,I.mF,I.bp,I.bare⟩
theorem Inv.after{Q:VK}{u:Value}(I:Inv X pins σ H s)(h:CE X.stack X.prog X.w H s Q u s'):EP X pins σ Q u s':=by
 obtain⟨v,H',os,bare,un,bp,r,q⟩:=h
 obtain⟨hh,g,d,t,Rn⟩:=s'
 obtain rfl:Rn=s.os:=os
 exact⟨v,H',I.call (h':=hh) (g':=g) (d':=d) (t':=t) (ch:=[]) un bp bare (λb z=>absurd z (by simp)),r,q⟩
end
def tE(sp:Sp)(yt:List V)(E:XK)(t:TA):TE:=λσ H Q=>t σ H λvs H1=>sp (vs++yt) H1 Q E
def LR(C:Addr)(m:Str)(sp:Sp)(yt:List V)(E:XK)(ta:TE)(t:TA):TE:=λσ H Q=>ta σ H λx H1=>∃a dx fs,x=.ref a/\H1 a=some (.ins C dx fs)/\fs.lookup m=none/\
 t σ H1 λvs H2=>sp (x::(vs++yt)) H2 Q E
def LW(C:Addr)(sp:Sp)(yt:List V)(E:XK)(t:TA):TE:=λσ H Q=>t σ H λvs H1=>∀x dx,H1 x=none->H1 dx=none->dx≠x->
 sp (.ref x::(vs++yt)) (upd (upd H1 dx (.own x)) x (.ins C dx [])) (λv H2=>v=.non/\Q (.ref x) H2) E
def Binds(K:PySem.W.Frag)(fd:FuncData)(ps:List Str)(ds:List Value):Prop:=
 ∀(s:Shared) (us:List Value),K.In s.heap->(us++ds).length=ps.length->BindsTo s fd ⟨us,[]⟩ (ps.zip (us++ds))
theorem Binds.all{K:PySem.W.Frag}{fd:FuncData}{ps:List Str}(h:∀us:List Value,us.length=ps.length->bindArgs fd ⟨us,[]⟩=pure (ps.zip us)):Binds K fd ps []:=λs us _ hl=>by
 rw[gh]at hl ⊢
 exact .of_eq (h us hl)
def Passes(CX:CQ)(X:Cx)(E:XK):Prop:=∀(pins:List (Addr×Obj)) (σ:St) (H:Hp) (s:Shared) (e:Value) (s':Shared),Inv X pins σ H s->CX X.stack H s E e s'->X.xe e s'
section
variable {X:Cx}{CX:CQ}{k:Nat}{f C:Addr}{fd:FuncData}{ps:List Str}{sp:Sp}{yt:List V}{ds:List Value}{E:XK}{x m:Str}{p pos apos:Pos}{e o:Expr}{es:List Expr}{ta:TE}{t:TA}
theorem Np{pins:List (Addr×Obj)}{σ:St}{H:Hp}{s:Shared}{Q:VK}{us:List Value}{vs:List V}(F:cw X.prog X.w X.K X.mg X.base CX k f fd ps sp)(hr:cB k X.A)(hb:Binds X.K fd ps ds)(hd:Vals yt ds)(hx:Passes CX X E)
  (I:Inv X pins σ H s) (r:Vals vs us) (h:sp (vs++yt) H Q E):wpAny (model X.prog X.w) X.A (call (.ref f) us) (EP X pins σ Q) X.xe s:=by
 have r2:Vals (vs++yt) (us++ds):=r.append hd
 have hl:(us++ds).length=ps.length:=by rw[<-r2.length];exact F.len _ _ _ _ h
 refine gH (gI (F.run X.A X.stack s H ⟨us,[]⟩ (us++ds) (vs++yt) Q E hr I.z5 (hb s us I.jn hl) r2 h) λr s' hq=>?_)
 cases r with
 | error e=>exact hx pins σ H s e s' I hq
 | ok fl=>
  cases fl with
  | ret u=>exact I.after hq
  | next=>exact False.elim hq
  | brk=>exact False.elim hq
  | cont=>exact False.elim hq
theorem oZ(F:cw X.prog X.w X.K X.mg X.base CX k f fd ps sp)(hr:cB k X.A)(hg:Gl X x)(hm:X.mg x=some (.ref f))(hk:PySem.W.keepIn X.K (.ref f)=true)(hb:Binds X.K fd ps ds)(hd:Vals yt ds)(hx:Passes CX X E)
  (ha:PA X (e::es) t) (jI:(x==("__debug__" : Str))=false:=by decide) (he:starEach (e::es) X.env=(false,eval e X.env)::starEach es X.env:=by rfl) (jo:(backTo pos (starEach es X.env)).any (·.1)=false:=by rfl) :
  PE X (.Call (.Name x p) (e::es) [] pos) (tE sp yt E t):=by
 intro pins s σ H Q I h
 refine lZ (fW I hg hm ?_ jI)
 refine sH (h₀:=X.base) I.ok.mod.Jt hk (cp (ha pos pins s σ H _ I h) λus s1 ⟨vs,H1,I1,r,q⟩=>⟨I1.jn,?_⟩) he jo
 exact Np F hr hb hd hx I1 r q
end
section
variable {X:Cx}{CX:CQ}{k:Nat}{f C:Addr}{fd:FuncData}{ps ks:List Str}{sp:Sp}{E:XK}{x m:Str}{p pos apos RB:Pos}{e o:Expr}{es:List Expr}{kws:List Keyword}{te ta:TE}{t tk:TA}{nm:Option Str}
variable {g:List Value->List Value->List Value}{gV:List V->List V->List V}
end
structure aL(N P:List Str)(sc:Scope):Prop where
 kind:sc.kind=.function
 co:sc.isCoroutine=false
 gen:sc.isGenerator=false
 nd:N.Nodup
 pre:N.take P.length=P
 par:∀x∈P,sc.names.lookup x=some .local\/sc.names.lookup x=some .cell
 Og:∀y∈sc.names,y.2≠.free
theorem t9{kindOf:Str->Option NameKind}{x:Str}:∀{binds:List (Str×Value)} {m:Str->Option Value},(∀v,(x,v)∉binds)->bindL kindOf binds m x=m x
 | [],_,_=>rfl
 | (n,v)::r,m,h=>by
  unfold bindL
  rw[t9 λw hw=>h w (dR _ hw)]
  split
  ·have:x≠n:=by rintro rfl;exact h v dF
   simp[this]
  ·rfl
theorem uc{kindOf:Str->Option NameKind}{x:Str}:∀{binds:List (Str×Value)} {m:Str->Option Value},(∀v,(x,v)∉binds)->bindC kindOf binds m x=m x
 | [],_,_=>rfl
 | (n,v)::r,m,h=>by
  unfold bindC
  rw[uc λw hw=>h w (dR _ hw)]
  split
  ·rfl
  ·have:x≠n:=by rintro rfl;exact h v dF
   simp[this]
theorem ua{kindOf:Str->Option NameKind}{x:Str}{v:Value}:∀{P:List Str} {vs:List Value} {i:Nat} {m:Str->Option Value},P.Nodup->P[i]?=some x->vs[i]?=some v->kindOf x=some .local->
  bindL kindOf (P.zip vs) m x=some v
 | [],_,_,_,_,h,_,_=>by simp at h
 | _::_,[],_,_,_,_,h,_=>by simp at h
 | p::P,w::vs,0,m,nd,h1,h2,hk=>by
  simp at h1 h2;subst h1;subst h2
  show bindL kindOf ((p,w)::P.zip vs) m p=_
  unfold bindL
  rw[t9 λv hv=>(sx.mp nd).1 (sy hv).1,aC hk]
  simp
 | p::P,w::vs,i+1,m,nd,h1,h2,hk=>by
  show bindL kindOf ((p,w)::P.zip vs) m x=_
  unfold bindL
  exact ua (i:=i) (sx.mp nd).2 (by simpa using h1) (by simpa using h2) hk
theorem ud{kindOf:Str->Option NameKind}{x:Str}{v:Value}:∀{P:List Str} {vs:List Value} {i:Nat} {m:Str->Option Value},P.Nodup->P[i]?=some x->vs[i]?=some v->kindOf x≠some .local->
  bindC kindOf (P.zip vs) m x=some v
 | [],_,_,_,_,h,_,_=>by simp at h
 | _::_,[],_,_,_,_,h,_=>by simp at h
 | p::P,w::vs,0,m,nd,h1,h2,hk=>by
  simp at h1 h2;subst h1;subst h2
  show bindC kindOf ((p,w)::P.zip vs) m p=_
  unfold bindC
  rw[uc λv hv=>(sx.mp nd).1 (sy hv).1,aB hk]
  simp
 | p::P,w::vs,i+1,m,nd,h1,h2,hk=>by
  show bindC kindOf ((p,w)::P.zip vs) m x=_
  unfold bindC
  exact ud (i:=i) (sx.mp nd).2 (by simpa using h1) (by simpa using h2) hk
def start(N:List Str)(vs:List V):St:=vs.map some++List.replicate (N.length-vs.length) none
def cM(CX:CQ)(P:Program)(w:World)(K:PySem.W.Frag)(mg:Str->Option Value)(base:Heap)(N:List Str)(qual:Str)(scope:Scope)(f:Addr)(cd:Value)(A:Around)(outer:List Env)(s:Shared)(H:Hp)(E:XK):Cx where
 prog:=P
 w:=w
 K:=K
 mg:=mg
 base:=base
 A:=A.deeper (envOfC qual scope s.heap.objs.size f cd)
 N:=N
 s₀:=s
 H₀:=H
 env:=envOfC qual scope s.heap.objs.size f cd
 outer:=outer
 stack:=envOfC qual scope s.heap.objs.size f cd::outer
 ex:=[]
 calm:=true
 fn:=λ_=>true
 pn:=[]
 xe:=λe s'=>wpAny (model P w) (A.deeper (envOfC qual scope s.heap.objs.size f cd)) (leaving (envOfC qual scope s.heap.objs.size f cd) e) (λ_ Q9=>CX outer H s E e Q9) (λe' Q9=>CX outer H s E e' Q9) s'
theorem x9{sc:Scope}{n:Nat}{x:Str}(h:sc.names.lookup x=some .cell):∃c,(cellsFrom n sc.names []).lookup x=some c:=by
 have q:=uH sc.names n [] (.inl h)
 exact Option.isSome_iff_exists.mp q
theorem tR{CX:CQ}{P:Program}{w:World}{K:PySem.W.Frag}{mg:Str->Option Value}{base:Heap}{N ps:List Str}{qual:Str}{scope:Scope}{f:Addr}{cd:Value}{A:Around}{outer:List Env}{s s1:Shared}{H:Hp}{E:XK}{us:List Value}{vs:List V}
  (S:aL N ps scope) (hd:A.handled=none) (e0:lQ P w K mg base A outer s H) (hl:vs.length=ps.length) (r:Vals vs us)
  (x:InCallC s s.heap.objs.size (bindL (envOfC qual scope s.heap.objs.size f cd).kindOf (ps.zip us) λ_=>none) (cellsFrom (s.heap.objs.size+1) scope.names []) (bindC (envOfC qual scope s.heap.objs.size f cd).kindOf (ps.zip us) λ_=>none) s1) :
  Inv (cM CX P w K mg base N qual scope f cd A outer s H E) [] (start N vs) H s1:=by
 have jo:ps.length<=N.length:=by have:=g4 List.length S.pre;rw[kB]at this;lia
 obtain⟨h1,tk,rfl,hk⟩:=x.done
 have Jr:∀b:Addr,b∉(cM CX P w K mg base N qual scope f cd A outer s H E).ex:=λb z=>absurd (show b∈([]:List Addr) from z) (by simp)
 refine⟨⟨e0.mod,S.kind,rfl,rfl,bu _,λy z c h1 h2=>?_,λy hy=>?_,λy c _ h=>?_,λ_=>hd,Around.frames_deeper e0.frames,.inr ⟨rfl,rfl⟩,λb z=>absurd z (Jr b),e0.bs,e0.yb,λb _ _=>Jr b,λb z=>absurd z (Jr b),e0.il,e0.zX⟩,
  rfl,e0.bare,Un.kept hk,⟨_,x.toInCall.ns,λi y v h1 h2 h3=>?_⟩,λy c h=>⟨_,x.cell y c h⟩,e0.bp.fresh (bu _),λy c h=>?_,λp hp=>absurd (show p∈([]:List (Addr×Obj)) from hp) (by simp),e0.bp.kept hk,?_⟩
 ·exact name_of_addr x.apart (g9 h1) (g9 h2)
 ·have hy:scope.names.lookup y=some .cell\/scope.names.lookup y=some .free:=hy
  rcases hy with hy | hy
  ·exact x9 hy
  ·exact absurd rfl (S.Og _ (g9 hy))
 ·exact lu (x.above y c (g9 h))
 ·have hi:i<vs.length:=by
   unfold start at h2
   by_cases hi:i<vs.length
   ·exact hi
   ·rw[mj (by simpa using hi)]at h2
    rw[List.getElem?_replicate]at h2
    split at h2 <;> cases h2
  have ha:vs[i]?=some v:=by
   unfold start at h2
   rw[nY (by simpa using hi),fB]at h2
   cases e:vs[i]? with
   | none=>rw[e]at h2;cases h2
   | some a=>rw[e]at h2;cases h2;rfl
  obtain⟨u,hu,rv⟩:=r.get ha
  have hp:ps[i]?=some y:=by
   rw[<-S.pre,List.getElem?_take_of_lt (by lia)];exact h1
  have TQ:ps.Nodup:=by rw[<-S.pre];exact S.nd.sublist (List.take_sublist _ _)
  refine⟨u,rv,?_⟩
  rcases S.par y (mh hp) with k | k
  ·exact .inl ⟨k,ua TQ hp hu k⟩
  ·obtain⟨c,e⟩:=x9 (n:=s.heap.objs.size+1) k
   refine .inr ⟨.inl k,c,e,?_⟩
   have q:=x.cell y c e
   rw[ud TQ hp hu (by show scope.names.lookup y≠_;rw[k];decide)]at q
   exact q
 ·exact e0.bp.fresh (lu (x.above y c (g9 h)))
 ·unfold start
  show _=N.length
  rw[eL,bN,pz]
  lia
theorem Ii{CX:CQ}{P:Program}{w:World}{K:PySem.W.Frag}{mg:Str->Option Value}{base:Heap}{k:Nat}{f:Addr}{name qual:Str}{params:Arguments}{body:List Stmt}{scope:Scope}{dV kV doc pm bE ct oc:Value}{an od:Option Addr}
  {rO:Array (Option Value)} {N ps:List Str} {sp:Sp} (lk:K.lookup f=some ⟨oc,od,.func (PySem.W.fnOf name qual params body scope dV kV doc pm an bE ct),rO⟩) (nA:PySem.W.codeIn K bE qual=true) (S:aL N ps scope)
  (len:∀vs H Q E,sp vs H Q E->vs.length=ps.length)
  (dm:∀(A:Around) (outer:List Env) (s:Shared) (H:Hp) (vs:List V) (Q:VK) (E:XK),cB k (A.deeper (envOfC qual scope s.heap.objs.size f bE))->sp vs H Q E->
   ∃t,o9 (cM CX P w K mg base N qual scope f bE A outer s H E) body t/\t { nx:=λ_ H'=>Q .non H',rt:=Q } (start N vs) H) :
  cw P w K mg base CX (k+1) f (PySem.W.fnOf name qual params body scope dV kV doc pm an bE ct) ps sp:=by
 refine⟨len,λA outer s H args us vs Q E hr e0 hb r o4=>?_⟩
 have hl:=len _ _ _ _ o4
 have KX:K.In s.heap:=e0.mod.Jt.keeps λb o e=>(e0.bs b o e).1
 have lim:s.heap.NoLimit:=e0.mod.nolimit.keeps λb o e=>(e0.bs b o e).1
 have xQ:∀y∈ps.zip us,scope.names.lookup y.1=some .local\/(scope.names.lookup y.1=some .cell/\((cellsFrom (s.heap.objs.size+1) scope.names []).lookup y.1).isSome=true):=λ⟨n,v⟩ hy=>by
  rcases S.par n (sy hy).1 with q | q
  ·exact .inl q
  ·exact .inr ⟨q,uH _ _ _ (.inl q)⟩
 refine yC hr.depth (KX _ _ lk) rfl S.co S.gen rfl (yB KX nA) (hb _ _ _ _ ?_)
 refine yM S.kind xQ λenv he s1 x=>?_
 subst he
 refine⟨lim.keeps x.toInCall.keep,codeAny_func ?_⟩
 obtain⟨t,ht,hq⟩:=dm A outer s H vs Q E (hr.deeper _) o4
 have I:Inv (cM CX P w K mg base N qual scope f bE A outer s H E) [] (start N vs) H s1:=tR S hr.hd e0 hl r x
 refine bV (ht [] s1 (start N vs) H _ I hq) (λfl s' hs=>?_) λe s' hs=>hs
 have fin:∀{σ':St} {H':Hp} {v:V} {u:Value},Inv (cM CX P w K mg base N qual scope f bE A outer s H E) [] σ' H' s'->RelV v u->Q v H'->CE outer P w H s Q u s':=
  λ{σ' H' v u} J rv q=>⟨v,H',J.os,J.bare,J.base,J.bp,rv,q⟩
 cases fl with
 | ret u=>
  obtain⟨v,σ',H',J,rv,q⟩:=hs
  exact fin J rv q
 | next=>
  obtain⟨σ',H',J,q⟩:=hs
  exact fin (v:=V.non) (u:=Value.none) J rfl q
 | brk=>
  obtain⟨_,_,_,q⟩:=hs
  exact False.elim q
 | cont=>
  obtain⟨_,_,_,q⟩:=hs
  exact False.elim q
end L2
namespace L2
open PySem PySem.Spec PyProof.Rows
section
variable {X:Cx}{x:Str}{p pos:Pos}{e:Expr}{es:List Expr}{t:TA}{id T:String}{r:List V->Hp->VK->Prop}
def Nb(r:List V->Hp->VK->Prop)(t:TA):TE:=λσ H Q=>t σ H λvs H1=>r vs H1 Q
theorem jE(hc:cD X (.builtin id) r)(hg:Gl X x)(hm:X.mg x=none)(hv:bootBuiltins x=some (.builtin id))(ha:PA X (e::es) t)(hn:x≠"__name__":=by decide)(jI:(x==("__debug__" : Str))=false:=by decide)
  (he:starEach (e::es) X.env=(false,eval e X.env)::starEach es X.env:=by rfl) (jo:(backTo pos (starEach es X.env)).any (·.1)=false:=by rfl):PE X (.Call (.Name x p) (e::es) [] pos) (Nb r t):=by
 intro pins s σ H Q I h
 refine lZ (qG I hg hm hv ?_ hn jI)
 exact Ff (cp (ha pos pins s σ H _ I h) λus s1 ⟨vs,H1,I1,r1,q1⟩=>hc pins s1 σ H1 vs us Q I1 r1 q1) he jo
theorem ie(hc:cD X (.type T) r)(hg:Gl X x)(hm:X.mg x=none)(hv:bootBuiltins x=some (.type T))(ha:PA X (e::es) t)(hn:x≠"__name__":=by decide)(jI:(x==("__debug__" : Str))=false:=by decide)
  (he:starEach (e::es) X.env=(false,eval e X.env)::starEach es X.env:=by rfl) (jo:(backTo pos (starEach es X.env)).any (·.1)=false:=by rfl):PE X (.Call (.Name x p) (e::es) [] pos) (Nb r t):=by
 intro pins s σ H Q I h
 refine lZ (qG I hg hm hv ?_ hn jI)
 exact yO (cp (ha pos pins s σ H _ I h) λus s1 ⟨vs,H1,I1,r1,q1⟩=>hc pins s1 σ H1 vs us Q I1 r1 q1) he jo
end
end L2
namespace HT
open PySem PyProof.Rows
def lexLt:List Int->List Int->Bool
 | [],[]=>false
 | [],_::_=>true
 | _::_,[]=>false
 | x::xs,y::ys=>if x=y then lexLt xs ys else decide (x<y)
section
open PySem.SeqAt
open PySem.AutoSeq1 (wpAny_loadPart')
open PySem.MeetsSeq PySem.MeetsSeq2 PySem.MeetsSeq3
end
section
variable {prog:Program}{w:World}{A:Around}{E:Value->Shared->Prop}{s:Shared}
theorem Lh{t b:Addr}{vs ws:List Value}{Q:Value->Shared->Prop}(ht:IsTup s.heap t vs.toArray)(hb:IsTup s.heap b ws.toArray)(hv:vs≠[])
  (h1:ws=[]->Q (.ref t) s) (h2:ws≠[]->Q (.ref s.heap.objs.size) { s with heap:=s.heap.push { cls:=.type "tuple",data:=.seq (vs++ws).toArray } })
  (hsz:vs.length+ws.length<=sizeLine):wpAny (model prog w) A (binaryOp .Add (.ref t) (.ref b)) Q E s:=by
 obtain⟨⟨cls,dd,data,sl⟩,ho,hc,n,hd⟩:=id ht
 obtain⟨⟨Yv,Ud,data2,Gg⟩,O9,Fb,n2,hd2⟩:=id hb
 simp only at hc hd Fb hd2
 subst hc hd Fb hd2
 have e:vs.toArray++ws.toArray=(vs++ws).toArray:=by simp
 by_cases hw:ws=[]
 ·exact concat_meets ⟨_,ho,rfl⟩ ⟨_,O9,rfl⟩ noFill_tuple_add seq_tuple_add yK yL (yN _ _)
   (tuple_addW1 t b vs.toArray ws.toArray n n2 dd Ud sl Gg (by simpa using hv) (by simp[hw])) ⟨ho,O9,h1 hw⟩
 ·refine concat_meets ⟨_,ho,rfl⟩ ⟨_,O9,rfl⟩ noFill_tuple_add seq_tuple_add yK yL (yN _ _)
   (tuple_addW2 t b vs.toArray ws.toArray n n2 dd Ud sl Gg (by simpa using hv) (by simpa using hw) (by rw[dE,dE];exact hsz)) ⟨ho,O9,?_⟩
  rw[e]
  exact h2 hw
def cy(n d:Nat):Option Int->Nat
 | none=>d
 | some v=>if v<0 then (v+(n:Int)).toNat else min v.toNat n
theorem Nm(n d:Nat)(hd:d<=n)(o:Option Int):cy n d o<=n:=by
 cases o with
 | none=>exact hd
 | some v=>
  show(if v<0 then (v+(n:Int)).toNat else min v.toNat n)<=n
  by_cases hv:v<0
  ·rw[aC hv];lia
  ·rw[aB hv];exact Nat.min_le_right _ _
theorem Cr(v:Int)(n d:Nat):(if v<0 then max (v+(n:Int)) 0 else min v (n:Int))=((cy n d (some v):Nat):Int):=by
 show(if v<0 then max (v+(n:Int)) 0 else min v (n:Int))=(((if v<0 then (v+(n:Int)).toNat else min v.toNat n):Nat):Int)
 by_cases hv:v<0
 ·simp only[aC hv];lia
 ·simp only[aB hv];lia
theorem Ak(lo hi:Option Int)(n:Nat):Builtin.Slice.sliceAdjust lo hi 1 (n:Int)=(((cy n 0 lo:Nat):Int),((cy n n hi:Nat):Int)):=by
 have h1:¬((1:Int)<0):=by lia
 unfold Builtin.Slice.sliceAdjust
 simp only[h1,lh]
 refine Prod.ext ?_ ?_
 ·cases lo with
  | none=>rfl
  | some v=>exact Cr v n 0
 ·cases hi with
  | none=>rfl
  | some v=>exact Cr v n n
theorem zi(i j:Nat):Builtin.Slice.slicePlaces (i:Int) (j:Int) 1=j-i:=by
 unfold Builtin.Slice.slicePlaces
 have h1:(1:Int) > 0:=by lia
 simp only[h1,ju,Int.ediv_one]
 split <;> lia
theorem qt{v:Value}{o:Option Int}{Q:Option Int->Shared->Prop}(p:IsPart v o)(h:Q o s):wpAny (model prog w) A (Builtin.Slice.slicePartIndex v) Q E s:=by
 cases p with
 | none=>exact slicePart_none h
 | int i t=>exact slicePart_int h
theorem hX{sl:Addr}{vl vu:Value}{lo hi:Option Int}{n:Nat}{Q:Int×Int×Nat->Shared->Prop}(hs:s.heap.IsSliceOf sl vl vu .none)(pl:IsPart vl lo)(pu:IsPart vu hi)
  (h:Q (((cy n 0 lo:Nat):Int),1,cy n n hi-cy n 0 lo) s):wpAny (model prog w) A (Builtin.Slice.sliceApplied (.ref sl) (pure (n:Int))) Q E s:=by
 obtain⟨os,O6,T4,R6⟩:=id hs
 unfold Builtin.Slice.sliceApplied Builtin.Slice.sliceFields
 refine aj (aj (fO O6 R6 (x:=vl) rfl (aj (fO O6 R6 (x:=vu) rfl (aj (fO O6 R6 (x:=.none) rfl (aE ?_)))))))
 refine aj (slicePart_none ?_)
 show wpAny _ _ (if ((1:Int)==0)=true then _ else _) _ _ s
 rw[aB (by decide)]
 refine aj (qt pl (aj (qt pu (aj (aE ?_)))))
 show wpAny _ _ (match Builtin.Slice.sliceAdjust lo hi 1 (n:Int) with | (lo,hi)=>pure (lo,(1:Int),Builtin.Slice.slicePlaces lo hi 1)) _ _ s
 rw[Ak lo hi n]
 show wpAny _ _ (pure (((cy n 0 lo:Nat):Int),(1:Int),Builtin.Slice.slicePlaces ((cy n 0 lo:Nat):Int) ((cy n n hi:Nat):Int) 1)) _ _ s
 rw[zi]
 exact aE h
theorem G5(xs:Array Value)(i k:Nat):((List.range k).filterMap λ(m:Nat)=>xs[((i:Int)+(m:Int)*1).toNat]?).toArray=((xs.toList.drop i).take k).toArray:=by
 have e:(λ(m:Nat)=>xs[((i:Int)+(m:Int)*1).toNat]?)=λm=>xs[i+m]?:=by
  funext m
  have:((i:Int)+(m:Int)*1).toNat=i+m:=by lia
  rw[this]
 rw[e]
 have:=pick_run xs i k
 rw[List.filterMap_map]at this
 have e2:((λx=>xs[x]?) ∘ λx=>i+x)=λm=>xs[i+m]?:=rfl
 rw[e2]at this
 rw[this]
theorem mR{t sl:Addr}{items:Array Value}{vl vu:Value}{lo hi:Option Int}{Q:Value->Shared->Prop}(ht:IsTup s.heap t items)(hs:s.heap.IsSliceOf sl vl vu .none)(pl:IsPart vl lo)(pu:IsPart vu hi)
  (hw:¬(cy items.size 0 lo=0/\cy items.size items.size hi=items.size))
  (h:Q (.ref s.heap.objs.size) { s with heap:=s.heap.push { cls:=.type "tuple",data:=.seq ((items.toList.drop (cy items.size 0 lo)).take (cy items.size items.size hi-cy items.size 0 lo)).toArray } })
  (hsz:items.size<=sizeLine):wpAny (model prog w) A (getItem (.ref t) (.ref sl)) Q E s:=by
 have BR:sizeOk (.seq ((items.toList.drop (cy items.size 0 lo)).take (cy items.size items.size hi-cy items.size 0 lo)).toArray):=by
  show((items.toList.drop (cy items.size 0 lo)).take (cy items.size items.size hi-cy items.size 0 lo)).toArray.size<=sizeLine
  rw[dE,kB,pL,eU]
  lia
 have hj:cy items.size items.size hi<=items.size:=Nm _ _ (bu _) hi
 obtain⟨os,O6,T4,R6⟩:=id hs
 have Xg:s.TypeIs (.ref sl) "slice":=⟨os,O6,T4⟩
 unfold getItem
 try with_reducible refine eT ?_
 first | refine aj (aE ?_) | skip
 refine aj (wpAny_sequenceKey ht.typeIs (by decide) ?_)
 refine aj (pA (name:=Str.ofString "__getitem__") ht.typeIs sM
  (kz sM ht.typeIs entry_tuple_getitem ?_ (args_tuple_getitem _ _)))
 show wpAny _ _ (Builtin.Tuple.tupleItemsOf (.ref t) >>= _) _ _ s
 refine aj (tupleItemsOf_ ht ?_)
 refine aj (pB Xg ?_)
 rw[aC (by decide)]
 refine aj (hX hs pl pu ?_)
 have KY:¬((((cy items.size 0 lo:Nat):Int)==0&&(1:Int)==1&&(cy items.size items.size hi-cy items.size 0 lo)==items.size)=true):=by
  intro q
  rw[eJ,eJ]at q
  have q1:((cy items.size 0 lo:Nat):Int)=0:=eq_of_beq q.1.1
  have q2:cy items.size items.size hi-cy items.size 0 lo=items.size:=eq_of_beq q.2
  exact hw ⟨by lia,by lia⟩
 show wpAny _ _ (if (((cy items.size 0 lo:Nat):Int)==0&&(1:Int)==1&&(cy items.size items.size hi-cy items.size 0 lo)==items.size)=true then _ else _) _ _ s
 rw[aB KY,G5]
 first
  | exact aj (m:=Builtin.Tuple.tupleExact _) (eK (aE ⟨_,rfl,aE h⟩) BR)
  | exact aj (m:=Builtin.Tuple.tupleExact _) (eK (aj (aE (aE ⟨_,rfl,aE h⟩))) BR)
  | exact aj (aj (m:=Builtin.Tuple.tupleExact _) (eK (aE (aE ⟨_,rfl,aE h⟩)) BR))
  | exact aj (aj (m:=Builtin.Tuple.tupleExact _) (eK (aE ⟨_,rfl,aE h⟩) BR))
end
end HT
namespace L2
open PySem PySem.Spec PyProof.Rows
abbrev TO:=St->Hp->(Option Int->Hp->Prop)->Prop
def PO(X:Cx)(e:Option Expr)(t:TO):Prop:=
 ∀(pins:List (Addr×Obj)) (s:Shared) (σ:St) (H:Hp) (Q:Option Int->Hp->Prop),Inv X pins σ H s->t σ H Q->
  wpAny (model X.prog X.w) X.A (evalPart e X.env) (λu s'=>∃o H',Inv X pins σ H' s'/\IsPart u o/\Q o H') X.xe s
def mD:TO:=λ_ H Q=>Q none H
def wC(t:TE):TO:=λσ H Q=>t σ H λx H1=>∃i,x=.int i/\Q (some i) H1
theorem intsAre_of{ns:List Int}:∀{us:List Value},Vals (ns.map V.int) us->IntsAre us ns:=by
 induction ns with
 | nil=>intro us r;rw[uo]at r;cases r;exact .nil
 | cons n ns ih=>
  intro us r
  rw[g5]at r
  cases r with
  | cons r1 r2=>
   obtain⟨t,e⟩:=r1
   subst e
   exact .cons n t (ih r2)
section
variable {X:Cx}{e:Expr}{te:TE}{lo hi:Option Expr}{tl th:TO}{pos p2:Pos}
theorem Kl:PO X none mD:=by
 intro pins s σ H Q I h
 rw[evalPart_none]
 exact aE ⟨none,H,I,.none,h⟩
theorem Kk(h:PE X e te):PO X (some e) (wC te):=by
 intro pins s σ H Q I hw
 rw[evalPart_some]
 refine cp (h pins s σ H _ I hw) λu s1 ⟨x,H1,I1,r1,q1⟩=>?_
 obtain⟨i,rfl,q⟩:=q1
 obtain⟨t,rfl⟩:=r1
 exact⟨some i,H1,I1,.int i t,q⟩
def JD(X:Cx)(r:V->Option Int->Option Int->Hp->VK->Prop):Prop:=
 ∀(pins:List (Addr×Obj)) (s:Shared) (σ:St) (H:Hp) (x:V) (v vl vu:Value) (lo hi:Option Int) (sl:Addr) (Q:VK),Inv X pins σ H s->RelV x v->s.heap.IsSliceOf sl vl vu .none->IsPart vl lo->IsPart vu hi->r x lo hi H Q->
  ∃T id,typeLookup (.type T) "__getitem__" = pure (some (.builtin id))/\s.TypeIs v T/\wpAny (model X.prog X.w) X.A (getItem v (.ref sl)) (EP X pins σ Q) X.xe s
def QM(r:V->Option Int->Option Int->Hp->VK->Prop)(te:TE)(tl th:TO):TE:=λσ H Q=>te σ H λx H1=>tl σ H1 λl H2=>th σ H2 λu H3=>r x l u H3 Q
theorem G8{r:V->Option Int->Option Int->Hp->VK->Prop}(hr:JD X r)(he:PE X e te)(hl:PO X lo tl)(hu:PO X hi th):PE X (.Subscript e (.Slice lo hi none p2) pos) (QM r te tl th):=by
 intro pins s σ H Q I h
 refine Subscript_ (cp (he pins s σ H _ I h) λv s1 ⟨x,H1,I1,r1,q1⟩=>?_)
 refine wpAny_Slice (cp (hl pins s1 σ H1 _ I1 q1) λvl s2 ⟨l,H2,I2,pl,q2⟩=>cp (hu pins s2 σ H2 _ I2 q2) λvu s3 ⟨u,H3,I3,pu,q3⟩=>?_)
 rw[evalPart_none]
 refine aE ?_
 have I4:Inv X pins σ H3 { s3 with heap:=s3.heap.push { cls:=.type "slice",data:=.fields #[vl,vu,.none] } }:=I3.kept (t':=s3.toks) λb ob q=>bC _ q
 obtain⟨T,id,hT,ht,hg⟩:=hr pins { s3 with heap:=s3.heap.push { cls:=.type "slice",data:=.fields #[vl,vu,.none] } } σ H3 x v vl vu l u s3.heap.objs.size Q I4 r1 (Heap.IsSliceOf.new ..) pl pu q3
 show wpAny (model X.prog X.w) X.A (subscriptTail e (.Slice lo hi none p2) v (.ref s3.heap.objs.size)) (EP X pins σ Q) X.xe { s3 with heap:=s3.heap.push { cls:=.type "slice",data:=.fields #[vl,vu,.none] } }
 exact tail_any (ops:=[.ref s3.heap.objs.size,v]) ht hT hg (by with_unfolding_all rfl)
def gF(xs:List V)(lo hi:Option Int):List V:=(xs.drop (HT.cy xs.length 0 lo)).take (HT.cy xs.length xs.length hi-HT.cy xs.length 0 lo)
theorem oy(xs:List V)(lo hi:Option Int):(gF xs lo hi).length<=xs.length:=by
 unfold gF
 rw[kB,pL]
 lia
def Vb(K:PySem.W.Frag):V->Option Int->Option Int->Hp->VK->Prop:=λx lo hi H Q=>∃a xs,x=.ref a/\si K H a xs/\
 ¬(HT.cy xs.length 0 lo=0/\HT.cy xs.length xs.length hi=xs.length)/\∀p,H p=none->Q (.ref p) (upd H p (.tup (gF xs lo hi)))
theorem Nk:JD X (Vb X.K):=by
 intro pins s σ H x v vl vu lo hi sl Q I rx hs pl pu h
 obtain⟨a,xs,rfl,hx,hw,q⟩:=h
 cases rx
 obtain⟨its,r,ht,hz⟩:=I.tuple hx
 have hlen:its.toArray.size=xs.length:=by rw[dE];exact r.length.symm
 refine⟨"tuple",_,sM.lookup,ht.typeIs,?_⟩
 refine HT.mR ht hs pl pu (by rw[hlen];exact hw) ?_ (by rw[hlen];exact hz)
 rw[hlen]
 refine⟨.ref s.heap.objs.size,_,I.laid (t':=s.toks) (o:=.tup (gF xs lo hi)) (λb ob q=>bC _ q) (bu _) ?_,rfl,q _ (I.bp.fresh (bu _))⟩
 exact⟨fz (oy xs lo hi) hz,_,(r.drop (HT.cy xs.length 0 lo)).take (HT.cy xs.length xs.length hi-HT.cy xs.length 0 lo),IsTup.new _ _⟩
def Rb(K:PySem.W.Frag):R2:=λx y H Q=>∃a b xs ys,x=.ref a/\y=.ref b/\si K H a xs/\si K H b ys/\xs≠[]/\xs.length+ys.length<=sizeLine/\
 (ys=[]->Q (.ref a) H)/\(ys≠[]->∀p,H p=none->Q (.ref p) (upd H p (.tup (xs++ys))))
theorem Vals.vz{xs:List V}{us:List Value}(r:Vals xs us):us=[]↔xs=[]:=by
 cases r with
 | nil=>simp
 | cons _ _=>simp
theorem Kv:kZ X (binaryOp .Add) (Rb X.K):=by
 intro pins s σ H x y v u Q I rx ry h
 obtain⟨a,b,xs,ys,rfl,rfl,ha,hb,hx,hz,q1,q2⟩:=h
 cases rx
 cases ry
 obtain⟨its,r1,p1,_⟩:=I.tuple ha
 obtain⟨KJ,r2,p2,_⟩:=I.tuple hb
 refine HT.Lh p1 p2 (λz=>hx (r1.vz.mp z)) (λz=>⟨.ref a,H,I,rfl,q1 (r2.vz.mp z)⟩) (λz=>?_) (by rw[<-r1.length,<-r2.length];exact hz)
 refine⟨.ref s.heap.objs.size,_,I.laid (t':=s.toks) (o:=.tup (xs++ys)) (λb ob q=>bC _ q) (bu _) ?_,rfl,q2 (λw=>z (r2.vz.mpr w)) _ (I.bp.fresh (bu _))⟩
 exact⟨by rw[eL];exact hz,_,r1.append r2,IsTup.new _ _⟩
end
end L2
namespace L2
open PySem PySem.Spec PyProof.Rows
def Ea(n:Nat)(i:Int):Option Nat:=if 0<=i then (if i<n then some i.toNat else none) else if -(n:Int)<=i then some (i+n).toNat else none
def rG{α:Type}(xs:List α)(i:Int):Option α:=(Ea xs.length i).bind λj=>xs[j]?
theorem BP{n:Nat}{i:Int}{j:Nat}(h:Ea n i=some j):seqIndex? i n=some j/\j<n/\-(n:Int)<=i/\i<n:=by
 unfold Ea at h
 by_cases h0:0<=i
 ·rw[aC h0]at h
  by_cases h1:i<n
  ·rw[aC h1]at h
   have e:i.toNat=j:=dB h
   exact⟨by rw[seqIndex_of h0 h1,e],by lia,by lia,h1⟩
  ·rw[aB h1]at h;cases h
 ·rw[aB h0]at h
  by_cases h1 : -(n:Int)<=i
  ·rw[aC h1]at h
   have e:(i+n).toNat=j:=dB h
   exact⟨by rw[seqIndex_neg (by lia) h1,e],by lia,h1,by lia⟩
  ·rw[aB h1]at h;cases h
theorem vP{α:Type}{xs:List α}{i:Int}{v:α}(h:rG xs i=some v):∃j,seqIndex? i xs.length=some j/\xs[j]?=some v/\j<xs.length/\-(xs.length:Int)<=i/\i<xs.length:=by
 unfold rG at h
 cases e:Ea xs.length i with
 | none=>rw[e]at h;cases h
 | some j=>
  rw[e]at h
  obtain⟨h1,h2,h3,h4⟩:=BP e
  exact⟨j,h1,h,h2,h3,h4⟩
theorem fu{α:Type}{xs:List α}{j:Nat}{v:α}(h:xs[j]?=some v):rG xs (j:Int)=some v:=by
 have hj:j<xs.length:=(fQ.mp h).1
 have e:Ea xs.length (j:Int)=some j:=by
  unfold Ea
  rw[aC (by lia),aC (by lia)];simp
 unfold rG;rw[e];exact h
def CN(b:Expr):Prop:=∀o i,subscripted b false o i=operate [o,i] (getItem o i)
def Ls(X:Cx)(r:R2):Prop:=
 ∀(value slice:Expr) (pins:List (Addr×Obj)) (s:Shared) (σ:St) (H:Hp) (x y:V) (v u:Value) (Q:VK),Inv X pins σ H s->RelV x v->RelV y u->r x y H Q->
  subscripted slice false v u=operate [v,u] (getItem v u)->wpAny (model X.prog X.w) X.A (subscriptTail value slice v u) (EP X pins σ Q) X.xe s
def MtR(X:Cx)(id:String)(r:V->List V->Hp->VK->Prop):Prop:=
 ∀(pins:List (Addr×Obj)) (s:Shared) (σ:St) (H:Hp) (x:V) (xs:List V) (v:Value) (us:List Value) (Q:VK),Inv X pins σ H s->RelV x v->Vals xs us->r x xs H Q->
  wpAny (model X.prog X.w) X.A (call (.builtin id) (v::us)) (EP X pins σ Q) X.xe s
section
variable {X:Cx}{a b:Expr}{ta tb:TE}{pos:Pos}
theorem Rk{r:R2}(hr:Ls X r)(ha:PE X a ta)(hb:PE X b tb)(hs:CN b):PE X (.Subscript a b pos) (FJ r ta tb):=by
 intro pins s σ H Q I h
 exact Subscript_ (P1 ha hb I h λv u s2 x y H2 I2 rx ry q=>hr a b pins s2 σ H2 x y v u Q I2 rx ry q (hs _ _))
def Ve(K:PySem.W.Frag):R2:=λx y H Q=>∃p xs i v,x=.ref p/\y=.int i/\lU K H p xs/\rG xs i=some v/\Q v H
def Vd(K:PySem.W.Frag):R2:=λx y H Q=>∃p xs i v,x=.ref p/\y=.int i/\si K H p xs/\rG xs i=some v/\Q v H
theorem KH:Ls X (Ve X.K):=by
 intro value slice pins s σ H x y v u Q I rx ry h hs
 obtain⟨p,xs,i,z,rfl,rfl,hq,he,q⟩:=h
 cases rx
 obtain⟨t,rfl⟩:=ry
 obtain⟨its,r,pl,hz⟩:=I.list hq
 obtain⟨j,h1,h2,h3,h4,h5⟩:=vP he
 obtain⟨w,ew,Gp⟩:=r.get h2
 have hl:=r.length
 have hn:=qF
 have fin:EP X pins σ Q w s:=⟨z,H,I,Gp,q⟩
 by_cases h0:0<=i
 ·have hj:i.toNat=j:=by
   rw[seqIndex_of h0 h5]at h1
   exact dB h1
  exact item_listR pl.isList h0 (by lia) (by rw[hj];simpa using ew) fin hs
 ·have hj:(i+(its.toArray.size:Int)).toNat=j:=by
   rw[seqIndex_neg (by lia) h4]at h1
   rw[dE,<-hl]
   exact dB h1
  exact subscriptTail_builtinR (x:=w) pl.isList.typeIs slot_list_getitem.lookup
   (wpAny_getItem_list_neg (Q:=λr s'=>r=w/\EP X pins σ Q r s') pl.isList (by lia) (by rw[dE] <;> lia) (by lia) (by rw[hj];simpa using ew) ⟨rfl,fin⟩) hs
theorem Ow:Ls X (Vd X.K):=by
 intro value slice pins s σ H x y v u Q I rx ry h hs
 obtain⟨p,xs,i,z,rfl,rfl,hq,he,q⟩:=h
 cases rx
 obtain⟨t,rfl⟩:=ry
 obtain⟨its,r,pl,hz⟩:=I.tuple hq
 obtain⟨j,h1,h2,h3,h4,h5⟩:=vP he
 obtain⟨w,ew,Gp⟩:=r.get h2
 have hl:=r.length
 have hn:=qF
 have fin:EP X pins σ Q w s:=⟨z,H,I,Gp,q⟩
 exact subscriptTail_builtinR (x:=w) pl.typeIs slot_tuple_getitem.lookup
  (getItem_tuple (j:=j) (Q:=λr s'=>r=w/\EP X pins σ Q r s') pl (by lia) (by lia) (by rw[dE,<-hl];exact h1) (by simpa using ew) ⟨rfl,fin⟩) hs
theorem zC(its:List Value)(n j:Nat)(u:Value):Obj.mapSeq (·.setIfInBounds j u) { cls:=.type "list",data:=.seq its.toArray n }={ cls:=.type "list",data:=.seq (its.set j u).toArray n }:=by
 simp[Obj.mapSeq]
theorem Inv.lst{pins:List (Addr×Obj)}{σ:St}{H:Hp}{s:Shared}{p:Addr}{xs:List V}(I:Inv X pins σ H s)(h:H p=some (.lst xs)) :
  ∃(its:List Value) (n:Nat),Vals xs its/\s.heap.get? p=some { cls:=.type "list",data:=.seq its.toArray n }/\xs.length<=sizeLine:=by
 obtain⟨z,its,n,r,e⟩:=I.bp p _ h
 exact⟨its,n,r,e,z⟩
theorem Inv.Oj{pins:List (Addr×Obj)}{σ:St}{H:Hp}{s:Shared}{p:Addr}{xs ys:List V}{its its':List Value}{n n':Nat}{f:Obj->Obj}(I:Inv X pins σ H s)(h:H p=some (.lst xs))
  (ho:s.heap.get? p=some { cls:=.type "list",data:=.seq its.toArray n }) (hf:f { cls:=.type "list",data:=.seq its.toArray n }={ cls:=.type "list",data:=.seq its'.toArray n' }) (r:Vals ys its') (hz:ys.length<=sizeLine) (t:Nat) :
  Inv X pins σ (upd H p (.lst ys)) { s with heap:=s.heap.update p f,toks:=t }:=by
 have e:(s.heap.update p f).get? p=some { cls:=.type "list",data:=.seq its'.toArray n' }:=by
  rw[jt f ho (by rw[hf] <;> rfl),hf]
 refine I.write (x:=p) (e:=p) (by rw[h];trivial) (.inl rfl) (λb u hb q=>(jl _ _ (eV hb)).trans q) ⟨_,e⟩ ?_
 exact⟨hz,its',n',r,e⟩
def Ra:V->V->V->Hp->(Hp->Prop)->Prop:=λo i v H Q=>∃p xs k j,o=.ref p/\i=.int k/\H p=some (.lst xs)/\Ea xs.length k=some j/\Q (upd H p (.lst (xs.set j v)))
theorem set_list:Ew X Ra:=by
 intro pins s σ H o i v ov iv u Q I ro ri rv h
 obtain⟨p,xs,k,j,rfl,rfl,hp,hj,q⟩:=h
 cases ro
 obtain⟨t,rfl⟩:=ri
 obtain⟨its,n,r,ho,hz⟩:=I.lst hp
 obtain⟨h1,h2,h3,h4⟩:=BP hj
 have hl:=r.length
 have hn:=qF
 have I':Inv X pins σ (upd H p (.lst (xs.set j v))) { s with heap:=s.heap.update p (Obj.mapSeq (·.setIfInBounds j u)) }:=
  I.Oj hp ho (zC its n j u) (r.set rv j) (by rw[List.length_set];exact hz) s.toks
 by_cases h0:0<=k
 ·have hk:k.toNat=j:=by
   rw[seqIndex_of h0 h4]at h1
   exact dB h1
  exact PySem.W.ki_setAt ho h0 (by lia) (by rw[dE,<-hl];exact h4) (by rw[hk];exact⟨_,I',q⟩)
 ·have hk:(k+(its.toArray.size:Int)).toNat=j:=by
   rw[seqIndex_neg (by lia) h3]at h1
   rw[dE,<-hl]
   exact dB h1
  exact PySem.W.ki_setBack ho (by lia) (by rw[dE,<-hl];exact h3) (by lia) (by rw[hk];exact⟨_,I',q⟩)
theorem uX(lo hi:Option Int)(n:Nat):(sliceBounds lo hi none n).1=((HT.cy n 0 lo:Nat):Int)/\(sliceBounds lo hi none n).2.1=((HT.cy n n hi:Nat):Int)/\(sliceBounds lo hi none n).2.2=1:=by
 refine⟨?_,?_,rfl⟩
 ·cases lo with
  | none=>simp[sliceBounds,HT.cy]
  | some i=>
   simp only[sliceBounds,HT.cy,Option.getD_none,show(1:Int) > 0 by decide,ju]
   by_cases h:i<0
   ·simp only[h,ju] <;> lia
   ·simp only[h,lh] <;> lia
 ·cases hi with
  | none=>simp[sliceBounds,HT.cy]
  | some i=>
   simp only[sliceBounds,HT.cy,Option.getD_none,show(1:Int) > 0 by decide,ju]
   by_cases h:i<0
   ·simp only[h,ju] <;> lia
   ·simp only[h,lh] <;> lia
theorem rJ(its:List Value)(lo hi:Option Int):slicePick its.toArray lo hi none=((its.drop (HT.cy its.length 0 lo)).take (HT.cy its.length its.length hi-HT.cy its.length 0 lo)).toArray:=by
 obtain⟨h1,h2,h3⟩:=uX lo hi its.toArray.size
 unfold slicePick
 rw[h1,h2,h3]
 simp only[sliceRange_one,pick_run,dE] <;> rfl
def Vc(K:PySem.W.Frag):V->Option Int->Option Int->Hp->VK->Prop:=λx lo hi H Q=>∃a xs,x=.ref a/\lU K H a xs/\∀p,H p=none->Q (.ref p) (upd H p (.lst (gF xs lo hi)))
theorem Bh:JD X (Vc X.K):=by
 intro pins s σ H x v vl vu lo hi sl Q I rx hs pl pu h
 obtain⟨a,xs,rfl,hx,q⟩:=h
 cases rx
 obtain⟨its,r,ht,hz⟩:=I.list hx
 have hlen:=r.length
 refine⟨"list",_,slot_list_getitem.lookup,ht.isList.typeIs,?_⟩
 refine wpAny_getItem_list_slice ht.isList hs pl pu .none (by simp) ?_ (by rw[dE] <;> lia)
 rw[rJ,<-hlen]
 refine⟨.ref s.heap.objs.size,_,I.laid (t':=s.toks) (o:=.lst (gF xs lo hi)) (λb ob q=>bC _ q) (bu _) ?_,rfl,q _ (I.bp.fresh (bu _))⟩
 exact⟨fz (oy xs lo hi) hz,_,0,(r.drop (HT.cy xs.length 0 lo)).take (HT.cy xs.length xs.length hi-HT.cy xs.length 0 lo),eG _ rfl⟩
def gu:V->Bool
 | .non=>true
 | .bl _=>true
 | .int _=>true
 | .str _=>true
 | _=>false
def Fd:V->V->Bool
 | .non,.non=>true
 | .bl a,.bl b=>a==b
 | .bl a,.int b=>(if a then 1 else 0)==b
 | .int a,.bl b=>a==(if b then 1 else 0)
 | .int a,.int b=>a==b
 | .str a,.str b=>a==b
 | _,_=>false
theorem Il{A:Around}{s:Shared}{y x:V}{u v:Value}(ry:RelV y u)(rx:RelV x v)(fy:gu y=true)(fx:gu x=true):SeqAt.EqAt A s u v (Fd y x):=by
 cases y with
 | non=>
  cases ry
  cases x with
  | non=>cases rx;exact SeqAt.EqAt.same _
  | bl b=>cases rx;exact SeqAt.EqAt.none_bool b
  | int b=>obtain⟨t,rfl⟩:=rx;exact SeqAt.EqAt.none_int b t
  | str b=>obtain⟨t,rfl⟩:=rx;exact SeqAt.EqAt.none_str b t
  | _=>exact absurd (show false=true from fx) dh
 | bl a=>
  cases ry
  cases x with
  | non=>cases rx;exact SeqAt.EqAt.bool_none a
  | bl b=>cases rx;exact SeqAt.EqAt.bool_bool a b
  | int b=>obtain⟨t,rfl⟩:=rx;exact SeqAt.EqAt.bool_int a b t
  | str b=>obtain⟨t,rfl⟩:=rx;exact SeqAt.EqAt.bool_str a b t
  | _=>exact absurd (show false=true from fx) dh
 | int a=>
  obtain⟨t',rfl⟩:=ry
  cases x with
  | non=>cases rx;exact SeqAt.EqAt.int_none a t'
  | bl b=>cases rx;exact SeqAt.EqAt.int_bool a t' b
  | int b=>obtain⟨t,rfl⟩:=rx;exact SeqAt.EqAt.int_int a t' b t
  | str b=>obtain⟨t,rfl⟩:=rx;exact SeqAt.EqAt.int_str a t' b t
  | _=>exact absurd (show false=true from fx) dh
 | str a=>
  obtain⟨t',rfl⟩:=ry
  cases x with
  | non=>cases rx;exact SeqAt.EqAt.str_none a t'
  | bl b=>cases rx;exact SeqAt.EqAt.str_bool a t' b
  | int b=>obtain⟨t,rfl⟩:=rx;exact SeqAt.EqAt.str_int a t' b t
  | str b=>obtain⟨t,rfl⟩:=rx;exact SeqAt.EqAt.str_str a t' b t
  | _=>exact absurd (show false=true from fx) dh
 | _=>exact absurd (show false=true from fy) dh
def z4(x:V)(u:Value):Bool:=match u with
 | .none=>Fd .non x
 | .bool b=>Fd (.bl b) x
 | .int i _=>Fd (.int i) x
 | .str z _=>Fd (.str z) x
 | _=>false
theorem Ik{x y:V}{u:Value}(r:RelV y u)(f:gu y=true):z4 x u=Fd y x:=by
 cases y with
 | non=>cases r;rfl
 | bl b=>cases r;rfl
 | int i=>obtain⟨t,rfl⟩:=r;rfl
 | str z=>obtain⟨t,rfl⟩:=r;rfl
 | _=>exact absurd (show false=true from f) dh
theorem mW{x:V}:∀{xs:List V} {us:List Value},Vals xs us->xs.all gu=true->us.any (z4 x)=xs.any λy=>Fd y x
 | _,_,.nil,_=>rfl
 | y::xs,u::us,.cons r t,f=>by
  rw[pG,eJ]at f
  rw[pd,pd,Ik r f.1,mW t f.2]
theorem jH{A:Around}{s:Shared}{x:V}{v:Value}(rx:RelV x v)(fx:gu x=true):∀{xs:List V} {us:List Value},Vals xs us->xs.all gu=true->∀u∈us,SeqAt.EqAt A s u v (z4 x u)
 | _,_,.nil,_=>λu hu=>by cases hu
 | y::xs,u::us,.cons r t,f=>λu' hu=>by
  rw[pG,eJ]at f
  rcases ck.mp hu with rfl | hu
  ·rw[Ik r f.1];exact Il r rx f.1 fx
  ·exact jH rx fx t f.2 u' hu
def Mh(x:V)(xs:List V):Bool:=xs.any λy=>Fd y x
def Y4(K:PySem.W.Frag)(neg:Bool):R2:=λx y H Q=>∃p xs,y=.ref p/\(lU K H p xs\/si K H p xs)/\gu x=true/\xs.all gu=true/\Q (.bl (if neg then !Mh x xs else Mh x xs)) H
theorem DG:kZ X (compareOp .In) (Y4 X.K false):=by
 intro pins s σ H x y v u Q I rx ry h
 obtain⟨p,xs,rfl,hq,fx,fs,q⟩:=h
 cases ry
 rcases hq with hq | hq
 ·obtain⟨its,r,pl,hz⟩:=I.list hq
  refine SeqAt.in_listAt (z4 x) pl.isList (λw hw=>jH rx fx r fs w (by simpa using hw)) ⟨.bl _,H,I,rfl,?_⟩
  rw[show its.toArray.any (z4 x)=its.any (z4 x) by simp,mW r fs]
  exact q
 ·obtain⟨its,r,pl,hz⟩:=I.tuple hq
  refine SeqAt.in_tupleAt (z4 x) pl (λw hw=>jH rx fx r fs w (by simpa using hw)) ⟨.bl _,H,I,rfl,?_⟩
  rw[show its.toArray.any (z4 x)=its.any (z4 x) by simp,mW r fs]
  exact q
theorem vo:kZ X (compareOp .NotIn) (Y4 X.K true):=by
 intro pins s σ H x y v u Q I rx ry h
 obtain⟨p,xs,rfl,hq,fx,fs,q⟩:=h
 cases ry
 rcases hq with hq | hq
 ·obtain⟨its,r,pl,hz⟩:=I.list hq
  refine SeqAt.notIn_listAt (z4 x) pl.isList (λw hw=>jH rx fx r fs w (by simpa using hw)) ⟨.bl _,H,I,rfl,?_⟩
  rw[show its.toArray.any (z4 x)=its.any (z4 x) by simp,mW r fs]
  exact q
 ·obtain⟨its,r,pl,hz⟩:=I.tuple hq
  refine SeqAt.notIn_tupleAt (z4 x) pl (λw hw=>jH rx fx r fs w (by simpa using hw)) ⟨.bl _,H,I,rfl,?_⟩
  rw[show its.toArray.any (z4 x)=its.any (z4 x) by simp,mW r fs]
  exact q
theorem mU:cD X (.builtin "len") (λxs H Q=>∃p ys,xs=[.ref p]/\(lU X.K H p ys\/si X.K H p ys)/\Q (.int ys.length) H):=by
 intro pins s σ H xs us Q I r h
 obtain⟨p,ys,rfl,hq,q⟩:=h
 obtain⟨u,rfl,rx⟩:=vals1 r
 cases rx
 have hn:=qF
 rcases hq with hq | hq
 ·obtain⟨its,r',pl,hz⟩:=I.list hq
  have hlen:=r'.length
  exact Calls.call_len_list pl.isList (by simp only[dE] <;> lia) ⟨.int ys.length,H,I.tok _,⟨s.toks+1,by rw[dE,hlen]⟩,q⟩
 ·obtain⟨its,r',pl,hz⟩:=I.tuple hq
  have hlen:=r'.length
  exact len_tuple pl (by simp only[dE] <;> lia) ⟨.int ys.length,H,I.tok _,⟨s.toks+1,by rw[dE,hlen]⟩,q⟩
theorem vK:cD X (.type "list") (λxs H Q=>∃p ys,xs=[.ref p]/\(lU X.K H p ys\/si X.K H p ys)/\∀l,H l=none->Q (.ref l) (upd H l (.lst ys))):=by
 intro pins s σ H xs us Q I r h
 obtain⟨p,ys,rfl,hq,q⟩:=h
 obtain⟨u,rfl,rx⟩:=vals1 r
 cases rx
 have fin:∀(its:List Value),Vals ys its->ys.length<=sizeLine->∀(h':Heap) (c':Nat),(∀b o',s.heap.get? b=some o'->h'.get? b=some o')->
   h'.get? s.heap.objs.size=some { cls:=.type "list",dict:=none,data:=.seq its.toArray c',slots:=#[] }->EP X pins σ Q (.ref s.heap.objs.size) { s with heap:=h' }:=λits r' hz h' c' kp e=>
  ⟨.ref s.heap.objs.size,_,I.laid (t':=s.toks) kp (bu _) (show bW X.prog X.w _ h' _ (.lst ys) from ⟨hz,its,c',r',e⟩),rfl,q _ (I.bp.fresh (bu _))⟩
 rcases hq with hq | hq
 ·obtain⟨its,r',pl,hz⟩:=I.list hq
  have hlen:=r'.length
  obtain⟨o,ho,hc,n,hd⟩:=pl.isList
  exact call_list_seq p (.inl rfl) ho hc hd (λh' c' kp e=>fin its r' hz h' c' kp e) (by simp only[dE] <;> lia)
 ·obtain⟨its,r',pl,hz⟩:=I.tuple hq
  have hlen:=r'.length
  obtain⟨o,ho,hc,n,hd⟩:=pl
  exact call_list_seq p (.inr rfl) ho hc hd (λh' c' kp e=>fin its r' hz h' c' kp e) (by simp only[dE] <;> lia)
theorem sf:cD X (.type "tuple") (λxs H Q=>∃p ys,xs=[.ref p]/\((lU X.K H p ys/\∀l,H l=none->Q (.ref l) (upd H l (.tup ys)))\/(si X.K H p ys/\Q (.ref p) H))):=by
 intro pins s σ H xs us Q I r h
 obtain⟨p,ys,rfl,h⟩:=h
 obtain⟨u,rfl,rx⟩:=vals1 r
 cases rx
 rcases h with ⟨hq,q⟩ | ⟨hq,q⟩
 ·obtain⟨its,r',pl,hz⟩:=I.list hq
  have hlen:=r'.length
  refine call_tuple_list pl.isList (λh' kp=>?_) (by simp only[dE] <;> lia)
  have I1:Inv X pins σ H { s with heap:=h' }:=I.kept (t':=s.toks) kp
  have I2:Inv X pins σ (upd H h'.objs.size (.tup ys)) { s with heap:=h'.push { cls:=.type "tuple",data:=.seq its.toArray } }:=
   I1.laid (t':=s.toks) (λb o e=>bC _ e) (bu _) (show bW X.prog X.w _ _ _ (.tup ys) from ⟨hz,its,r',IsTup.new _ _⟩)
  exact⟨.ref h'.objs.size,_,I2,rfl,q _ (I1.bp.fresh (bu _))⟩
 ·obtain⟨its,r',pl,hz⟩:=I.tuple hq
  exact call_tuple_same pl ⟨.ref p,H,I,rfl,q⟩
def Ts(K:PySem.W.Frag)(T:String)(x:V)(H:Hp):Prop:=match x with
 | .str _=>T = "str"
 | .int _=>T = "int"
 | .ref p=>(T = "list"/\∃xs,lU K H p xs)\/(T = "tuple"/\∃o,K.lookup p=some o/\o.cls=.type "tuple"/\o.dict=none)\/
   (T = "dict"/\((∃aJ,H p=some (.dK aJ))\/∃aJ,H p=some (.dT aJ)))\/(T = "set"/\∃S n,H p=some (.set S n))
 | _=>False
theorem M6{pins:List (Addr×Obj)}{σ:St}{H:Hp}{s:Shared}{T:String}{x:V}{v:Value}(I:Inv X pins σ H s)(r:RelV x v)(ty:Ts X.K T x H) :
  s.TypeIs v T/\∀a,v=.ref a->∃ob,s.heap.get? a=some ob/\ob.dict=none:=by
 cases x with
 | str z=>
  obtain⟨t,rfl⟩:=r
  cases (show T = "str" from ty)
  exact⟨typeIs_str s z t,λ_ e=>nomatch e⟩
 | int i=>
  obtain⟨t,rfl⟩:=r
  cases (show T = "int" from ty)
  exact⟨typeIs_int s i t,λ_ e=>nomatch e⟩
 | ref p=>
  cases r
  rcases ty with ⟨rfl,xs,hq⟩ | ⟨rfl,o,hk,hc,hd⟩ | ⟨rfl,hk⟩ | ⟨rfl,S,n,hk⟩
  ·obtain⟨its,_,pl,_⟩:=I.list hq
   refine⟨pl.isList.typeIs,λa e=>?_⟩
   cases e
   obtain⟨o,n,e,c,hd,_⟩:=pl
   exact⟨o,e,hd⟩
  ·refine⟨⟨o,I.jn p o hk,hc⟩,λa e=>?_⟩
   cases e
   exact⟨o,I.jn _ o hk,hd⟩
  ·have z:∃o,s.heap.get? p=some o/\o.ExactDict:=by
    rcases hk with ⟨aJ,hk⟩ | ⟨aJ,hk⟩
    ·obtain⟨_,_,_,_,o,_,_,e,ex,_⟩:=I.bp p _ hk
     exact⟨o,e,ex⟩
    ·obtain⟨_,_,_,_,o,_,_,e,ex,_⟩:=I.bp p _ hk
     exact⟨o,e,ex⟩
   obtain⟨o,e,ex⟩:=z
   refine⟨⟨o,e,ex.1⟩,λa e2=>?_⟩
   cases e2
   exact⟨o,e,ex.2.1⟩
  ·obtain⟨o,_,_,_,e,ex,_⟩:=I.bp p _ hk
   refine⟨⟨o,e,ex.1⟩,λa e2=>?_⟩
   cases e2
   exact⟨o,e,ex.2.1⟩
 | _=>exact False.elim ty
def Nc(K:PySem.W.Frag)(T:String)(r:V->List V->Hp->VK->Prop)(to:TE):TE:=λσ H Q=>to σ H λx H1=>Ts K T x H1/\r x [] H1 Q
def QV(K:PySem.W.Frag)(T:String)(r:V->List V->Hp->VK->Prop)(to:TE)(t:TA):TE:=λσ H Q=>to σ H λx H1=>Ts K T x H1/\t σ H1 λxs H2=>r x xs H2 Q
variable {o e:Expr}{es:List Expr}{to:TE}{t:TA}{name:Str}{apos cE:Pos}{T id:String}{r:V->List V->Hp->VK->Prop}
theorem tK(pa:PlainAttrs T)(slot:Slot T name id)(hty:typeOf (.builtin id)=pure (.type "method_descriptor"))(hm:MtR X id r)(ho:PE X o to)(ha:PA X (e::es) t)
  (Sb:attributeBase o name X.env (eval o X.env)=eval o X.env:=by rfl)
  (W4:((backTo cE (starEach (e::es) X.env)).all (λx=>!x.1)&&(backToKw cE (keywordEach [] X.env)).all (λx=>x.1.isSome)
   && decide ((e::es).length+([]:List Keyword).length+(if ([]:List Keyword).isEmpty then 0 else 1)<30))=true:=by rfl)
  (hline:(apos.endLine==cE.line)=true:=by rfl) (hs:starEach (e::es) X.env=(false,eval e X.env)::starEach es X.env:=by rfl) (O3:(backTo cE (starEach es X.env)).any (·.1)=false:=by rfl) :
  PE X (.Call (.Attribute o name apos) (e::es) [] cE) (QV X.K T r to t):=by
 intro pins s σ H Q I h
 refine wpAny_Call_method_late Sb W4 hline rfl (cp (ho pins s σ H _ I h) λv s1 ⟨x,H1,I1,r1,ty,q1⟩=>?_)
 obtain⟨h1,h2⟩:=M6 I1 r1 ty
 refine⟨T,id,pa,slot,hty,h1,h2,?_⟩
 have hA:=ha cE pins s1 σ H1 _ I1 q1
 rw[hs]at hA ⊢
 refine Calls.callWith_builtin (by show(false||(backTo cE (starEach es X.env)).any (·.1))=false;rw[O3] <;> rfl) (Calls.evalArgs_plain ?_)
 exact cp hA λus s2 ⟨vs,H2,I2,r2,q2⟩=>hm pins s2 σ H2 x vs v us Q I2 r1 r2 q2
end
end L2
namespace L2
open PySem PySem.Spec PyProof.Rows
def MtM(X:Cx)(id:String)(r:V->List V->Hp->VK->Prop):Prop:=
 ∀(pins:List (Addr×Obj)) (s:Shared) (σ:St) (H:Hp) (x:V) (xs:List V) (v:Value) (us:List Value) (Q:VK),Inv X pins σ H s->RelV x v->Vals xs us->r x xs H Q->
  wpAny (model X.prog X.w) X.A (call (.builtin id) (v::us)) (EP X pins σ Q) X.xe s
theorem Vals.one:∀{x:V} {us:List Value},Vals [x] us->∃u,us=[u]/\RelV x u
 | _,_,.cons r .nil=>⟨_,rfl,r⟩
theorem Vals.two:∀{x y:V} {us:List Value},Vals [x,y] us->∃u v,us=[u,v]/\RelV x u/\RelV y v
 | _,_,_,.cons r (.cons q .nil)=>⟨_,_,rfl,r,q⟩
section
variable {X:Cx}{pins:List (Addr×Obj)}{σ:St}{H:Hp}{s:Shared}{l b:Addr}{xs ys zs:List V}
theorem Inv.Wa{its its':List Value}{n:Nat}{f:Array Value->Array Value}{t':Nat}(I:Inv X pins σ H s)(hH:H l=some (.lst xs))
  (e:s.heap.get? l=some { cls:=.type "list",data:=.seq its.toArray n }) (hf:f its.toArray=its'.toArray) (hv:Vals ys its') (hz:ys.length<=sizeLine) :
  Inv X pins σ (upd H l (.lst ys)) { s with heap:=s.heap.update l (Obj.mapSeq f),toks:=t' }:=by
 have q:=PySem.IsL.update e f
 rw[hf]at q
 refine I.write (x:=l) (e:=l) (by rw[hH];exact trivial) (.inl rfl) (λb' u hb hu=>(jl s.heap (Obj.mapSeq f) (eV hb)).trans hu) ⟨_,q⟩ ?_
 exact⟨hz,its',_,hv,q⟩
theorem Inv.Wb{its:List Value}{t':Nat}(I:Inv X pins σ H s)(hv:Vals ys its)(hz:ys.length<=sizeLine) :
  Inv X pins σ (upd H s.heap.objs.size (.lst ys)) { s with heap:=s.heap.push { cls:=.type "list",data:=.seq its.toArray },toks:=t' }:=
 I.laid (λ_ _ q=>bC _ q) (bu _) ⟨hz,its,0,hv,eG _ rfl⟩
theorem Inv.fresh(I:Inv X pins σ H s):H s.heap.objs.size=none:=I.bp.fresh (bu _)
theorem Inv.Ol(I:Inv X pins σ H s)(hH:H l=some (.lst xs)):xs.length<=sizeLine/\∃(its:List Value) (n:Nat),Vals xs its/\xs.length=its.length/\s.heap.get? l=some { cls:=.type "list",data:=.seq its.toArray n }:=by
 obtain⟨z,its,n,r,e⟩:=I.bp l _ hH
 exact⟨z,its,n,r,r.length,e⟩
end
section
variable {X:Cx}
def oX:V->List V->Hp->VK->Prop:=λx vs H Q=>∃l xs y,x=.ref l/\vs=[y]/\H l=some (.lst xs)/\xs.length<sizeLine/\Q .non (upd H l (.lst (xs++[y])))
theorem ka:MtM X "list.append" oX:=by
 intro pins s σ H x vs v us Q I rx rv h
 obtain⟨l,xs,y,rfl,rfl,hH,hz,q⟩:=h
 cases rx
 obtain⟨u,rfl,ru⟩:=rv.one
 obtain⟨z,its,n,r,hl,e⟩:=I.Ol hH
 refine call_meets F.slot_list_append ⟨_,e,rfl⟩ F.entry_list_append (F.args_list_append_2 _ _) (PySem.list_append l its.toArray n u (by rw[dE];lia)) ⟨e,?_⟩
 refine⟨.non,_,I.Wa (its':=its++[u]) hH e (by simp) (r.append (.cons ru .nil)) ?_,rfl,q⟩
 rw[eL,List.length_singleton]
 lia
def va:V->List V->Hp->VK->Prop:=λx vs H Q=>∃l b xs zs,x=.ref l/\vs=[.ref b]/\H l=some (.lst xs)/\H b=some (.lst zs)/\xs.length+zs.length<=sizeLine/\Q .non (upd H l (.lst (xs++zs)))
def nk:V->List V->Hp->VK->Prop:=λx vs H Q=>∃l xs i k y,x=.ref l/\vs=[.int i]/\H l=some (.lst xs)/\-(2 ^ 63)<=i/\i<2 ^ 63/\seqIndex? i xs.length=some k/\xs[k]?=some y/\Q y (upd H l (.lst (xs.eraseIdx k)))
def qw:V->List V->Hp->VK->Prop:=λx vs H Q=>∃l xs,x=.ref l/\vs=[]/\H l=some (.lst xs)/\Q .non (upd H l (.lst xs.reverse))
def zc:V->List V->Hp->VK->Prop:=λx vs H Q=>∃l xs,x=.ref l/\vs=[]/\H l=some (.lst xs)/\Q .non (upd H l (.lst []))
def J1:R2:=λx y H Q=>∃l b xs zs,x=.ref l/\y=.ref b/\H l=some (.lst xs)/\H b=some (.lst zs)/\xs.length+zs.length<=sizeLine/\∀p,H p=none->Q (.ref p) (upd H p (.lst (xs++zs)))
theorem Oc:kZ X (binaryOp .Add) J1:=by
 intro pins s σ H x y v u Q I rx ry h
 obtain⟨l,b,xs,zs,rfl,rfl,hH,hB,hz,q⟩:=h
 cases rx
 cases ry
 obtain⟨z,its,n,r,hl,e⟩:=I.Ol hH
 obtain⟨z2,KJ,n2,r2,WX,e2⟩:=I.Ol hB
 refine PySem.P.add_list e e2 ?_ (by rw[dE,dE];lia)
 have ea:its.toArray++KJ.toArray=(its++KJ).toArray:=by simp
 rw[ea]
 exact⟨.ref _,_,I.Wb (t':=s.toks) (r.append r2) (by rw[eL];lia),rfl,q _ I.fresh⟩
end
section
variable {prog:Program}{w:World}{A:Around}{E:Value->Shared->Prop}{s:Shared}
end
section
variable {X:Cx}
end
end L2
namespace L2
open PySem PySem.Spec PyProof.Rows
section
variable {κ:Type} [DecidableEq κ]
def jy(aJ:List (κ×V))(k:κ):Option V:=(aJ.find? λkv=>decide (kv.1=k)).map (·.2)
def putK(aJ:List (κ×V))(k:κ)(v:V):List (κ×V):=
 if (aJ.any λkv=>decide (kv.1=k))=true then aJ.map (λkv=>if kv.1=k then (kv.1,v) else kv) else aJ++[(k,v)]
def Sx(aJ:List (κ×V))(k:κ):List (κ×V):=aJ.filter λkv=>decide (kv.1≠k)
theorem my{p:κ×V}{r:List (κ×V)}{k:κ}(e:p.1=k):jy (p::r) k=some p.2:=by simp[jy,su,e]
theorem mz{p:κ×V}{r:List (κ×V)}{k:κ}(e:¬p.1=k):jy (p::r) k=jy r k:=by simp[jy,su,e]
theorem mB(k:κ):∀aJ:List (κ×V),(aJ.any λkv=>decide (kv.1=k))=(jy aJ k).isSome
 | []=>rfl
 | p::r=>by
  rw[pd]
  by_cases e:p.1=k
  ·simp only[my e,decide_eq_true e,Bool.true_or,Option.isSome_some]
  ·rw[mz e,decide_eq_false e,Bool.false_or];exact mB k r
theorem om(aJ:List (κ×V))(k:κ)(v:V):(putK aJ k v).length<=aJ.length+1:=by
 unfold putK
 split
 ·rw[bN];lia
 ·rw[eL,pK,List.length_nil];lia
theorem GQ{aJ:List (κ×V)}{k:κ}(v:V)(h:jy aJ k=none):putK aJ k v=aJ++[(k,v)]:=by
 unfold putK
 rw[mB,h]
 exact aB (by decide)
theorem oQ.Ec{o:Option V}{u:Option Value}(r:oQ o u):o.isSome=u.isSome:=by
 cases o with
 | none=>cases u with
  | none=>rfl
  | some _=>exact(show False from r).elim
 | some _=>cases u with
  | none=>exact(show False from r).elim
  | some _=>rfl
theorem KV.val{aJ:List (κ×V)}{vs:List (κ×Value)}(r:KV aJ vs)(k:κ):oQ (jy aJ k) (valueAt vs k):=by
 unfold KV at r
 induction r with
 | nil=>exact True.intro
 | @cons p q ps qs h t ih=>
  obtain⟨h1,h2⟩:=h
  by_cases e:p.1=k
  ·have e':q.1=k:=h1.symm.trans e
   have b:valueAt (q::qs) k=some q.2:=by simp[valueAt,su,e']
   rw[my e,b];exact h2
  ·have e':¬q.1=k:=λz=>e (h1.trans z)
   have b:valueAt (q::qs) k=valueAt qs k:=by simp[valueAt,su,e']
   rw[mz e,b];exact ih
theorem KV.any{aJ:List (κ×V)}{vs:List (κ×Value)}(r:KV aJ vs)(k:κ):(aJ.any λkv=>decide (kv.1=k))=vs.any λkv=>decide (kv.1=k):=by
 unfold KV at r
 induction r with
 | nil=>rfl
 | cons h t ih=>rw[pd,pd,ih,h.1]
theorem KV.repl{aJ:List (κ×V)}{vs:List (κ×Value)}(r:KV aJ vs)(k:κ){y:V}{u:Value}(ry:RelV y u) :
  KV (aJ.map λkv=>if kv.1=k then (kv.1,y) else kv) (vs.map λkv=>if kv.1=k then (kv.1,u) else kv):=by
 unfold KV at r ⊢
 induction r with
 | nil=>exact .nil
 | @cons p q ps qs h t ih=>
  rw[g5,g5]
  refine .cons ?_ ih
  obtain⟨h1,h2⟩:=h
  by_cases e:p.1=k
  ·rw[aC e,aC (h1.symm.trans e)];exact⟨h1,ry⟩
  ·rw[aB e,aB (λz=>e (h1.trans z))];exact⟨h1,h2⟩
theorem KV.put{aJ:List (κ×V)}{vs:List (κ×Value)}(r:KV aJ vs)(k:κ){y:V}{u:Value}(ry:RelV y u):KV (putK aJ k y) (stored vs k u):=by
 unfold putK stored
 rw[r.any k]
 by_cases e:(vs.any λkv=>decide (kv.1=k))=true
 ·rw[aC e,aC e];exact r.repl k ry
 ·rw[aB e,aB e];exact Paired.snoc r ⟨rfl,ry⟩
theorem KV.length{aJ:List (κ×V)}{vs:List (κ×Value)}(r:KV aJ vs):aJ.length=vs.length:=Paired.length r
end
theorem Hy{P:Program}{w:World}{k:Key}{u:Value}(r:RelV (kV k) u):(dA P w).is k u=true:=by
 cases k with
 | inl i=>obtain⟨t,e⟩:=(show ∃t,u=Value.int i t from r);subst e;exact w8 P w i t
 | inr x=>obtain⟨t,e⟩:=(show ∃t,u=Value.str x t from r);subst e;exact w6 P w x t
theorem tQ{P:Program}{w:World}:∀{ks:List Key} {us:List Value},Vals (ks.map kV) us->ItemsAre (dA P w) ks us
 | [],_,r=>by rw[uo]at r;cases r;exact .nil
 | k::ks,_,r=>by
  rw[g5]at r
  cases r with
  | cons h t=>exact .cons (Hy h) (tQ t)
abbrev KT(H:Hp):List (List Key×V)->List (List Key×Addr×Value)->Prop:=Paired λp q=>p.1=q.1/\H q.2.1=some (.tup (p.1.map kV))/\RelV p.2 q.2.2
theorem KT.val{H:Hp}{aJ:List (List Key×V)}{xs:List (List Key×Addr×Value)}(r:KT H aJ xs)(k:List Key):oQ (jy aJ k) ((atKey xs k).map (·.2)):=by
 induction r with
 | nil=>exact True.intro
 | @cons p q ps qs h t ih=>
  obtain⟨h1,_,h2⟩:=h
  by_cases e:p.1=k
  ·have e':q.1=k:=h1.symm.trans e
   have b:atKey (q::qs) k=some q.2:=by simp[atKey,su,e']
   rw[my e,b];exact h2
  ·have e':¬q.1=k:=λz=>e (h1.trans z)
   have b:atKey (q::qs) k=atKey qs k:=by simp[atKey,su,e']
   rw[mz e,b];exact ih
theorem KT.repl{H:Hp}{aJ:List (List Key×V)}{xs:List (List Key×Addr×Value)}(r:KT H aJ xs)(k:List Key){y:V}{u:Value}(ry:RelV y u) :
  KT H (aJ.map λkv=>if kv.1=k then (kv.1,y) else kv) (xs.map (putAt k u)):=by
 induction r with
 | nil=>exact .nil
 | @cons p q ps qs h t ih=>
  rw[g5,g5]
  refine .cons ?_ ih
  obtain⟨h1,h2,h3⟩:=h
  unfold putAt
  by_cases e:p.1=k
  ·rw[aC e,aC (h1.symm.trans e)];exact⟨h1,h2,ry⟩
  ·rw[aB e,aB (λz=>e (h1.trans z))];exact⟨h1,h2,h3⟩
theorem KT.put{H:Hp}{aJ:List (List Key×V)}{xs:List (List Key×Addr×Value)}(r:KT H aJ xs)(k:List Key){b:Addr}{y:V}{u:Value}(hb:H b=some (.tup (k.map kV)))(ry:RelV y u) :
  KT H (putK aJ k y) (storedH xs k b u):=by
 have e:(aJ.any λkv=>decide (kv.1=k))=(atKey xs k).isSome:=by
  rw[mB,(r.val k).Ec,Option.isSome_map]
 unfold putK storedH
 rw[e]
 by_cases q:(atKey xs k).isSome=true
 ·rw[aC q,aC q];exact r.repl k ry
 ·rw[aB q,aB q];exact Paired.snoc r ⟨rfl,hb,ry⟩
theorem KT.keeps{H H':Hp}{aJ:List (List Key×V)}{xs:List (List Key×Addr×Value)}(r:KT H aJ xs)(ht:∀b ys,H b=some (.tup ys)->H' b=some (.tup ys)):KT H' aJ xs:=
 Paired.Oi r λ_ _ z=>⟨z.1,ht _ _ z.2.1,z.2.2⟩
section
variable {P:Program}{w:World}{H:Hp}{h:Heap}{a:Addr}
theorem L8{u:HO}(ok:gb P w H h)(e:Rd H a u):bW P w H h a u:=e.ok ok
theorem Io{aJ:List (Key×V)}(ok:gb P w H h)(e:Rd H a (.dK aJ)):aJ.length<=sizeLine/\(a==sysModules)=false/\∃vs,KV aJ vs/\h.DictOf (dA P w) a vs:=
 show bW P w H h a (.dK aJ) from L8 ok e
theorem Sy{aJ:List (Key×V)}(ok:gb P w H h)(e:H a=some (.dK aJ)):aJ.length<=sizeLine/\(a==sysModules)=false/\∃vs,KV aJ vs/\h.DictOf (dA P w) a vs:=Io ok (.inl e)
theorem zK{ks:List Key}(ok:gb P w H h)(e:H a=some (.tup (ks.map kV))):(tupleKind (dA P w)).is h ks a:=by
 obtain⟨_,its,r,o,h1,h2,n,h3⟩:=(show bW P w H h a (.tup (ks.map kV)) from ok a _ e)
 exact⟨o,its.toArray,n,h1,h2,h3,by simpa using tQ r⟩
theorem Im{aJ:List (List Key×V)}(ok:gb P w H h)(e:Rd H a (.dT aJ)):aJ.length<=sizeLine/\(a==sysModules)=false/\
  ∃xs,KT H aJ xs/\h.DictOfH (tupleKind (dA P w)) a xs:=by
 obtain⟨z,y,xs,r,o,es,ep,h1,h2,h3,h4,h5⟩:=(show bW P w H h a (.dT aJ) from L8 ok e)
 refine⟨z,y,xs,r,o,es,ep,h1,h2,h3,h4,λx hx=>?_,h5⟩
 have all:∀{l:List (List Key×V)} {m:List (List Key×Addr×Value)},KT H l m->∀x∈m,(tupleKind (dA P w)).is h x.1 x.2.1:=by
  intro l m q
  induction q with
  | nil=>intro x hx;exact nomatch hx
  | @cons p q ps qs hq t ih=>
   intro x hx
   rcases ck.mp hx with e | hx
   ·subst e
    exact zK ok (by rw[<-hq.1];exact hq.2.1)
   ·exact ih x hx
 exact all r x hx
theorem Sw{aJ:List (List Key×V)}(ok:gb P w H h)(e:H a=some (.dT aJ)):aJ.length<=sizeLine/\(a==sysModules)=false/\
  ∃xs,KT H aJ xs/\h.DictOfH (tupleKind (dA P w)) a xs:=Im ok (.inl e)
end
def Ar(H:Hp)(a:Addr)(y:V)(r:Option V):Prop:=
 (∃aJ k,Rd H a (.dK aJ)/\y=kV k/\r=jy aJ k)\/∃aJ k b,Rd H a (.dT aJ)/\y=.ref b/\H b=some (.tup (k.map kV))/\r=jy aJ k
def Ez(H:Hp)(a:Addr)(y v:V)(H':Hp):Prop:=
 (∃aJ k,H a=some (.dK aJ)/\y=kV k/\aJ.length<sizeLine/\H'=upd H a (.dK (putK aJ k v)))\/
 ∃aJ k b,H a=some (.dT aJ)/\y=.ref b/\H b=some (.tup (k.map kV))/\aJ.length<sizeLine/\H'=upd H a (.dT (putK aJ k v))
theorem Ar.k{H:Hp}{a:Addr}{aJ:List (Key×V)}{k:Key}(e:H a=some (.dK aJ)):Ar H a (kV k) (jy aJ k):=.inl ⟨aJ,k,.inl e,rfl,rfl⟩
theorem Ez.k{H:Hp}{a:Addr}{aJ:List (Key×V)}{k:Key}{v:V}(e:H a=some (.dK aJ))(hl:aJ.length<sizeLine):Ez H a (kV k) v (upd H a (.dK (putK aJ k v))):=.inl ⟨aJ,k,e,rfl,hl,rfl⟩
section
variable {X:Cx}{pins:List (Addr×Obj)}{σ:St}{H:Hp}{s:Shared}{a:Addr}{y v:V}{u r:Value}{o:Option V}{A:Around}{E:Value->Shared->Prop}
theorem Inv.big(I:Inv X pins σ H s):sysModules<s.heap.objs.size:=by
 have h:mainGlobals<s.heap.objs.size:=(I.mod.glob.keeps I.bk).lt
 exact Nat.lt_trans (by decide) h
theorem Ek{Q:Value->Shared->Prop}(hu:A.units+1<cLine)(I:Inv X pins σ H s)(g:Ar H a y (some v))(ry:RelV y u)(h:∀w' s',Inv X pins σ H s'->RelV v w'->Q w' s') :
  wpAny (model X.prog X.w) A (getItem (.ref a) u) Q E s:=by
 rcases g with ⟨aJ,k,e,ey,l⟩ | ⟨aJ,k,b,e,ey,eb,l⟩
 ·subst ey
  obtain⟨z,hd,vs,rel,dd⟩:=Io I.bp e
  obtain⟨w',hw,Gp⟩:=oQ.some_of (v:=v) (o:=valueAt vs k) (by rw[l];exact rel.val k)
  exact wpAny_getItem_of (Hy ry) dd.mapOf hw (h w' _ (I.tok _) Gp)
 ·subst ey
  cases (show u=Value.ref b from ry)
  obtain⟨z,hd,xs,rel,dd⟩:=Im I.bp e
  obtain⟨w',hw,Gp⟩:=oQ.some_of (v:=v) (o:=(atKey xs k).map (·.2)) (by rw[l];exact rel.val k)
  obtain⟨p,hp,EY⟩:=Option.map_eq_some_iff.mp hw
  refine wpAny_getItem_heap (tupleKind_room_in1 hu) (zK I.bp eb) dd hp ?_
  rw[EY]
  exact h w' _ (I.tok _) Gp
theorem Ci{h':Heap}{t':Nat}{ob:HO}(I:Inv X pins σ H s)(mu:Tg (H a))(hs:Heap.SameBut a s.heap h')(he:∃q,h'.get? a=some q)(new:bW X.prog X.w (upd H a ob) h' a ob) :
  Inv X pins σ (upd H a ob) { s with heap:=h',toks:=t' }:=
 I.write (x:=a) (e:=a) mu (.inl rfl) (λb q hb z=>(hs.2 b hb).trans z) he new
theorem PN{P:Program}{w:World}{H':Hp}{h':Heap}{aJ:List (Key×V)}{vs:List (Key×Value)}(z:aJ.length<=sizeLine)(hd:(a==sysModules)=false)(rel:KV aJ vs)(dd:h'.DictOf (dA P w) a vs) :
  bW P w H' h' a (.dK aJ):=⟨z,hd,vs,rel,dd⟩
theorem Ej{H':Hp}{Q:Unit->Shared->Prop}(hu:A.units+1<cLine)(I:Inv X pins σ H s)(g:Ez H a y v H')(ry:RelV y u)(rv:RelV v r)(h:∀s',Inv X pins σ H' s'->Q () s') :
  wpAny (model X.prog X.w) A (setItem (.ref a) u r) Q E s:=by
 rcases g with ⟨aJ,k,e,ey,l,eH⟩ | ⟨aJ,k,b,e,ey,eb,l,eH⟩
 ·subst ey eH
  obtain⟨z,hd,vs,rel,dd⟩:=Sy I.bp e
  have hz:vs.length<=sizeLine:=by rw[<-rel.length];exact z
  have hl:(putK aJ k v).length<=sizeLine:=by have:=om aJ k v;lia
  refine wpAny_setItem_pairs (hsz:=hz) (Hy ry) dd λh' Ue hs=>h _ ?_
  have he:∃q,h'.get? a=some q:=let ⟨q,_,_,hq,_⟩:=Ue;⟨q,hq⟩
  exact Ci I (by rw[e];exact True.intro) hs he (PN hl hd (rel.put k rv) Ue)
 ·subst ey eH
  cases (show u=Value.ref b from ry)
  obtain⟨z,hd,xs,rel,dd⟩:=Sw I.bp e
  have hz:xs.length<=sizeLine:=by rw[<-Paired.length rel];exact z
  have hl:(putK aJ k v).length<=sizeLine:=by have:=om aJ k v;lia
  refine wpAny_setItem_heap (hsz:=hz) (tupleKind_room_in1 hu) (zK I.bp eb) dd λh' Ue hs=>h _ ?_
  obtain⟨q,es,ep,hq,h2,h3,h4,_,h5⟩:=Ue
  refine Ci I (by rw[e];exact True.intro) hs ⟨q,hq⟩ ⟨hl,hd,_,(rel.put k eb rv).keeps λc ys ec=>?_,q,es,ep,hq,h2,h3,h4,h5⟩
  rw[ay (qB ec e (λz=>nomatch z))]
  exact ec
end
section
variable {X:Cx}{pins:List (Addr×Obj)}{σ:St}{H:Hp}{s:Shared}{a:Addr}{aJ:List (Key×V)}{k:Key}{u:Value}{A:Around}{E:Value->Shared->Prop}
end
def P9(i:Expr):Prop:=∀ov iv,subscripted i false ov iv=operate [ov,iv] (getItem ov iv)
theorem JN{prog:Program}{w:World}{A:Around}{E:Value->Shared->Prop}{s:Shared}{env:Env}{value slice:Expr}{pos:Pos}{T id:String}{Q:Value->Shared->Prop}
  (hl:typeLookup (.type T) "__getitem__" = pure (some (.builtin id))) (hs:P9 slice)
  (h:wpAny (model prog w) A (eval value env) (λo s₁=>wpAny (model prog w) A (eval slice env) (λi s₂=>s₂.TypeIs o T/\wpAny (model prog w) A (getItem o i) Q E s₂) E s₁) E s) :
  wpAny (model prog w) A (eval (.Subscript value slice pos) env) Q E s:=by
 refine Subscript_ (bV h (λo s₁ h₁=>bV h₁ (λi s₂ h₂=>?_) λ_ _ x=>x) λ_ _ x=>x)
 obtain⟨hT,h₂⟩:=h₂
 unfold subscriptTail
 refine aj ?_
 rw[getitemInPython_of_ne hT.not_modules]
 refine aj (wpAny_specialOf hT hl ?_)
 have fin:wpAny (model prog w) A (subscripted slice false o i) (λr s₃=>wpAny (model prog w) A (letTemporaryGo value o r >>= λ_=>pure r) Q E s₃) E s₂:=by
  rw[hs o i]
  exact wpAny_operating (bV h₂ (λr s₃ h₃=>aj (wpAny_letTemporaryGo (aE h₃))) λ_ _ x=>x)
 first
  | exact aE (aj fin)
  | exact aj (aE (aj fin))
  | exact aj fin
theorem xX{X:Cx}{pins:List (Addr×Obj)}{σ:St}{H:Hp}{s:Shared}{a:Addr}{y:V}{o:Option V}(I:Inv X pins σ H s)(g:Ar H a y o):s.TypeIs (.ref a) "dict":=by
 rcases g with ⟨aJ,k,e,_,_⟩ | ⟨aJ,k,b,e,_,_,_⟩
 ·obtain⟨_,_,vs,_,dd⟩:=Io I.bp e
  exact dd.typeIs
 ·obtain⟨_,_,xs,_,dd⟩:=Im I.bp e
  exact dd.typeIs
def Be(td ty:TE):TE:=λσ H Q=>td σ H λx H1=>ty σ H1 λy H2=>∃a v,x=.ref a/\Ar H2 a y (some v)/\Q v H2
def Bl(td ty tv:TE):TS:=λD σ H=>tv σ H λv H1=>td σ H1 λx H2=>ty σ H2 λy H3=>∃a H4,x=.ref a/\Ez H3 a y v H4/\D.nx σ H4
section
variable {X:Cx}{o i e value:Expr}{pos pos' Fu:Pos}{td ty tv:TE}
theorem Kr(hu:X.A.units+1<cLine)(ho:PE X o td)(hi:PE X i ty)(hs:P9 i):PE X (.Subscript o i pos) (Be td ty):=by
 intro pins s σ H Q I h
 refine JN PySem.F.slot_dict_getitem.lookup hs (cp (ho pins s σ H _ I h) λu s1 ⟨x,H1,I1,rx,q1⟩=>cp (hi pins s1 σ H1 _ I1 q1) λiv s2 ⟨y,H2,I2,ry,a,v,ex,g,q2⟩=>?_)
 subst ex
 obtain rfl:u=Value.ref a:=rx
 exact⟨xX I2 g,Ek hu I2 g ry λw' s3 I3 Gp=>⟨v,H2,I3,Gp,q2⟩⟩
theorem Ki(hu:X.A.units+1<cLine)(ho:PE X o td)(hi:PE X i ty)(hv:PE X value tv)(hs:swapsWith value (some (.Subscript o i pos')) pos.line X.env=pure false) :
  PS X (.Assign [.Subscript o i pos'] value pos) (Bl td ty tv):=by
 intro pins s σ H D I h
 refine wpAny_Assign_Subscript (cp (hv pins s σ H _ I h) λr s1 ⟨v,H1,I1,rv,q1⟩=>cp (ho pins s1 σ H1 _ I1 q1) λu s2 ⟨x,H2,I2,rx,q2⟩=>cp (hi pins s2 σ H2 _ I2 q2) λiv s3 ⟨y,H3,I3,ry,a,H4,ex,g,q3⟩=>?_) hs
 subst ex
 obtain rfl:u=Value.ref a:=rx
 exact Ej hu I3 g ry rv λs4 I4=>⟨σ,H4,I4,q3⟩
end
theorem Ip{P:Program}{w:World}{H:Hp}(h:Heap)(hb:sysModules<h.objs.size):bW P w H (h.push { cls:=.type "dict",data:=.dict #[] }) h.objs.size (.dK []):=
 ⟨gd _,yF.mpr (eV (bj hb)),[],.nil,Heap.DictOf.new h⟩
def qm:TE:=λ_ H Q=>∀p,H p=none->Q (.ref p) (upd H p (.dK []))
def y2:TE:=λ_ H Q=>∀p,H p=none->Q (.ref p) (upd H p (.dT []))
section
variable {X:Cx}{pos:Pos}
theorem G9:PE X (.Dict [] [] pos) qm:=λpins s σ H Q I h=>
 wpAny_Dict_empty ⟨.ref s.heap.objs.size,_,I.laid (a:=s.heap.objs.size) (o:=.dK []) (t':=s.toks) (λ_ _ q=>bC _ q) (bu _) (Ip s.heap I.big),rfl,h _ (I.bp.fresh (bu _))⟩
end
def Oh(aJ more:List (Key×V)):List (Key×V):=more.foldl (λacc kv=>putK acc kv.1 kv.2) aJ
structure M2(X:Cx)(o:Expr)(m:Str)(apos:Pos)(e f:Expr)(cE:Pos):Prop where
 base:attributeBase o m X.env (eval o X.env)=eval o X.env
 few:((backTo cE (starEach [e,f] X.env)).all (λx=>!x.1)&&(backToKw cE (keywordEach [] X.env)).all (λx=>x.1.isSome)
  && decide (([e,f]:List Expr).length+([]:List Keyword).length+(if ([]:List Keyword).isEmpty then 0 else 1)<30))=true
 line:(apos.endLine==cE.line)=true
 trees:backTo cE (starEach [e,f] X.env)=[(false,eval e X.env),(false,eval f X.env)]
def IsD(H:Hp)(a:Addr):Prop:=(∃aJ,Rd H a (.dK aJ))\/∃aJ,Rd H a (.dT aJ)
section
variable {X:Cx}{pins:List (Addr×Obj)}{σ:St}{H:Hp}{s:Shared}{a:Addr}{y d:V}{u r:Value}{o:Option V}{A:Around}{E:Value->Shared->Prop}
end
def FQ(td ty:TE):TE:=λσ H Q=>td σ H λx H1=>∃a,x=.ref a/\IsD H1 a/\ty σ H1 λy H2=>∃aJ k v,H2 a=some (.dK aJ)/\y=kV k/\jy aJ k=some v/\Q v (upd H2 a (.dK (Sx aJ k)))
section
variable {X:Cx}{o e f:Expr}{apos cE:Pos}{td ty tx:TE}
end
section
variable {X:Cx}{pins:List (Addr×Obj)}{σ:St}{H:Hp}{s:Shared}{a:Addr}{aJ:List (Key×V)}{A:Around}{E:Value->Shared->Prop}
end
section
variable {X:Cx}{pins:List (Addr×Obj)}{σ:St}{H:Hp}{s:Shared}{a:Addr}{y:V}{u:Value}{A:Around}{E:Value->Shared->Prop}
end
end L2
namespace Att
open PySem PySem.W PySem.Calls PyProof.Rows
theorem oM{P:Params}{h:Heap}:∀(ns:List Int) (vs:List Value),WellAll P h vs (ns.map WData.int)->IntsAre vs ns:=by
 intro ns
 induction ns with
 | nil=>
  intro vs w
  rw[uo]at w
  cases w
  exact .nil
 | cons n ns ih=>
  intro vs w
  rw[g5]at w
  cases w with
  | cons a b=>
   cases a
   exact .cons _ _ (ih _ b)
theorem Dm{l:OpenLaw}{n:Nat}(hn:l.most=some n){P:Params}{h:Heap}{args:List WData}{vals:List Value}
  (KR:l.row.toRowW.claim.pre args=true) (Wr:WellAll P h vals args) :
  ∃a vs ns,vals=[Value.ref a]/\args=[WData.list (ns.map WData.int)]/\h.get? a=some { cls:=.type "list",data:=.seq vs.toArray }/\IntsAre vs ns/\ns.length<=n:=by
 have hsh:WShape.hasAll [] args [.list .int]=true:=(pre_splitW KR).1
 have hc:l.pre.holds [] { args:=args }=true:=(pre_splitW KR).2
 obtain⟨d,r,rfl,h1,h2⟩:=hasAllW_cons hsh
 obtain rfl:=hasAllW_nil h2
 obtain⟨xs,rfl,h3⟩:=hasW_list h1
 obtain⟨ns,rfl⟩:=items_int h3
 have hlen:ns.length<=n:=by
  unfold OpenLaw.pre at hc
  have h4:(WTm.not (.lt (.lit (.int (n:Int))) (.len (.arg 0)))).holds [] { args:=[.list (ns.map .int)] }=true:=by
   have h4:=(holds_andW hc).1
   rw[hn]at h4
   exact h4
  have h5:=condW_of h4 (w_not (w_lt w_lit (w_len_list (w_arg rfl))))
  rw[bN]at h5
  refine Nat.le_of_not_lt λq=>?_
  have q':(n:Int)<((ns.length:Nat):Int):=by lia
  first
   | (rw[decide_eq_true q']at h5;exact absurd h5 (by decide))
   | (simp at h5;lia)
 cases Wr with
 | cons w1 w2=>
  cases w2
  cases w1 with
  | list ho xT=>exact⟨_,_,ns,rfl,rfl,ho,oM ns _ xT,hlen⟩
theorem Dw(l:OpenLaw)(args:List WData):l.row.toRowW.claim.post args (.bool true) args=true:=
 postW_of (r:=l.row.toRowW) (X:=(true==true))
  (show WShape.has [] (.bool true) .bool=true by first | rfl | decide | simp[WShape.has,WShape.arms,WShape.armsAll])
  (show(WTm.eq .res (.lit (.bool true))).value [] { args:=args,res:=some (.bool true),after:=args }=some (.bool (true==true)) from w_eq_bool (w_res rfl) w_lit) rfl
theorem yh{l:OpenLaw}{n:Nat}{q:Program}{loose:List Str}{XP:(Str->Option Value)->Heap->Prop}{YP:World->Heap->Prop}{d:DefRec}
  (hn:l.most=some n) (R7:d.params.defaults=[])
  (call:∀(w:World) (s₀ s₁:Shared) (mg mb:Str->Option Value) (fa:Addr) (o:Obj) (pm cd doc:Value) (a:Addr) (vs:List Value) (ns:List Int),
   Ground q loose [] XP w s₀ mg mb s₁.heap->YP w s₁.heap->
   s₁.heap.get? fa=some o->o.data=.func (docDef d.name d.params d.body d.scope pm cd doc)->s₁.heap.CodeRec cd d.name->mg d.name=some (.ref fa)->
   s₁.heap.get? a=some { cls:=.type "list",data:=.seq vs.toArray }->IntsAre vs ns->ns.length<=n->s₁.gens = #[]->
   codeAny (model l.prog w) callerA (.call (.ref fa) ⟨[.ref a],[]⟩) (λr s'=>r=.ok (.ret (.bool true))/\OldK s₁.heap s'.heap/\s'.os=s₁.os/\AllBare s'.gens) s₁) :
  WalkO q loose XP YP l.row.toRowW d [] (λf vs=>PySem.call f vs):=by
 intro w s₀ s₁ mg mb G Y fa o pm cd doc dV kV ho hd nA hD RQ hg args vals as KR hlay hrd Wr hlo
 obtain rfl:dV=.none:=Dflts.none hD R7
 obtain rfl:kV=.none:=Dflts.noKw hD
 obtain⟨a,vs,ns,rfl,rfl,O8,hints,hlen⟩:=Dm hn KR Wr
 refine enter_call (gI (call w s₀ s₁ mg mb fa o pm cd doc a vs ns G Y ho (fd_plain hd) nA RQ O8 hints hlen hg) λr s' hq=>?_)
 obtain⟨rfl,h2,h3,h4⟩:=hq
 exact⟨.inl ⟨.bool true,.bool true,[],rfl,λ_=>rfl,.bool true,Dw l _,λ_=>⟨List.Pairwise.nil,λ_ hm=>(nomatch hm)⟩⟩,h2,h3,h4⟩
section
variable {prog:Program}{w:World}{A:Around}{E:Value->Shared->Prop}{s:Shared}{K:Frag}
end
end Att
namespace L2
open PySem PySem.Spec PyProof.Rows
theorem ng:∀{vs:List Value} {ns:List Int},IntsAre vs ns->Vals (ns.map V.int) vs
 | _,_,.nil=>.nil
 | _,_,.cons n t h=>.cons ⟨t,rfl⟩ (ng h)
end L2
namespace L2
open PySem PySem.Spec PyProof.Rows
end L2
namespace L2
open PySem PySem.Spec PyProof.Rows
def aT(s:Stmt):Arguments:=match s with
 | .FunctionDef _ a _ _ _ _ _ _ _ _=>a
 | _=>{ posonlyargs:=[],args:=[],vararg:=none,kwonlyargs:=[],kw_defaults:=[],kwarg:=none,defaults:=[] }
def aI(s:Stmt):List Stmt:=match s with
 | .FunctionDef _ _ b _ _ _ _ _ _ _=>b
 | _=>[]
def ag(s:Stmt):Scope:=match s with
 | .FunctionDef _ _ _ _ _ _ sc _ _ _=>sc
 | _=>{ kind:=.function,names:=[],isGenerator:=false,isCoroutine:=false }
abbrev eB:CQ:=λ_ _ _ _ _ _=>False
abbrev E0:XK:=λ_ _ _=>False
theorem bD{X:Cx}:Passes eB X E0:=λ_ _ _ _ _ _ _ h=>h.elim
structure ji(K:PySem.W.Frag)(x qual:Str)(st:Stmt)(f:Addr)(fd:FuncData):Prop where
 ex:∃(oc:Value) (od:Option Addr) (kV doc pm:Value) (an:Option Addr) (bE ct:Value) (rO:Array (Option Value)),
  fd=PySem.W.fnOf x qual (aT st) (aI st) (ag st) .none kV doc pm an bE ct/\K.lookup f=some ⟨oc,od,.func fd,rO⟩/\PySem.W.codeIn K bE qual=true
 kp:PySem.W.keepIn K (.ref f)=true
section
variable {P:Program}{w:World}{K:PySem.W.Frag}{mg:Str->Option Value}{base:Heap}
theorem ji.ok{x qual:Str}{st:Stmt}{f:Addr}{fd:FuncData}{N ps:List Str}{k:Nat}{sp:Sp}(F:ji K x qual st f fd)(S:aL N ps (ag st))(len:∀vs H Q E,sp vs H Q E->vs.length=ps.length)
  (dm:∀(bE:Value) (A:Around) (outer:List Env) (s:Shared) (H:Hp) (vs:List V) (Q:VK) (E:XK),cB k (A.deeper (envOfC qual (ag st) s.heap.objs.size f bE))->sp vs H Q E->
   ∃t,o9 (cM eB P w K mg base N qual (ag st) f bE A outer s H E).zu (aI st) t/\t { nx:=λ_ H'=>Q .non H',rt:=Q } (start N vs) H):cw P w K mg base eB (k+1) f fd ps sp:=by
 obtain⟨oc,od,kV,doc,pm,an,bE,ct,rO,rfl,lk,nA⟩:=F.ex
 refine Ii lk nA S len λA outer s H vs Q E hr o4=>?_
 obtain⟨t,h,q⟩:=dm bE A outer s H vs Q E hr o4
 exact⟨t,h.zu,q⟩
theorem ji.binds{x qual:Str}{st:Stmt}{f:Addr}{fd:FuncData}{ps:List Str}(F:ji K x qual st f fd)
  (h:∀(kV doc pm:Value) (an:Option Addr) (bE ct:Value) (us:List Value),us.length=ps.length->bindArgs (PySem.W.fnOf x qual (aT st) (aI st) (ag st) .none kV doc pm an bE ct) ⟨us,[]⟩=pure (ps.zip us)):Binds K fd ps []:=by
 obtain⟨oc,od,kV,doc,pm,an,bE,ct,rO,rfl,lk,nA⟩:=F.ex
 exact .all (h kV doc pm an bE ct)
theorem cq{x qual:Str}{st:Stmt}{f:Addr}{oc:Value}{od an:Option Addr}{rO:Array (Option Value)}{kV doc pm bE ct:Value}(l:K.lookup f=some ⟨oc,od,.func (PySem.W.fnOf x qual (aT st) (aI st) (ag st) .none kV doc pm an bE ct),rO⟩)
  (c:PySem.W.codeIn K bE qual=true) (k:PySem.W.keepIn K (.ref f)=true):ji K x qual st f (PySem.W.fnOf x qual (aT st) (aI st) (ag st) .none kV doc pm an bE ct):=⟨⟨oc,od,kV,doc,pm,an,bE,ct,rO,rfl,l,c⟩,k⟩
end
theorem kS{A:Around}{k:Nat}(hr:cB k A):A.units+1<cLine:=sG (Nat.add_le_add_left (by decide:1<=64) _) hr.units
theorem dn{n:Nat}(h:n<=1000):n<sizeLine:=sG h (by decide)
section
variable {X:Cx}
theorem pv(i:Nat){x:Str}{pos:Pos}(hN:X.N[i]?=some x:=by rfl)(hv:Qz X.env.scope x:=by first | exact Or.inl rfl | exact Or.inr (Or.inl rfl) | exact Or.inr (Or.inr rfl))(hd:(x==("__debug__" : Str))=false:=by decide)
  (nA:(x==("__classdict__" : Str))=false:=by decide):PE X (.Name x pos) (yW i):=G7 hN hv hd nA
end
def bB(H H':Hp):Prop:=∀b o,H b=some o->H' b=some o
theorem bB.refl(H:Hp):bB H H:=λ_ _ h=>h
theorem bB.trans{H H1 H2:Hp}(a:bB H H1)(b:bB H1 H2):bB H H2:=λc o h=>b c o (a c o h)
theorem bB.free{H H':Hp}(e:bB H H'){l:Addr}(h:H' l=Option.none):H l=Option.none:=by
 cases q:H l with
 | none=>rfl
 | some o=>
  rw[e l o q]at h
  cases h
section
variable {κ:Type} [DecidableEq κ]
end
end L2
end
section
theorem L2.hide{p:Prop}(h:∀q:Prop,(p->q)->q):p:=h p id
end
section
namespace L2
open PySem PySem.Spec PyProof.Rows
theorem ow{α β:Type}{f:α->β->Sem (ForInStep β)}(g:α->β->β):∀(l:List α) (b:β),(∀x∈l,∀c,f x c=pure (.yield (g x c)))->forIn l b f=pure (l.foldl (λc x=>g x c) b)
 | [],b,_=>rfl
 | x::l,b,h=>by
  rw[List.forIn_cons,h x dF,pure_bind]
  exact ow g l (g x b) λy hy=>h y (dR _ hy)
def bO(env:Env)(names:List (Str×NameKind))(cs:List (Str×Addr)):List (Str×Addr):=
 names.foldl (λc y=>if y.2==NameKind.free then (y.1,(env.cells.lookup y.1).getD 0)::c else c) cs
theorem fh{scope:Scope}{env:Env}(h:∀y∈scope.names,y.2=.free->∃c,env.cells.lookup y.1=some c):closureFor scope env=pure (bO env scope.names []):=by
 simp only[closureFor]
 rw[ow (λy c=>if y.2==NameKind.free then (y.1,(env.cells.lookup y.1).getD 0)::c else c) scope.names [] (λx hx c=>by
  obtain⟨n,kind⟩:=x
  dsimp only
  by_cases hk:kind=.free
  ·subst hk
   obtain⟨a,e⟩:=h (n,.free) hx rfl
   have e':env.cells.lookup n=some a:=e
   have:cellOf env n=pure a:=by unfold cellOf;rw[e']
   rw[this,e']
   rfl
  ·have hb:(kind==NameKind.free)=false:=by simpa using hk
   rw[hb];rfl)]
 simp only[pure_bind]
 rfl
theorem kh{env:Env}:∀(names:List (Str×NameKind)) (cs:List (Str×Addr)),(∀y∈names,y.2=.free->∃c,env.cells.lookup y.1=some c)->(∀p∈cs,env.cells.lookup p.1=some p.2)->
  ∀p∈bO env names cs,env.cells.lookup p.1=some p.2
 | [],cs,_,hc=>hc
 | y::r,cs,h,hc=>by
  unfold bO
  rw[sv]
  refine kh r _ (λz hz=>h z (dR _ hz)) λp hp=>?_
  by_cases hk:y.2=.free
  ·have hb:(y.2==NameKind.free)=true:=by simpa using hk
   rw[aC hb]at hp
   rcases ck.mp hp with e | hp
   ·obtain⟨c,e1⟩:=h y dF hk
    rw[e];dsimp only;rw[e1];rfl
   ·exact hc p hp
  ·have hb:¬(y.2==NameKind.free)=true:=by simpa using hk
   rw[aB hb]at hp
   exact hc p hp
theorem oA{env:Env}{p:Str×Addr}:∀(names:List (Str×NameKind)) (cs:List (Str×Addr)),p∈cs->p∈bO env names cs
 | [],_,h=>h
 | y::r,cs,h=>by
  unfold bO
  rw[sv]
  refine oA r _ ?_
  split
  ·exact dR _ h
  ·exact h
theorem tZ{env:Env}{x:Str}:∀(names:List (Str×NameKind)) (cs:List (Str×Addr)),(x,NameKind.free)∈names->∃c,(x,c)∈bO env names cs
 | y::r,cs,h=>by
  rcases ck.mp h with e | h
  ·subst e
   exact⟨_,by
    unfold bO;rw[sv]
    refine oA r _ ?_
    rw[aC (by rfl)]
    exact dF⟩
  ·obtain⟨c,hc⟩:=tZ r (if y.2==NameKind.free then (y.1,(env.cells.lookup y.1).getD 0)::cs else cs) h
   exact⟨c,by unfold bO;rw[sv];exact hc⟩
theorem kR{f:Str->Option Addr}{x:Str}:∀{cs:List (Str×Addr)},(∀p∈cs,f p.1=some p.2)->(∃c,(x,c)∈cs)->cs.lookup x=f x
 | [],_,⟨_,h⟩=>nomatch h
 | (n,a)::r,hc,⟨c,h⟩=>by
  rw[fA]
  by_cases e:x=n
  ·subst e
   rw[g8]
   exact(hc (x,a) dF).symm
  ·have hb:(x==n)=false:=by simpa using e
   rw[hb]
   refine kR (λp hp=>hc p (dR _ hp)) ⟨c,?_⟩
   rcases ck.mp h with q | q
   ·exact absurd (g4 Prod.fst q) e
   ·exact q
theorem mM{env : Env}{y : Str} : ∀ {names : List (Str × NameKind)}, (∀ z ∈ names, z.2 ≠ .cell) →
    ((names.map λ(n, k) => if (k==NameKind.free&&env.scope.kind == .function&&env.kindOf n==some .cell) then (n, NameKind.cell) else (n, k)).lookup y=some .cell ∨
     (names.map λ(n, k) => if (k==NameKind.free&&env.scope.kind == .function&&env.kindOf n==some .cell) then (n, NameKind.cell) else (n, k)).lookup y=some .free) → names.lookup y=some .free
  | [], _, h => by rcases h with h | h <;> cases h
  | (n, k)::r, hc, h => by
    have ih := @mM env y r λz hz => hc z (dR _ hz)
    rw[g5]at h
    rw[fA]
    by_cases e : y=n
    · subst e
      rw[g8]
      by_cases hb : (k==NameKind.free&&env.scope.kind == .function&&env.kindOf y==some .cell)=true
      · have hk : k=.free := by
          rw[eJ, eJ]at hb
          simpa using hb.1.1
        rw[hk]
      · dsimp only at h
        rw[aB hb, fA, g8]at h
        dsimp only at h
        rcases h with h | h
        · exact absurd (dB h) (hc (y, k) dF)
        · exact h
    · have hn : (y==n)=false := by simpa using e
      rw[hn]
      dsimp only at h ⊢
      apply ih
      by_cases hb : (k==NameKind.free&&env.scope.kind == .function&&env.kindOf n==some .cell)=true
      · rw[aC hb, fA, hn]at h
        exact h
      · rw[aB hb, fA, hn]at h
        exact h
structure CB where
 C:Addr
 cl:List (Str×Addr)
 s2:Shared
 H2:Hp
 ex:List Addr
@[reducible] def ft (X:Cx) (scope:Scope) (N:List Str) (c:CB):Cx:=
 { prog:=X.prog,w:=X.w,K:=X.K,mg:=X.mg,base:=X.base,A:=X.A,N:=N,s₀:=c.s2,H₀:=c.H2,env:=compEnvC scope c.cl c.C X.env,outer:=X.stack,stack:=X.stack,ex:=c.ex,fn:=λ_=>false,calm:=X.calm,pn:=[],xe:=λ_ _=>False }
def bz(σ:St)(idx:List Nat):St:=idx.map λi=>(σ[i]?).join
def aW(N:List Str)(idx:List Nat):List Str:=idx.map λi=>N.getD i ""
def oR(X:Cx)(ifs:List Expr)(t:TT):Prop:=
 ∀(pins:List (Addr×Obj)) (s:Shared) (σ:St) (H:Hp) (Q:Bool->Hp->Prop),Inv X pins σ H s->t σ H Q->
  wpAny (model X.prog X.w) X.A (forIn ifs true λc r=>if r=true then do let ok <-isTrue c X.env (eval c X.env);pure (ForInStep.yield ok) else pure (ForInStep.yield r)) (TP X pins σ Q) X.xe s
def Fv:TT:=λ_ H Q=>Q true H
theorem G4{X:Cx}:oR X [] Fv:=λ_ _ _ H _ I h=>wpAny_tests_nil ⟨H,I,h⟩
theorem G3{X:Cx}{e:Expr}{t:TT}(h:PT X e t):oR X [e] t:=λpins s σ H Q I q=>wpAny_tests_one (h pins s σ H Q I q)
def mE(wi:TI)(k:Nat)(idx:List Nat)(g:CB->TG)(tt:CB->TT)(te:CB->TE):TE:=λσ H Q=>wi σ H λJ H1=>∀D,H1 D=none->∃W:Nat->Nat->List V->Hp->Prop,(∃m,W 0 m [] (upd H1 D (.lst [])))/\
 ∀i m ys H',W i m ys H'->(J.stop i H'/\Q (.ref D) H')\/(J.go i H'/\∃N:List V->Hp->Prop,(∀j5 lV,N j5 lV->∃m',m'<m/\W (i+1) m' j5 lV)/\∀(c:CB) (own:St),own.length=k->∀x H2,J.yP i H' x H2->g c x (own++bz σ idx) H2 λσ3 H3=>
  (∃cY,cY.length=k/\σ3=cY++bz σ idx)/\tt c σ3 H3 λb H4=>if b=true then te c σ3 H4 λy H5=>H5 D=some (.lst ys)/\ys.length<sizeLine/\N (ys++[y]) (upd H5 D (.lst (ys++[y]))) else N ys H4)
structure lR(X:Cx)(scope:Scope)(xs:List Str)(idx:List Nat):Prop where
 kind:scope.kind=.function
 jG:∀y∈scope.names,y.2≠.cell
 loc:∀y∈scope.names,y.2=.local->scope.names.lookup y.1=some .local
 free:∀y∈scope.names,y.2=.free->scope.names.lookup y.1=some .free/\(X.env.kindOf y.1=some .cell\/X.env.kindOf y.1=some .free)
 ix:∀i∈idx,∃y,X.N[i]?=some y/\scope.names.lookup y=some .free
section
variable {prog:Program}{w:World}{A:Around}{R:Result->Shared->Prop}{s:Shared}
theorem fE{elt target iter:Expr}{ifs:List Expr}{scope:Scope}{pos:Pos}{it acc:Value}{env:Env}(I:Nat->Shared->Prop)
  (turn:∀n s,I n s->wpAny (model prog w) A (pyNext it) (λr s₁=>match r with
   | none=>R (.ok .next) s₁
   | some v=>wpAny (model prog w) A (letOwnedTupleGo target it v) (λ_ YZ=>wpAny (model prog w) A (assign target env v) (λ_ s₂=>
     wpAny (model prog w) A (forIn ifs true λc r=>if r=true then do let ok <-isTrue c env (eval c env);pure (ForInStep.yield ok) else pure (ForInStep.yield r)) (λok s₃=>
      if ok=true then wpAny (model prog w) A (eval elt env) (λx s₄=>
       wpAny (model prog w) A (call (.builtin "list.append") [acc,x]) (λ_ s₅=>∃m,m<n/\I m s₅) (λ_ _=>False) s₄) (λ_ _=>False) s₃
      else ∃m,m<n/\I m s₃) (λ_ _=>False) s₂) (λ_ _=>False) YZ) (λ_ _=>False) s₁) (λ_ _=>False) s)
  (n:Nat) (h:I n s) :
  codeAny (model prog w) A (.compLoop (.ListComp elt [⟨target,iter,ifs,0⟩] scope pos) 0 it acc env) R s:=by
 refine codeAny_loop rfl I (λn s hI=>?_) n h
 show wpAny _ A ((compTurn (.ListComp elt [⟨target,iter,ifs,0⟩] scope pos) 0 it acc env).onRaise (λx=>do noteFrame x env;theTreesLotGoes x)) _ _ s
 refine wpAny_noted ?_
 rw[compTurn_list]
 refine aj (pC (aj (bV (turn n s hI) (λr s₁ h₁=>?_) λ_ _ h'=>False.elim h')))
 cases r with
 | none=>exact aE h₁
 | some v=>
  refine aj (bV h₁ (λ_ YZ h₁'=>?_) λ_ _ h'=>False.elim h')
  refine aj (bV h₁' (λ_ s₂ h₂=>aj (bV h₂ (λok s₃ h₃=>?_) λ_ _ h'=>False.elim h')) λ_ _ h'=>False.elim h')
  cases ok with
  | false=>exact aE ⟨rfl,h₃⟩
  | true=>
   exact aj (aj (bV h₃ (λx s₄ h₄=>aj (bV h₄ (λ_ s₅ h₅=>aE (aE ⟨rfl,h₅⟩)) λ_ _ h'=>False.elim h')) λ_ _ h'=>False.elim h'))
end
section
variable {X:Cx}{pins:List (Addr×Obj)}{σ:St}{H:Hp}{s:Shared}
theorem gb.but{P:Program}{w:World}{h h':Heap}{C:Addr}(x:gb P w H h)(hn:H C=none)(hs:Heap.SameBut C h h'):gb P w H h':=λb ob e=>by
 refine(x b ob e).stay (λc w' hc q=>(hs.2 c ?_).trans q) (λ_ q=>q) λ_ _ q=>q
 rintro rfl
 rcases hc with rfl | hc
 ·rw[hn]at e;cases e
 ·rw[hn]at hc;cases hc
theorem Un.but{fs ex:List Addr}{H':Hp}{h h1 h2:Heap}{C:Addr}(u:Un fs ex H H' h h1)(hC:h.get? C=none)(hs:Heap.SameBut C h1 h2):Un fs ex H H' h h2:=by
 have ne:∀b o,h.get? b=some o->b≠C:=λb o e z=>by rw[z,hC]at e;cases e
 exact⟨λb o e n h1 h2=>(hs.2 b (ne b o e)).trans (u.keep b o e n h1 h2),λb o e n h1 h2=>by
   obtain⟨sl,q⟩:=u.slot b o e n h1 h2
   exact⟨sl,(hs.2 b (ne b o e)).trans q⟩,u.free,λb o e h2=>by
   obtain⟨o',q⟩:=u.there b o e h2
   exact⟨o',(hs.2 b (ne b o e)).trans q⟩,u.tups,u.frzs,u.tbls⟩
theorem FV{idx:List Nat}{j:Nat}{v:V}(h:(bz σ idx)[j]?=some (some v)):∃i,idx[j]?=some i/\σ[i]?=some (some v):=by
 unfold bz at h
 rw[fB]at h
 cases e:idx[j]? with
 | none=>rw[e]at h;cases h
 | some i=>
  rw[e]at h
  refine⟨i,rfl,?_⟩
  have h':(σ[i]?).join=some v:=dB h
  cases q:σ[i]? with
  | none=>rw[q]at h';cases h'
  | some o=>rw[q]at h';cases o with
   | none=>cases h'
   | some z=>cases h';rfl
theorem FW{N:List Str}{idx:List Nat}{j i:Nat}{y:Str}(h:idx[j]?=some i)(e:N[i]?=some y):(aW N idx)[j]?=some y:=by
 unfold aW
 rw[fB,h]
 show some (N.getD i "")=some y
 rw[List.getD_eq_getElem?_getD,e];rfl
theorem Inv.block{scope:Scope}{xs:List Str}{idx:List Nat}{fp:List Addr}{C:Addr}{h':Heap}{t':Nat}{H1:Hp}{D:Addr}{m0:Str->Option Value}(I:Inv X pins σ H s)(S:lR X scope xs idx)
  (T3:∀b∈fp,lN X pins H b) (K0:∀b∈fp,∃o,s.heap.get? b=some o) (hC:s.heap.objs.size<=C) (Pw:D≠C) (hD:s.heap.objs.size<=D) (hn:h'.Ns C m0) (hk:∀b o,s.heap.get? b=some o->h'.get? b=some o)
  (hl:∃n,h'.get? D=some { cls:=.type "list",data:=.seq #[] n }) :
  Inv (ft X scope (xs++aW X.N idx) ⟨C,bO X.env scope.names [],s,H,fp⟩) [] (List.replicate xs.length none++bz σ idx) (upd H D (.lst [])) { s with heap:=h',toks:=t' }:=by
 have xR:∀y∈scope.names,y.2=.free->∃c,X.env.cells.lookup y.1=some c:=λy hy e=>I.ok.has y.1 (S.free y hy e).2
 have xT:=kh (env:=X.env) scope.names [] xR (λp hp=>(nomatch hp))
 have kW:∀y c,(bO X.env scope.names []).lookup y=some c->X.env.cells.lookup y=some c:=λy c e=>xT (y,c) (g9 e)
 have R1:∀y,scope.names.lookup y=some .free->(bO X.env scope.names []).lookup y=X.env.cells.lookup y:=λy e=>kR (f:=λn=>X.env.cells.lookup n) xT (tZ scope.names [] (g9 e))
 have lt:∀b,(∃o,s.heap.get? b=some o)->b<s.heap.objs.size:=λb ⟨o,e⟩=>bf e
 have hDn:H D=none:=I.bp.fresh hD
 refine⟨⟨I.ok.mod,S.kind,I.ok.glob,I.ok.blt,hC,λx y c h1 h2=>I.ok.inj x y c (kW x c h1) (kW y c h2),λy hy=>?_,λ_ _ e=>(nomatch e),I.ok.hd,I.ok.frames,.inl rfl,λb hb=>⟨?_,λx c e=>(T3 b hb).2.2.2.2.1 x c (kW x c e)⟩,I.bs,fz I.ok.yb I.sz,λb o e hb=>?_,λb hb z=>?_,I.stack,I.mF⟩,
  rfl,I.bare,?_,⟨m0,hn,λi y v e1 e2 hv=>?_⟩,λx c e=>?_,?_,λx c e=>?_,λp hp=>(nomatch hp),?_,?_⟩
 ·
  have q:scope.names.lookup y=some .free:=mM S.jG hy
  have q2:=g9 q
  obtain⟨c,e⟩:=xR _ q2 rfl
  exact⟨c,(R1 y q).trans e⟩
 ·
  exact bj (eF (lt b (K0 b hb)) hC)
 ·
  rcases(T3 b hb).2.2.2.1 with z | z
  ·exact I.ok.vq b o e z
  ·exact absurd (eF (bf e) (fz I.ok.yb z)) (gJ _)
 ·
  rcases ck.mp (I.lz b z) with q | q
  ·exact(T3 b hb).2.1 q
  ·exact(T3 b hb).2.2.1 q
 ·
  exact Un.laid hk hD hDn
 ·
  by_cases hi:i<xs.length
  ·rw[nY (by simpa using hi)]at e2
   rw[List.getElem?_replicate]at e2
   split at e2 <;> cases e2
  ·have Mr:xs.length<=i:=Nat.le_of_not_lt hi
   rw[mj (by simpa using Mr),pz]at e2
   obtain⟨i0,ei,es⟩:=FV e2
   obtain⟨y',ey,ef⟩:=S.ix i0 (mh ei)
   have e1':(xs++aW X.N idx)[i]?=some y:=e1
   rw[mj Mr,FW ei ey]at e1'
   cases e1'
   obtain⟨m,hm,WY⟩:=I.loc
   have ef2:=S.free (y,.free) (g9 ef) rfl
   have Ur:Qz X.env.scope y:=.inr ef2.2
   obtain⟨u,ru,lk⟩:=WY i0 y v ey es Ur
   refine⟨u,ru,?_⟩
   rcases lk with ⟨k1,_⟩ | ⟨_,c,ec,hc⟩
   ·rcases ef2.2 with z | z
    ·have z':X.env.kindOf y=some .cell:=z
     rw[k1]at z';cases z'
    ·have z':X.env.kindOf y=some .free:=z
     rw[k1]at z';cases z'
   ·refine .inr ⟨?_,c,(R1 y ef).trans ec,hc.keeps hk⟩
    rcases hv with z | z | z
    ·exfalso
     have z':(relabel scope X.env).names.lookup y=some .local:=z
     have:∀(names:List (Str×NameKind)),names.lookup y=some .free->(names.map λ(n,k)=>if (k==NameKind.free&&X.env.scope.kind == .function&&X.env.kindOf n==some .cell) then (n,NameKind.cell) else (n,k)).lookup y≠some .local:=by
      intro names
      induction names with
      | nil=>intro h;cases h
      | cons p r ih=>
       obtain⟨n,k⟩:=p
       intro h
       rw[g5]
       by_cases e:y=n
       ·subst e
        rw[fA,g8]at h
        cases h
        dsimp only
        split
        ·rw[fA,g8];exact λq=>nomatch q
        ·rw[fA,g8];exact λq=>nomatch q
       ·have hn:(y==n)=false:=by simpa using e
        rw[fA,hn]at h
        dsimp only
        split
        ·rw[fA,hn];exact ih h
        ·rw[fA,hn];exact ih h
     exact this scope.names ef z'
    ·exact .inl z
    ·exact .inr z
 ·
  obtain⟨v,q⟩:=I.cell x c (kW x c e)
  exact⟨v,q.keeps hk⟩
 ·
  show upd H D (.lst []) C=none
  rw[ay (eV Pw)]
  exact I.bp.fresh hC
 ·
  have e':=kW x c e
  obtain⟨v,q⟩:=I.cell x c e'
  rw[ay (bj (eF q.lt hD))]
  exact I.dC x c e'
 ·
  obtain⟨n,e⟩:=hl
  exact I.bp.laid hk hD ⟨gd _,[],n,.nil,e⟩
 ·show(List.replicate xs.length none++bz σ idx).length=(xs++aW X.N idx).length
  rw[eL,eL,pz]
  unfold bz aW
  rw[bN,bN]
end
section
variable {X:Cx}{elt target iter:Expr}{ifs:List Expr}{scope:Scope}{pos:Pos}{xs:List Str}{idx:List Nat}{wi:TI}{g:CB->TG}{tt:CB->TT}{te:CB->TE}
theorem x6{pins:List (Addr×Obj)}{σ:St}{H2:Hp}{s2:Shared}{fp:List Addr}{it:Addr}{tn:Nat->Heap->Prop}{J:It}{Q:V->Hp->Prop}{RR:Value->Addr->Result->Shared->Prop}{E:Value->Shared->Prop}(hc:X.calm=true)(S:lR X scope xs idx)
  (hg:∀c,PG (ft X scope (xs++aW X.N idx) c) target (g c)) (ht:∀c,oR (ft X scope (xs++aW X.N idx) c) ifs (tt c)) (he:∀c,PE (ft X scope (xs++aW X.N idx) c) elt (te c))
  (I2:Inv X pins σ H2 s2) (T:Turn X.prog X.w X.K target J fp it tn) (wK:tn 0 s2.heap) (f2:∀b∈fp,lN X pins H2 b)
  (h:∀D,H2 D=none->∃W:Nat->Nat->List V->Hp->Prop,(∃m,W 0 m [] (upd H2 D (.lst [])))/\
   ∀i m ys H',W i m ys H'->(J.stop i H'/\Q (.ref D) H')\/(J.go i H'/\∃N:List V->Hp->Prop,(∀j5 lV,N j5 lV->∃m',m'<m/\W (i+1) m' j5 lV)/\∀(c:CB) (own:St),own.length=xs.length->∀x H2,J.yP i H' x H2->g c x (own++bz σ idx) H2 λσ3 H3=>
    (∃cY,cY.length=xs.length/\σ3=cY++bz σ idx)/\tt c σ3 H3 λb H4=>if b=true then te c σ3 H4 λy H5=>H5 D=some (.lst ys)/\ys.length<sizeLine/\N (ys++[y]) (upd H5 D (.lst (ys++[y]))) else N ys H4))
  (Xj:∀D C σ' H' s',s2.heap.objs.size<=C->Inv (ft X scope (xs++aW X.N idx) ⟨C,bO X.env scope.names [],s2,H2,fp⟩) [] σ' H' s'->Q (.ref D) H'->RR (.ref D) C (.ok .next) s') :
  wpAny (model X.prog X.w) X.A (newList []) (λacc s₃=>wpAny (model X.prog X.w) X.A (newFunctionEnv scope X.env.globals (bO X.env scope.names []) [] X.env.qual none .none (some X.env)) (λIz s₄=>
   codeAny (model X.prog X.w) X.A (.compStart (.ListComp elt [⟨target,iter,ifs,0⟩] scope pos) 0 (.ref it) acc { Iz with scope:=relabel scope X.env }) (RR acc Iz.locals) s₄) E s₃) E s2:=by
 refine eK (wpAny_newFunctionEnv S.jG (by intro y hy;simp at hy) (λh₁ zT vE=>?_) S.kind)
 dsimp only at zT vE ⊢
 generalize Pu:s2.heap.push { cls:=.type "list",dict:=none,data:=.seq ([]:List Value).toArray }=HH at zT vE ⊢
 have Px:HH.objs.size=s2.heap.objs.size+1:=by rw[<-Pu,nP]
 have Pw:s2.heap.objs.size≠HH.objs.size:=by rw[Px];exact bj (pM _)
 have zW:s2.heap.objs.size<=HH.objs.size:=by rw[Px];exact jq _
 have old:∀b o,s2.heap.get? b=some o->h₁.get? b=some o:=λb o e=>vE.extBut b o (by rw[Px];exact bj (nX (bf e))) (bC _ (Pu ▸ bC _ e))
 have zV:∃n,h₁.get? s2.heap.objs.size=some { cls:=.type "list",data:=.seq #[] n }:=⟨_,vE.extBut _ _ Pw (bC _ (Pu ▸ eG _ rfl))⟩
 have QX:tn 0 h₁:=T.keep _ _ _ wK λb _ o e=>old b o e
 obtain⟨W,⟨m0,w0⟩,turn⟩:=h s2.heap.objs.size I2.fresh
 have loop:∀s₃:Shared,s₃={ s2 with heap:=h₁,toks:=s2.toks+([]:List (Str×Value)).length }->
   codeAny (model X.prog X.w) X.A (.compLoop (.ListComp elt [⟨target,iter,ifs,0⟩] scope pos) 0 (.ref it) (.ref s2.heap.objs.size) (compEnvC scope (bO X.env scope.names []) HH.objs.size X.env)) (RR (.ref s2.heap.objs.size) HH.objs.size) s₃:=by
  rintro s₃ rfl
  have I3:=I2.block (t':=s2.toks+([]:List (Str×Value)).length) (H1:=H2) S f2 (λb hb=>let ⟨o,e,_⟩:=T.obj _ _ wK b hb;⟨o,e⟩) zW Pw (bu _) zT old zV
  generalize hY:ft X scope (xs++aW X.N idx) ⟨HH.objs.size,bO X.env scope.names [],s2,H2,fp⟩=Y at I3
  have eY:Y=ft X scope (xs++aW X.N idx) ⟨HH.objs.size,bO X.env scope.names [],s2,H2,fp⟩:=hY.symm
  have nof:∀b∈fp,b∉Y.fs:=λb hb z=>by
   rw[eY]at z
   rcases ck.mp (I2.lz b z) with q | q
   ·exact(f2 b hb).2.1 q
   ·exact(f2 b hb).2.2.1 q
  have stat:∀{H':Hp},(∀b∈fp,H' b=none)->∀b∈fp,lN Y [] H' b:=λ{H'} hn b hb=>by
   have lt:b<s2.heap.objs.size:=let ⟨o,e,_⟩:=T.obj _ _ wK b hb;bf e
   refine⟨hn b hb,?_,nof b hb,.inl (by rw[eY];exact hb),λx c e=>?_,λp hp=>?_⟩
   ·rw[eY];exact bj (eF lt zW)
   ·rw[eY]at e
    have xT:=kh (env:=X.env) scope.names [] (λy hy e=>I2.ok.has y.1 (S.free y hy e).2) (λp hp=>nomatch hp)
    exact(f2 b hb).2.2.2.2.1 x c (xT (x,c) (g9 e))
   ·rw[eY]at hp;exact nomatch hp
  have T':Turn Y.prog Y.w Y.K target J fp it tn:=by rw[eY];exact T
  have W2:PG Y target (g ⟨HH.objs.size,bO X.env scope.names [],s2,H2,fp⟩):=by rw[eY];exact hg _
  have Wt:oR Y ifs (tt ⟨HH.objs.size,bO X.env scope.names [],s2,H2,fp⟩):=by rw[eY];exact ht _
  have R5:PE Y elt (te ⟨HH.objs.size,bO X.env scope.names [],s2,H2,fp⟩):=by rw[eY];exact he _
  have R9:Y.calm=true:=by rw[eY];exact hc
  have eA:Y.A=X.A:=by rw[eY]
  have eP:Y.prog=X.prog:=by rw[eY]
  have eW:Y.w=X.w:=by rw[eY]
  have eE:Y.env=compEnvC scope (bO X.env scope.names []) HH.objs.size X.env:=by rw[eY]
  have eX:Y.xe=λ_ _=>False:=by rw[eY]
  have fin:∀σ' H' s',Inv Y [] σ' H' s'->Q (.ref s2.heap.objs.size) H'->RR (.ref s2.heap.objs.size) HH.objs.size (.ok .next) s':=λσ' H' s' I' q=>Xj _ _ σ' H' s' zW (by rw[<-eY];exact I') q
  rw[<-eE,<-eA,<-eP,<-eW]
  have Xz:∀b∈fp,(upd H2 s2.heap.objs.size (.lst [])) b=none:=λb hb=>by
   have lt:b<s2.heap.objs.size:=let ⟨o,e,_⟩:=T.obj _ _ wK b hb;bf e
   rw[ay (bj lt)];exact(f2 b hb).1
  refine fE (λn s'=>∃i ys own H',own.length=xs.length/\Inv Y [] (own++bz σ idx) H' s'/\tn i s'.heap/\(∀b∈fp,H' b=none)/\W i n ys H') ?_ m0
   ⟨0,[],_,_,pz,I3,QX,Xz,w0⟩
  rintro n s4 ⟨i,ys,own,H4,O5,I4,QW,Sr,w4⟩
  rcases turn i n ys H4 w4 with ⟨stop,qn⟩ | ⟨go,NN,Xm,step⟩
  ·exact cp (T'.done Y rfl rfl rfl R9 i [] s4 _ H4 _ I4 (stat Sr) QW stop) λr s5 ⟨hr,I5⟩=>by subst hr;exact fin _ _ _ I5 qn
  ·refine cp (T'.item Y rfl rfl rfl R9 i [] s4 _ H4 _ I4 (stat Sr) QW go) λr s5 ⟨u,hr,h5⟩=>?_
   subst hr
   refine cp h5 λ_ s6 ⟨x,H6,I6,r6,y6,Nf,Xy⟩=>?_
   have YT:=I6.pinned (stat Xy) (T'.obj _ _ Nf)
   have step':=step ⟨HH.objs.size,bO X.env scope.names [],s2,H2,fp⟩ own O5 x H6 y6
   refine bV (W2 _ s6 _ H6 x u _ YT r6 step') (λ_ s7 ⟨σ7,H7,I7,q7⟩=>?_) (λ_ _ z=>by rw[eX]at z;exact z)
   obtain⟨⟨N8,WN,e7⟩,q7⟩:=q7
   refine bV (Wt _ s7 σ7 H7 _ I7 q7) (λb s8 ⟨H8,I8,q8⟩=>?_) (λ_ _ z=>by rw[eX]at z;exact z)
   have again:∀{H9:Hp} {s9:Shared} {j5:List V},Inv Y ([]++nq fp s6.heap) σ7 H9 s9->NN j5 H9->∃m,m<n/\∃i ys own H',own.length=xs.length/\Inv Y [] (own++bz σ idx) H' s9/\tn i s9.heap/\(∀b∈fp,H' b=none)/\W i m ys H':=λ{H9 s9 j5} I9 n9=>by
    obtain⟨m',hm,w9⟩:=Xm _ _ n9
    rw[e7]at I9
    refine⟨m',hm,i+1,j5,N8,H9,WN,I9.jA,T'.keep _ _ _ Nf λb hb o e=>(I9.pin (b,o) (gL _ (gL _ (e8 hb e)))).1,λb hb=>?_,w9⟩
    obtain⟨o,e,d⟩:=T'.obj _ _ Nf b hb
    exact(I9.pin (b,o) (gL _ (gL _ (e8 hb e)))).2.1
   cases b with
   | false=>exact again I8 q8
   | true=>
    refine bV (R5 _ s8 σ7 H8 _ I8 q8) (λu9 s9 ⟨y,H9,I9,r9,hy,hz,q9⟩=>?_) (λ_ _ z=>by rw[eX]at z;exact z)
    have ap:=ka (X:=Y) _ s9 σ7 H9 (.ref s2.heap.objs.size) [y] (.ref s2.heap.objs.size) [u9] (λ_ Jl=>NN (ys++[y]) Jl) I9 rfl (.cons r9 .nil) ⟨_,ys,y,rfl,rfl,hy,hz,q9⟩
    refine bV ap (λ_ Dq ⟨_,Jl,YW,_,Vf⟩=>again YW Vf) (λ_ _ z=>by rw[eX]at z;exact z)
 exact codeAny_compStart_list (loop _ rfl) (T.self _ 0 _ _ _ QX (loop _ rfl))
theorem Ks(hc:X.calm=true)(S:lR X scope xs idx)(hi:PI X target iter wi)
  (hg:∀c,PG (ft X scope (xs++aW X.N idx) c) target (g c)) (ht:∀c,oR (ft X scope (xs++aW X.N idx) c) ifs (tt c)) (he:∀c,PE (ft X scope (xs++aW X.N idx) c) elt (te c))
  (hs:∀x,foldedSetIterable iter X.env x=pure x:=by intro _;rfl):PE X (.ListComp elt [⟨target,iter,ifs,0⟩] scope pos) (mE wi xs.length idx g tt te):=by
 intro pins s σ H Q I h
 rw[eval_ListComp]
 have xS:closureFor scope X.env=pure (bO X.env scope.names []):=fh λy hy e=>I.ok.has y.1 (S.free y hy e).2
 refine yJ (use:=none) rfl hs xS S.kind S.loc (cp (hi pins s σ H _ I h) λxv s₁ h₁=>cp h₁ λOx s₂ h₂=>?_)
 obtain⟨it,fp,tn,J,H2,e,I2,T,wK,f2,hW⟩:=h₂
 subst e
 refine x6 (Q:=Q) (RR:=λacc C=>compPost (model X.prog X.w) X.A X.xe none (EP X pins σ Q) acc C) hc S hg ht he I2 T wK f2 hW ?_
 intro D C σ' H' s' hC I' q
 obtain⟨m',hn,_⟩:=I'.loc
 refine⟨m',hn,λXv HN=>?_⟩
 obtain⟨hh,gg,d,t,os⟩:=s'
 obtain rfl:os=s₂.os:=I'.os
 have Cn:s₂.heap.get? C=none:=pw hC
 refine⟨.ref D,H',I2.call (s:=s₂) (h':=Xv) (g':=gg) (d':=d) (t':=t) (ch:=fp) (I'.base.but Cn HN) (I'.bp.but I'.free HN) I'.bare (λb hb=>?_),rfl,q⟩
 obtain⟨_,f1,_,f3,f4,f5⟩:=f2 b hb
 exact⟨f3,f1,f4,f5⟩
end
theorem z9{lo:Int}{n k:Nat}{idx:List Nat}{g:CB->TG}{tt:CB->TT}{te:CB->TE}{σ:St}{Q:VK}{H1:Hp}{D:Addr}(Pv:Nat->List V->Hp->Prop)(h0:Pv 0 [] (upd H1 D (.lst [])))
  (hs:∀i ys H,i<n->Pv i ys H->∀(c:CB) (own:St),own.length=k->g c (.int (lo+i)) (own++bz σ idx) H λσ3 H3=>
   (∃cY,cY.length=k/\σ3=cY++bz σ idx)/\tt c σ3 H3 λb H4=>if b=true then te c σ3 H4 λy H5=>H5 D=some (.lst ys)/\ys.length<sizeLine/\Pv (i+1) (ys++[y]) (upd H5 D (.lst (ys++[y]))) else Pv (i+1) ys H4)
  (hd:∀ys H,Pv n ys H->Q (.ref D) H) :
  ∃W:Nat->Nat->List V->Hp->Prop,(∃m,W 0 m [] (upd H1 D (.lst [])))/\
   ∀i m ys H',W i m ys H'->((yk lo n).stop i H'/\Q (.ref D) H')\/((yk lo n).go i H'/\∃N:List V->Hp->Prop,(∀j5 lV,N j5 lV->∃m',m'<m/\W (i+1) m' j5 lV)/\∀(c:CB) (own:St),own.length=k->∀x H2,(yk lo n).yP i H' x H2->g c x (own++bz σ idx) H2 λσ3 H3=>
    (∃cY,cY.length=k/\σ3=cY++bz σ idx)/\tt c σ3 H3 λb H4=>if b=true then te c σ3 H4 λy H5=>H5 D=some (.lst ys)/\ys.length<sizeLine/\N (ys++[y]) (upd H5 D (.lst (ys++[y]))) else N ys H4):=by
 refine⟨λi m ys H=>m=n-i/\i<=n/\Pv i ys H,⟨n,by simp,gd _,h0⟩,?_⟩
 rintro i m ys H ⟨rfl,hi,p⟩
 by_cases kc:i<n
 ·refine .inr ⟨kc,Pv (i+1),λj5 H' p'=>⟨n-(i+1),by omega,rfl,kc,p'⟩,λc own ho x H' y=>?_⟩
  obtain⟨e,y⟩:=y
  subst e y
  exact hs i ys _ kc p c own ho
 ·have e:i=n:=by omega
  subst e
  exact .inl ⟨bu _,hd ys H p⟩
theorem Em{K:PySem.W.Frag}{a:Addr}{zs:List V}{k:Nat}{idx:List Nat}{g:CB->TG}{tt:CB->TT}{te:CB->TE}{σ:St}{Q:VK}{H1:Hp}{D:Addr}(Pv:Nat->List V->Hp->Prop)(h0:Pv 0 [] (upd H1 D (.lst [])))
  (hl:∀i ys H,i<=zs.length->Pv i ys H->lU K H a zs)
  (hs:∀i x ys H,zs[i]?=some x->Pv i ys H->∀(c:CB) (own:St),own.length=k->g c x (own++bz σ idx) H λσ3 H3=>
   (∃cY,cY.length=k/\σ3=cY++bz σ idx)/\tt c σ3 H3 λb H4=>if b=true then te c σ3 H4 λy H5=>H5 D=some (.lst ys)/\ys.length<sizeLine/\Pv (i+1) (ys++[y]) (upd H5 D (.lst (ys++[y]))) else Pv (i+1) ys H4)
  (hd:∀ys H,Pv zs.length ys H->Q (.ref D) H) :
  ∃W:Nat->Nat->List V->Hp->Prop,(∃m,W 0 m [] (upd H1 D (.lst [])))/\
   ∀i m ys H',W i m ys H'->((Am K a).stop i H'/\Q (.ref D) H')\/((Am K a).go i H'/\∃N:List V->Hp->Prop,(∀j5 lV,N j5 lV->∃m',m'<m/\W (i+1) m' j5 lV)/\∀(c:CB) (own:St),own.length=k->∀x H2,(Am K a).yP i H' x H2->g c x (own++bz σ idx) H2 λσ3 H3=>
    (∃cY,cY.length=k/\σ3=cY++bz σ idx)/\tt c σ3 H3 λb H4=>if b=true then te c σ3 H4 λy H5=>H5 D=some (.lst ys)/\ys.length<sizeLine/\N (ys++[y]) (upd H5 D (.lst (ys++[y]))) else N ys H4):=by
 refine⟨λi m ys H=>m=zs.length-i/\i<=zs.length/\Pv i ys H,⟨zs.length,by simp,gd _,h0⟩,?_⟩
 rintro i m ys H ⟨rfl,hi,p⟩
 have q:=hl i ys H hi p
 by_cases kc:i<zs.length
 ·refine .inr ⟨⟨zs,zs[i],q,by simp[kc]⟩,Pv (i+1),λj5 H' p'=>⟨zs.length-(i+1),by omega,rfl,kc,p'⟩,λc own ho x H' y=>?_⟩
  obtain⟨e,y⟩:=y
  subst e
  exact hs i x ys _ (y zs q) p c own ho
 ·have e:i=zs.length:=by omega
  subst e
  exact .inl ⟨⟨zs,q,bu _⟩,hd ys H p⟩
theorem N9{own:St}{k:St}{x:V}(h:own.length=1):(own++k).set 0 (some x)=[some x]++k:=by
 match own,h with
 | [_],_=>rfl
theorem x8{lo:Int}{n:Nat}{idx:List Nat}{tt:CB->TT}{te:CB->TE}{σ:St}{Q:VK}{H1:Hp}{D:Addr}(Pv:Nat->List V->Hp->Prop)(h0:Pv 0 [] (upd H1 D (.lst [])))
  (hs:∀i ys H,i<n->Pv i ys H->∀(c:CB),tt c (some (.int (lo+i))::bz σ idx) H λb H4=>if b=true then te c (some (.int (lo+i))::bz σ idx) H4 λy H5=>H5 D=some (.lst ys)/\ys.length<sizeLine/\Pv (i+1) (ys++[y]) (upd H5 D (.lst (ys++[y]))) else Pv (i+1) ys H4)
  (hd:∀ys H,Pv n ys H->Q (.ref D) H) :
  ∃W:Nat->Nat->List V->Hp->Prop,(∃m,W 0 m [] (upd H1 D (.lst [])))/\
   ∀i m ys H',W i m ys H'->((yk lo n).stop i H'/\Q (.ref D) H')\/((yk lo n).go i H'/\∃N:List V->Hp->Prop,(∀j5 lV,N j5 lV->∃m',m'<m/\W (i+1) m' j5 lV)/\∀(c:CB) (own:St),own.length=1->∀x H2,(yk lo n).yP i H' x H2->cP 0 x (own++bz σ idx) H2 λσ3 H3=>
    (∃cY,cY.length=1/\σ3=cY++bz σ idx)/\tt c σ3 H3 λb H4=>if b=true then te c σ3 H4 λy H5=>H5 D=some (.lst ys)/\ys.length<sizeLine/\N (ys++[y]) (upd H5 D (.lst (ys++[y]))) else N ys H4):=
 z9 (g:=λ_=>cP 0) Pv h0 (λi ys H hi p c own ho=>by
  show(∃cY,cY.length=1/\(own++bz σ idx).set 0 _=cY++bz σ idx)/\tt c ((own++bz σ idx).set 0 _) H _
  rw[N9 ho]
  exact⟨⟨[_],rfl,rfl⟩,hs i ys H hi p c⟩) hd
theorem Aa{K:PySem.W.Frag}{a:Addr}{zs:List V}{idx:List Nat}{tt:CB->TT}{te:CB->TE}{σ:St}{Q:VK}{H1:Hp}{D:Addr}(Pv:Nat->List V->Hp->Prop)(h0:Pv 0 [] (upd H1 D (.lst [])))
  (hl:∀i ys H,i<=zs.length->Pv i ys H->lU K H a zs)
  (hs:∀i x ys H,zs[i]?=some x->Pv i ys H->∀(c:CB),tt c (some x::bz σ idx) H λb H4=>if b=true then te c (some x::bz σ idx) H4 λy H5=>H5 D=some (.lst ys)/\ys.length<sizeLine/\Pv (i+1) (ys++[y]) (upd H5 D (.lst (ys++[y]))) else Pv (i+1) ys H4)
  (hd:∀ys H,Pv zs.length ys H->Q (.ref D) H) :
  ∃W:Nat->Nat->List V->Hp->Prop,(∃m,W 0 m [] (upd H1 D (.lst [])))/\
   ∀i m ys H',W i m ys H'->((Am K a).stop i H'/\Q (.ref D) H')\/((Am K a).go i H'/\∃N:List V->Hp->Prop,(∀j5 lV,N j5 lV->∃m',m'<m/\W (i+1) m' j5 lV)/\∀(c:CB) (own:St),own.length=1->∀x H2,(Am K a).yP i H' x H2->cP 0 x (own++bz σ idx) H2 λσ3 H3=>
    (∃cY,cY.length=1/\σ3=cY++bz σ idx)/\tt c σ3 H3 λb H4=>if b=true then te c σ3 H4 λy H5=>H5 D=some (.lst ys)/\ys.length<sizeLine/\N (ys++[y]) (upd H5 D (.lst (ys++[y]))) else N ys H4):=
 Em (g:=λ_=>cP 0) Pv h0 hl (λi x ys H hi p c own ho=>by
  show(∃cY,cY.length=1/\(own++bz σ idx).set 0 _=cY++bz σ idx)/\tt c ((own++bz σ idx).set 0 _) H _
  rw[N9 ho]
  exact⟨⟨[_],rfl,rfl⟩,hs i x ys H hi p c⟩) hd
def Yk(z:Str)(lo hi:Option Int):Str:=⟨((z.cps.toList.drop (HT.cy z.length 0 lo)).take (HT.cy z.length z.length hi-HT.cy z.length 0 lo)).toArray⟩
theorem iF{n:Nat}(h:n<=1000):n<=sizeLine:=lu (sG h (by decide))
section
variable {X:Cx}
def Nq:V->Option Int->Option Int->Hp->VK->Prop:=λx lo hi H Q=>∃z,x=.str z/\z.length<=sizeLine/\Q (.str (Yk z lo hi)) H
def M8(K:PySem.W.Frag)(te ts:TE):TE:=λσ H Q=>te σ H λx H1=>ts σ H1 λy H2=>∃a xs,x=.ref a/\y=.int (-1)/\lU K H2 a xs/\∀p,H2 p=none->Q (.ref p) (upd H2 p (.lst xs.reverse))
theorem IW(c:Value):cD X (.builtin "isinstance") (λvs H Q=>∃x t b n,vs=[x,.ty n]/\mX X.K H x t/\PySem.W.kitOne X.K t (.type n)=some b/\Q (.bl b) H):=by
 intro pins s σ H vs us Q I rv h
 obtain⟨x,t,b,n,rfl,ty,e,q⟩:=h
 obtain⟨u,v,rfl,ru,U9⟩:=rv.two
 obtain rfl:v=Value.type n:=U9
 exact Eb I ru ty e λtk=>⟨.bl b,H,I.tok _,rfl,q⟩
def Ss(xs ys:List V):Bool:=xs.length==ys.length&&(List.range xs.length).all λj=>Fd (xs.getD j .non) (ys.getD j .non)
def vb:V->List V->Hp->VK->Prop:=λx vs H Q=>∃a aJ,x=.ref a/\vs=[]/\H a=some (.dK aJ)/\Q .non (upd H a (.dK []))
end
section
variable {X:Cx}{elt target iter:Expr}{ifs:List Expr}{scope:Scope}{pos spos py:Pos}{xs:List Str}{idx:List Nat}{wi:TI}{g:CB->TG}{tt:CB->TT}{te:CB->TE}
theorem Kh{i:Nat}{y:Str}(hN:X.N.Nodup)(hi0:X.N[i]?=some y)(hy:X.env.scope.names.lookup y=some .local)(hc:X.calm=true)(S:lR X scope xs idx)(hi:PI X target iter wi)
  (hg:∀c,PG (ft X scope (xs++aW X.N idx) c) target (g c)) (ht:∀c,oR (ft X scope (xs++aW X.N idx) c) ifs (tt c)) (he:∀c,PE (ft X scope (xs++aW X.N idx) c) elt (te c))
  (Ww:swapsWith (.ListComp elt [⟨target,iter,ifs,0⟩] scope pos) (some (.Name y py)) spos.line X.env=pure true:=by rfl)
  (hs:∀x,foldedSetIterable iter X.env x=pure x:=by intro _;rfl):PS X (.Assign [.Name y py] (.ListComp elt [⟨target,iter,ifs,0⟩] scope pos) spos) (qp (mE wi xs.length idx g tt te) (cP i)):=by
 intro pins s σ H D I h
 have xS:closureFor scope X.env=pure (bO X.env scope.names []):=fh λy hy e=>I.ok.has y.1 (S.free y hy e).2
 rw[exec_Assign_Name_used _ _ _ _ Ww]
 refine aj (pC (aj ?_))
 show wpAny _ X.A (do let _ <-comprehension (.ListComp elt [⟨target,iter,ifs,0⟩] scope pos) scope X.env _ (newList []) false (eval iter X.env) (some (assign (.Name y py) X.env))) _ _ s
 refine aj (bV (yJ (use:=some (assign (.Name y py) X.env)) (Q:=λ_ s'=>SP X pins D .next s') rfl hs xS S.kind S.loc
  (cp (hi pins s σ H _ I h) λxv s₁ h₁=>cp h₁ λOx s₂ h₂=>?_)) (λ_ s' hq=>aE (aE hq)) λ_ _ e=>e)
 obtain⟨it,fp,tn,J,H2,e,I2,T,wK,f2,hW⟩:=h₂
 subst e
 refine x6 (Q:=λv H'=>cP i v σ H' D.nx) (RR:=λacc C=>compPost (model X.prog X.w) X.A X.xe (some (assign (.Name y py) X.env)) (λ_ s'=>SP X pins D .next s') acc C) hc S hg ht he I2 T wK f2 hW ?_
 intro DD C σ' H' s' hC I' q
 show wpAny _ X.A (assign (.Name y py) X.env (.ref DD)) _ _ _
 obtain⟨hh,gg,d,t,os⟩:=s'
 obtain rfl:os=s₂.os:=I'.os
 have Cn:s₂.heap.get? C=none:=pw hC
 have I3:Inv X pins σ H' { s₂ with heap:=hh,gens:=gg,drawn:=d,toks:=t }:=I2.call (s:=s₂) (h':=hh) (g':=gg) (d':=d) (t':=t) (ch:=fp) (I'.base.but Cn (Heap.SameBut.refl _ _)) I'.bp I'.bare (λb hb=>by
  obtain⟨_,f1,_,f3,f4,f5⟩:=f2 b hb
  exact⟨f3,f1,f4,f5⟩)
 obtain⟨m',hn,_⟩:=I'.loc
 have hLC:X.env.locals≠C:=bj (eF I2.lt hC)
 refine wpAny_assign_Name (tF I3 hN hi0 (.inl hy) (v:=.ref DD) rfl (λQ9 I4 ⟨a,hs4,ha⟩=>?_) (.inr hy))
 have haC:C≠a:=by
  rcases ha with e | e
  ·rw[e];exact eV hLC
  ·obtain⟨v,q⟩:=I2.cell y a e
   exact js (eF q.lt hC)
 refine⟨m',hn.sameBut hs4 haC,λh3 hs3=>?_⟩
 obtain⟨hh4,gg4,d4,t4,Y6⟩:=Q9
 have I5:Inv X pins (σ.set i (some (.ref DD))) H' { heap:=h3,gens:=gg4,drawn:=d4,toks:=t4,os:=Y6 }:=
  I4.turned (s:={ heap:=hh4,gens:=gg4,drawn:=d4,toks:=t4,os:=Y6 }) (h':=h3) (t':=t4) (it:=C) (λb o hb e=>(hs3.2 b hb).trans e) I'.free (eV hLC) (.inr (fz I2.sz hC)) (λx c e z=>by
   obtain⟨v,q⟩:=I2.cell x c e
   exact absurd (eF q.lt hC) (by rw[z];exact gJ _)) (λp hp z=>by
   have:=(I2.pin p hp).1
   rw[z,Cn]at this;cases this)
 exact⟨_,H',I5,q⟩
end
def z7(fZ:Scope)(N:List Str)(scope:Scope)(idx:List Nat):Bool:=
 scope.kind == .function&&scope.names.all (λy=>y.2 != .cell)&&scope.names.all (λy=>y.2 != .local||scope.names.lookup y.1==some .local) &&
 scope.names.all (λy=>y.2 != .free||(scope.names.lookup y.1==some .free&&(fZ.names.lookup y.1==some .cell||fZ.names.lookup y.1==some .free))) &&
 idx.all (λi=>match N[i]? with | some y=>scope.names.lookup y==some .free | none=>false)
theorem nE{X:Cx}{scope:Scope}{xs:List Str}{idx:List Nat}{fZ:Scope}{N:List Str}(h:z7 fZ N scope idx=true)(e1:X.env.scope=fZ:=by rfl)(e2:X.N=N:=by rfl):lR X scope xs idx:=by
 unfold z7 at h
 simp only[eJ]at h
 refine hide λgG hG=>?_
 obtain⟨⟨⟨⟨h1,h2⟩,h3⟩,h4⟩,h5⟩:=h
 refine hG ?_
 refine⟨by simpa using h1,λy hy e=>?_,λy hy e=>?_,λy hy e=>?_,λi hi=>?_⟩
 ·have:=nV.mp h2 y hy
  rw[e]at this;exact absurd this (by decide)
 ·have:=nV.mp h3 y hy
  rw[e]at this;simpa using this
 ·have:=nV.mp h4 y hy
  rw[e]at this
  have t:(scope.names.lookup y.1==some NameKind.free&&(fZ.names.lookup y.1==some .cell||fZ.names.lookup y.1==some .free))=true:=by simpa using this
  rw[eJ,Bool.or_eq_true]at t
  refine⟨by simpa using t.1,?_⟩
  show X.env.scope.names.lookup y.1=_\/X.env.scope.names.lookup y.1=_
  rw[e1]
  exact t.2.imp (by simp) (by simp)
 ·have:=nV.mp h5 i hi
  rw[e2]
  cases e:N[i]? with
  | none=>rw[e]at this;cases this
  | some y=>rw[e]at this;exact⟨y,rfl,by simpa using this⟩
theorem Cz{α:Type}(a:α)(xs:List α):rG (a::xs) 0=some a:=fu (j:=0) rfl
theorem Cy{α:Type}(a b:α)(xs:List α):rG (a::b::xs) 1=some b:=fu (j:=1) rfl
theorem Cw{α:Type}(a b c:α)(xs:List α):rG (a::b::c::xs) 2=some c:=fu (j:=2) rfl
theorem Cv{α:Type}(a b c d:α)(xs:List α):rG (a::b::c::d::xs) 3=some d:=fu (j:=3) rfl
theorem Jg{α:Type}(a b c d e:α)(xs:List α):rG (a::b::c::d::e::xs) 4=some e:=fu (j:=4) rfl
theorem Jf{α:Type}(a b c d e f:α)(xs:List α):rG (a::b::c::d::e::f::xs) 5=some f:=fu (j:=5) rfl
theorem zP:Ea 6 1=some 1:=rfl
theorem zO:Ea 6 2=some 2:=rfl
theorem zN:Ea 6 3=some 3:=rfl
theorem zM:Ea 6 4=some 4:=rfl
theorem zL:Ea 6 5=some 5:=rfl
theorem Ck(i:Int):jj i 48271/\jj i 40693/\jj i 3/\jj i 4294967296:=⟨.inr ⟨by decide,by decide⟩,.inr ⟨by decide,by decide⟩,.inr ⟨by decide,by decide⟩,.inr ⟨by decide,by decide⟩⟩
theorem Iy(i:Int):jj i 48271:=(Ck i).1
theorem Iw(i:Int):jj i 40693:=(Ck i).2.1
theorem Iv(i:Int):jj i 3:=(Ck i).2.2.1
theorem Iu(i:Int):jj i 4294967296:=(Ck i).2.2.2
theorem Cm(i:Int):jj 5 i/\jj 3 i/\jj 7 i/\jj 10 i:=⟨.inl ⟨by decide,by decide⟩,.inl ⟨by decide,by decide⟩,.inl ⟨by decide,by decide⟩,.inl ⟨by decide,by decide⟩⟩
theorem Af(i:Int):jj 5 i:=(Cm i).1
theorem Ae(i:Int):jj 3 i:=(Cm i).2.1
theorem Ad(i:Int):jj 7 i:=(Cm i).2.2.1
theorem Ac(i:Int):jj 10 i:=(Cm i).2.2.2
theorem z8:Tq 10 18:=⟨by decide,by decide,by decide⟩
def M'(t u:TS):TS:=λD σ H=>∃N:St->Hp->Prop,t { D with nx:=N } σ H/\∀σ' H',N σ' H'->u D σ' H'
theorem Ke{X:Cx}{st:Stmt}{rest:List Stmt}{t u:TS}(h1:PS X st t)(h2:o9 X rest u):o9 X (st::rest) (M' t u):=by
 intro pins s σ H D I ⟨N,hn,hu⟩
 refine wpAny_execs_cons (cp (h1 pins s σ H { D with nx:=N } I hn) λf s1 q=>?_)
 cases f with
 | next=>
  refine hide λgG hG=>?_
  obtain⟨σ',H',I',q⟩:=q
  refine hG ?_
  exact h2 pins s1 σ' H' D I' (hu σ' H' q)
 | ret v=>exact q
 | brk=>exact q
 | cont=>exact q
theorem Je{ns:List Int}{k:Int}(h0:0<=k)(h:k<(ns.length:Int)):∃v:Int,rG (ns.map V.int) k=some (.int v):=by
 have hk:k.toNat<ns.length:=by lia
 have ek:k=((k.toNat:Nat):Int):=by lia
 have q:rG (ns.map V.int) ((k.toNat:Nat):Int)=some (.int ns[k.toNat]):=fu (by rw[fB,eI hk] <;> rfl)
 rw[<-ek]at q
 exact⟨_,q⟩
section
variable {X:Cx}
theorem kZ.imp{f:Value->Value->Sem Value}{r r':R2}(h:kZ X f r)(i:∀x y H Q,r' x y H Q->r x y H Q):kZ X f r':=λpins s σ H x y v u Q I rx ry q=>h pins s σ H x y v u Q I rx ry (i _ _ _ _ q)
theorem Ls.imp{r r':R2}(h:Ls X r)(i:∀x y H Q,r' x y H Q->r x y H Q):Ls X r':=λvalue slice pins s σ H x y v u Q I rx ry q hs=>h value slice pins s σ H x y v u Q I rx ry (i _ _ _ _ q) hs
theorem cD.imp{f:Value}{r r':List V->Hp->VK->Prop}(h:cD X f r)(i:∀x H Q,r' x H Q->r x H Q):cD X f r':=λpins s σ H vs us Q I rv q=>h pins s σ H vs us Q I rv (i _ _ _ q)
theorem JD.imp{r r':V->Option Int->Option Int->Hp->VK->Prop}(h:JD X r)(i:∀x lo hi H Q,r' x lo hi H Q->r x lo hi H Q):JD X r':=λpins s σ H x v vl vu lo hi sl Q I rx hs pl pu q=>h pins s σ H x v vl vu lo hi sl Q I rx hs pl pu (i _ _ _ _ _ q)
theorem dk{K:PySem.W.Frag}{H:Hp}{a:Addr}{xs:List V}(h:H a=some (.lst xs)):lU K H a xs:=lU.of h
theorem bG{K:PySem.W.Frag}{H:Hp}{a:Addr}{xs:List V}(h:H a=some (.tup xs)):si K H a xs:=si.of h
def GJ:R2:=λx y H Q=>∃p i,x=.ref p/\y=.int i/\∃xs,H p=some (.lst xs)/\∃v,rG xs i=some v/\Q v H
theorem gq:Ls X GJ:=KH.imp λx y H Q ⟨p,i,e1,e2,xs,h,v,e3,q⟩=>⟨p,xs,i,v,e1,e2,dk h,e3,q⟩
def J9:R2:=λx y H Q=>∃p i,x=.ref p/\y=.int i/\∃xs,H p=some (.tup xs)/\∃v,rG xs i=some v/\Q v H
theorem oK:Ls X J9:=Ow.imp λx y H Q ⟨p,i,e1,e2,xs,h,v,e3,q⟩=>⟨p,xs,i,v,e1,e2,bG h,e3,q⟩
def Nt:R2:=λx y H Q=>∃z i,x=.str z/\y=.int i/\z.length<=sizeLine/\∃c,rG z.cps.toList i=some c/\Q (.str ⟨#[c]⟩) H
def J7:V->Option Int->Option Int->Hp->VK->Prop:=λx lo hi H Q=>∃a,x=.ref a/\∃xs,H a=some (.lst xs)/\∀p,H p=none->Q (.ref p) (upd H p (.lst (gF xs lo hi)))
theorem Uy:JD X J7:=Bh.imp λx lo hi H Q ⟨a,e,xs,h,q⟩=>⟨a,xs,e,dk h,q⟩
def J6:V->Option Int->Option Int->Hp->VK->Prop:=λx lo hi H Q=>∃a,x=.ref a/\∃xs,H a=some (.tup xs)/\¬(HT.cy xs.length 0 lo=0/\HT.cy xs.length xs.length hi=xs.length)/\∀p,H p=none->Q (.ref p) (upd H p (.tup (gF xs lo hi)))
theorem Ux:JD X J6:=Nk.imp λx lo hi H Q ⟨a,e,xs,h,n,q⟩=>⟨a,xs,e,bG h,n,q⟩
def Bp:List V->Hp->VK->Prop:=λvs H Q=>∃p,vs=[.ref p]/\∃xs,H p=some (.lst xs)/\Q (.int xs.length) H
theorem Eo:cD X (.builtin "len") Bp:=mU.imp λx H Q ⟨p,e,xs,h,q⟩=>⟨p,xs,e,.inl (dk h),q⟩
def Bo:List V->Hp->VK->Prop:=λvs H Q=>∃p,vs=[.ref p]/\∃xs,H p=some (.tup xs)/\Q (.int xs.length) H
theorem kj:cD X (.builtin "len") Bo:=mU.imp λx H Q ⟨p,e,xs,h,q⟩=>⟨p,xs,e,.inr (bG h),q⟩
def vg:List V->Hp->VK->Prop:=λvs H Q=>∃p,vs=[.ref p]/\∃xs,H p=some (.lst xs)/\∀l,H l=none->Q (.ref l) (upd H l (.lst xs))
theorem Ah:cD X (.type "list") vg:=vK.imp λx H Q ⟨p,e,xs,h,q⟩=>⟨p,xs,e,.inl (dk h),q⟩
def zf:List V->Hp->VK->Prop:=λvs H Q=>∃p,vs=[.ref p]/\∃xs,H p=some (.tup xs)/\∀l,H l=none->Q (.ref l) (upd H l (.lst xs))
def oY:List V->Hp->VK->Prop:=λvs H Q=>∃p,vs=[.ref p]/\∃xs,H p=some (.lst xs)/\∀l,H l=none->Q (.ref l) (upd H l (.tup xs))
theorem fF:cD X (.type "tuple") oY:=sf.imp λx H Q ⟨p,e,xs,h,q⟩=>⟨p,xs,e,.inl ⟨dk h,q⟩⟩
def zg:List V->Hp->VK->Prop:=λvs H Q=>∃a,vs=[.ref a]/\∃aJ,H a=some (.dK aJ)/\∀p,H p=none->Q (.ref p) (upd H p (.lst (aJ.map λkv=>kV kv.1)))
def zh:List V->Hp->VK->Prop:=λvs H Q=>∃a,vs=[.ref a]/\∃aJ,H a=some (.dK aJ)/\∀p,H p=none->Q (.ref p) (upd H p (.dK aJ))
def vd:List V->Hp->VK->Prop:=λvs H Q=>∃a,vs=[.ref a]/\∃ss:List Str,H a=some (.lst (ss.map V.str))/\ss.length<64/\
 ∀ss':List Str,ss'.Perm ss->sortedS ss'=true->∀p,H p=none->Q (.ref p) (upd H p (.lst (ss'.map V.str)))
def GF:V->List V->Hp->VK->Prop:=λx vs H Q=>∃sep a,x=.str sep/\vs=[.ref a]/\∃ss:List Str,H a=some (.lst (ss.map V.str))/\JoinOk sep ss=true/\Q (.str (Txt.join sep ss)) H
def Nw(neg:Bool):R2:=λx y H Q=>∃p,y=.ref p/\∃xs,H p=some (.lst xs)/\gu x=true/\xs.all gu=true/\Q (.bl (if neg then !Mh x xs else Mh x xs)) H
def GL(neg:Bool):R2:=λx y H Q=>∃p,y=.ref p/\∃xs,H p=some (.tup xs)/\gu x=true/\xs.all gu=true/\Q (.bl (if neg then !Mh x xs else Mh x xs)) H
theorem Ob:kZ X (compareOp .In) (GL false):=DG.imp λx y H Q ⟨p,e,xs,h,f1,f2,q⟩=>⟨p,xs,e,.inr (bG h),f1,f2,q⟩
theorem Dz:kZ X (compareOp .NotIn) (GL true):=vo.imp λx y H Q ⟨p,e,xs,h,f1,f2,q⟩=>⟨p,xs,e,.inr (bG h),f1,f2,q⟩
def Ny(neg:Bool):R2:=λx y H Q=>∃a b,x=.ref a/\y=.ref b/\∃xs,H a=some (.lst xs)/\∃ys,H b=some (.lst ys)/\xs.all gu=true/\ys.all gu=true/\Q (.bl (if neg then !Ss xs ys else Ss xs ys)) H
def J'(K:PySem.W.Frag):List V->Hp->VK->Prop:=λvs H Q=>∃x n,vs=[x,.ty n]/\∃t,mX K H x t/\∃b,PySem.W.kitOne K t (.type n)=some b/\Q (.bl b) H
theorem nF:cD X (.builtin "isinstance") (J' X.K):=(IW .none).imp λx H Q ⟨y,n,e,t,ty,b,h,q⟩=>⟨y,t,b,n,e,ty,h,q⟩
def J8:V->V->V->Hp->(Hp->Prop)->Prop:=λo i v H Q=>∃p k,o=.ref p/\i=.int k/\∃xs,H p=some (.lst xs)/\∃j,Ea xs.length k=some j/\Q (upd H p (.lst (xs.set j v)))
theorem mK:Ew X J8:=λpins s σ H o i v ov iv u Q I ro ri rv ⟨p,k,e1,e2,xs,h,j,hj,q⟩=>set_list pins s σ H o i v ov iv u Q I ro ri rv ⟨p,xs,k,j,e1,e2,h,hj,q⟩
theorem MJ:P7 X (λo i H Q=>GJ o i H Q):=by
 intro pins s σ H o i ov iv Q I ro ri h
 refine hide λgG hG=>?_
 obtain⟨p,i,rfl,rfl,xs,hp,z,he,q⟩:=h
 refine hG ?_
 cases ro
 refine hide λgG hG=>?_
 obtain⟨t,rfl⟩:=ri
 obtain⟨its,r,pl,hz⟩:=I.list (dk hp)
 obtain⟨j,h1,h2,h3,h4,h5⟩:=vP he
 obtain⟨w,ew,Gp⟩:=r.get h2
 refine hG ?_
 have hl:=r.length
 have hn:=qF
 have fin:EP X pins σ Q w s:=⟨z,H,I,Gp,q⟩
 by_cases h0:0<=i
 ·have hj:i.toNat=j:=by
   rw[seqIndex_of h0 h5]at h1
   exact dB h1
  exact wpAny_getItem_list pl.isList h0 (by lia) (by rw[hj];simpa using ew) fin
 ·have hj:(i+(its.toArray.size:Int)).toNat=j:=by
   rw[seqIndex_neg (by lia) h4]at h1
   rw[dE,<-hl]
   exact dB h1
  exact wpAny_getItem_list_neg pl.isList (by lia) (by rw[dE] <;> lia) (by lia) (by rw[hj];simpa using ew) fin
end
end L2
namespace L2
open PySem PySem.Spec PyProof.Rows
theorem Oe{α:Type}{C:List α->Prop}(h:∀a,C [a]):∀us:List α,us.length=1->C us
 | [a],_=>h a
theorem of2{α:Type}{C:List α->Prop}(h:∀a b,C [a,b]):∀us:List α,us.length=2->C us
 | [a,b],_=>h a b
theorem Y9{α:Type}{C:List α->Prop}(h:∀a b c,C [a,b,c]):∀us:List α,us.length=3->C us
 | [a,b,c],_=>h a b c
theorem of4{α:Type}{C:List α->Prop}(h:∀a b c d,C [a,b,c,d]):∀us:List α,us.length=4->C us
 | [a,b,c,d],_=>h a b c d
structure HC(X:Cx)(N:List Str)(sc:Scope):Prop where
 n:X.N=N
 s:X.env.scope=sc
def Vu(N:List Str)(sc:Scope)(i:Nat)(x:Str):Bool:=
 N[i]? == some x&&(sc.names.lookup x==some .local||sc.names.lookup x==some .cell||sc.names.lookup x==some .free) && !(x==("__debug__" : Str)) && !(x==("__classdict__" : Str))
def Jq(N:List Str)(sc:Scope)(i:Nat)(x:Str):Bool:=N[i]? == some x&&(sc.names.lookup x==some .local||sc.names.lookup x==some .cell)
def zt(N:List Str)(sc:Scope)(i:Nat)(x:Str):Bool:=N[i]? == some x&&sc.names.lookup x==some .local
def Y7(sc:Scope)(x:Str):Bool:=sc.names.lookup x==some .globalImplicit
section
variable {X:Cx}{N:List Str}{sc:Scope}{x:Str}{pos:Pos}
theorem pvk(hc:HC X N sc)(i:Nat)(h:Vu N sc i x=true):PE X (.Name x pos) (yW i):=by
 unfold Vu at h
 simp only[eJ,Bool.or_eq_true,beq_iff_eq,Bool.not_eq_true']at h
 obtain⟨⟨⟨h1,h2⟩,h3⟩,h4⟩:=h
 refine G7 (by rw[hc.n];exact h1) ?_ h3 h4
 unfold Qz
 rw[hc.s]
 rcases h2 with (h2 | h2) | h2
 ·exact .inl h2
 ·exact .inr (.inl h2)
 ·exact .inr (.inr h2)
theorem bS(hc:HC X N sc)(h:Y7 sc x=true:=by decide +kernel):Gl X x:=by
 show X.env.scope.names.lookup x=some .globalImplicit
 rw[hc.s];simpa [Y7]using h
theorem iI(hc:HC X N sc){i:Nat}(h:Jq N sc i x=true):X.N[i]?=some x/\Loc X.env.scope x:=by
 unfold Jq at h
 simp only[eJ,Bool.or_eq_true,beq_iff_eq]at h
 refine⟨by rw[hc.n];exact h.1,?_⟩
 unfold Loc;rw[hc.s];exact h.2
theorem gj(hc:HC X N sc){i:Nat}(h:zt N sc i x=true):X.N[i]?=some x/\X.env.scope.names.lookup x=some .local:=by
 unfold zt at h
 simp only[eJ,beq_iff_eq]at h
 exact⟨by rw[hc.n];exact h.1,by rw[hc.s];exact h.2⟩
theorem pgk(hc:HC X N sc)(nd:N.Nodup)(hf:∀x,X.fn x=true)(i:Nat)(h:Jq N sc i x=true):PG X (.Name x pos) (cP i):=
 Bz (by rw[hc.n];exact nd) (iI hc h).1 (iI hc h).2 (.inl (hf x))
theorem pgb(hc:HC X N sc)(nd:N.Nodup)(i:Nat)(h:zt N sc i x=true):PG X (.Name x pos) (cP i):=
 Bz (by rw[hc.n];exact nd) (gj hc h).1 (.inl (gj hc h).2) (.inr (gj hc h).2)
theorem Bt{e:Expr}{te:TE}{pos':Pos}(hc:HC X N sc)(nd:N.Nodup)(hf:∀x,X.fn x=true)(i:Nat)(h:Jq N sc i x=true)(he:PE X e te)(hs:swapsWith e (some (.Name x pos')) pos.line X.env=pure false:=by rfl) :
  PS X (.Assign [.Name x pos'] e pos) (qp te (cP i)):=
 NP (by rw[hc.n];exact nd) (iI hc h).1 (iI hc h).2 he hs (.inl (hf x))
theorem Kf{e:Expr}{te:TE}{op:Operator}{ti:Lq}{pos':Pos}(hc:HC X N sc)(nd:N.Nodup)(hf:∀x,X.fn x=true)(i:Nat)(h:Jq N sc i x=true)(he:PE X e te)(ho:P6 X op ti):PS X (.AugAssign (.Name x pos') op e pos) (JM i te ti):=
 NX (by rw[hc.n];exact nd) (iI hc h).1 (iI hc h).2 he ho (.inl (hf x))
end
def bL(scope fZ:Scope):Scope:=
 { scope with names:=scope.names.map λ(n,k)=>if (k == .free&&fZ.kind == .function&&fZ.names.lookup n==some .cell) then (n,.cell) else (n,k) }
theorem wM{scope fZ:Scope}{env:Env}(h:env.scope=fZ):relabel scope env=bL scope fZ:=by
 subst h;rfl
theorem eQ{X:Cx}{N:List Str}{fZ scope:Scope}{xs:List Str}{idx:List Nat}(hc:HC X N fZ)(c:CB):HC (ft X scope (xs++aW X.N idx) c) (xs++aW N idx) (bL scope fZ):=
 ⟨by show xs++aW X.N idx=_;rw[hc.n],wM hc.s⟩
section
variable {X:Cx}{N:List Str}{fZ:Scope}{elt target iter:Expr}{ifs:List Expr}{scope:Scope}{pos spos py:Pos}{xs:List Str}{idx:List Nat}{wi:TI}{g:CB->TG}{tt:CB->TT}{te:CB->TE}
theorem wW(hc:HC X N fZ)(xs:List Str)(idx:List Nat)(HX:X.calm=true)(S:z7 fZ N scope idx=true)(hi:PI X target iter wi)
  (hg:∀c,HC (ft X scope (xs++aW X.N idx) c) (xs++aW N idx) (bL scope fZ)->PG (ft X scope (xs++aW X.N idx) c) target (g c))
  (ht:∀c,HC (ft X scope (xs++aW X.N idx) c) (xs++aW N idx) (bL scope fZ)->oR (ft X scope (xs++aW X.N idx) c) ifs (tt c))
  (he:∀c,HC (ft X scope (xs++aW X.N idx) c) (xs++aW N idx) (bL scope fZ)->PE (ft X scope (xs++aW X.N idx) c) elt (te c))
  (hs:∀x,foldedSetIterable iter X.env x=pure x:=by intro _;rfl):PE X (.ListComp elt [⟨target,iter,ifs,0⟩] scope pos) (mE wi xs.length idx g tt te):=
 Ks HX (nE S hc.s hc.n) hi (λc=>hg c (eQ hc c)) (λc=>ht c (eQ hc c)) (λc=>he c (eQ hc c)) hs
theorem wU{y:Str}(hc:HC X N fZ)(nd:N.Nodup)(i:Nat)(h:zt N fZ i y=true)(xs:List Str)(idx:List Nat)(HX:X.calm=true)(S:z7 fZ N scope idx=true)(hi:PI X target iter wi)
  (hg:∀c,HC (ft X scope (xs++aW X.N idx) c) (xs++aW N idx) (bL scope fZ)->PG (ft X scope (xs++aW X.N idx) c) target (g c))
  (ht:∀c,HC (ft X scope (xs++aW X.N idx) c) (xs++aW N idx) (bL scope fZ)->oR (ft X scope (xs++aW X.N idx) c) ifs (tt c))
  (he:∀c,HC (ft X scope (xs++aW X.N idx) c) (xs++aW N idx) (bL scope fZ)->PE (ft X scope (xs++aW X.N idx) c) elt (te c))
  (Ww:swapsWith (.ListComp elt [⟨target,iter,ifs,0⟩] scope pos) (some (.Name y py)) spos.line X.env=pure true)
  (hs:∀x,foldedSetIterable iter X.env x=pure x:=by intro _;rfl):PS X (.Assign [.Name y py] (.ListComp elt [⟨target,iter,ifs,0⟩] scope pos) spos) (qp (mE wi xs.length idx g tt te) (cP i)):=
 Kh (by rw[hc.n];exact nd) (gj hc h).1 (gj hc h).2 HX (nE S hc.s hc.n) hi (λc=>hg c (eQ hc c)) (λc=>ht c (eQ hc c)) (λc=>he c (eQ hc c)) Ww hs
end
end L2
namespace L2
open PySem PySem.Spec PyProof.Rows
@[irreducible] def sj (X:Cx) (st:List Stmt) (t:TS):Prop:=o9 X st t
theorem sj.to{X:Cx}{st:List Stmt}{t:TS}(h:sj X st t):o9 X st t:=by unfold sj at h;exact h
theorem sj.of{X:Cx}{st:List Stmt}{t:TS}(h:o9 X st t):sj X st t:=by unfold sj;exact h
section
variable {X:Cx}{st:Stmt}{rest:List Stmt}{t u:TS}{pos:Pos}
theorem J4:sj X [] tD:=.of Kd
theorem J3(h1:PS X st t):sj X [st] t:=.of (Kc h1)
theorem Gw(h1:PS X st t)(h2:sj X rest u):sj X (st::rest) (tSeq t u):=.of (GX h1 h2.to)
theorem J5(h1:PS X st t)(h2:sj X rest u):sj X (st::rest) (M' t u):=.of (Ke h1 h2.to)
theorem Rc{c:Expr}{a b:List Stmt}{tc:TT}(hc:PT X c tc)(ha:sj X a t)(hb:sj X b u):PS X (.If c a b pos) (Dh tc t u):=Rh hc ha.to hb.to
theorem Gx{c:Expr}{body:List Stmt}{tc:TT}{tb:TS}(hp:PassesOwn (model X.prog X.w) X.A X.env X.xe)(hc:PT X c tc)(hb:sj X body tb):PS X (.While c body [] pos) (yV tc tb):=G0 hp hc hb.to
theorem Gy{tg iter:Expr}{body:List Stmt}{wi:TI}{g:TG}{tb:TS}(hp:PassesOwn (model X.prog X.w) X.A X.env X.xe)(hc:X.calm=true)(hi:PI X tg iter wi)(hg:PG X tg g)(hb:sj X body tb)
  (hs:∀x,foldedSetIterable iter X.env x=pure x:=by intro _;rfl):PS X (.For tg iter body [] pos) (JL wi g tb):=NR hp hc hi hg hb.to hs
end
theorem ji.okK{P:Program}{w:World}{K:PySem.W.Frag}{mg:Str->Option Value}{base:Heap}{x qual:Str}{st:Stmt}{f:Addr}{fd:FuncData}{N ps:List Str}{k:Nat}{sp:Sp}(F:ji K x qual st f fd)(S:aL N ps (ag st))(len:∀vs H Q E,sp vs H Q E->vs.length=ps.length)
  (dm:∀(bE:Value) (A:Around) (outer:List Env) (s:Shared) (H:Hp) (vs:List V) (Q:VK) (E:XK),cB k (A.deeper (envOfC qual (ag st) s.heap.objs.size f bE))->sp vs H Q E->
   HC (cM eB P w K mg base N qual (ag st) f bE A outer s H E).zu N (ag st)->(∀x,(cM eB P w K mg base N qual (ag st) f bE A outer s H E).zu.fn x=true)->
   ∃t,sj (cM eB P w K mg base N qual (ag st) f bE A outer s H E).zu (aI st) t/\t { nx:=λ_ H'=>Q .non H',rt:=Q } (start N vs) H):cw P w K mg base eB (k+1) f fd ps sp:=
 F.ok S len λbE A outer s H vs Q E hr h=>let ⟨t,h1,h2⟩:=dm bE A outer s H vs Q E hr h ⟨rfl,rfl⟩ λ_=>rfl;⟨t,h1.to,h2⟩
end L2
namespace L2
open PySem PySem.Spec PyProof.Rows
def vV(J:It)(g:TG)(tb:TS)(D:Ends)(σ:St)(H:Hp):Prop:=∃W:Nat->Nat->St->Hp->Prop,(∃m,W 0 m σ H)/\∀i m σ H,W i m σ H->
 (J.stop i H/\D.nx σ H)\/(J.go i H/\∃N:St->Hp->Prop,(∀σ' H',N σ' H'->∃m',m'<m/\W (i+1) m' σ' H')/\∀x H',J.yP i H x H'->g x σ H' λσ2 H2=>tb { D with nx:=N,ct:=N,bk:=D.nx } σ2 H2)
theorem uS{wi:TI}{g:TG}{tb:TS}{D:Ends}{σ:St}{H:Hp}:JL wi g tb D σ H=wi σ H (λJ H1=>vV J g tb D σ H1):=rfl
def gP(J:It)(k:Nat)(idx:List Nat)(g:CB->TG)(tt:CB->TT)(te:CB->TE)(σ:St)(Q:VK)(H1:Hp):Prop:=∀D,H1 D=none->∃W:Nat->Nat->List V->Hp->Prop,(∃m,W 0 m [] (upd H1 D (.lst [])))/\
 ∀i m ys H',W i m ys H'->(J.stop i H'/\Q (.ref D) H')\/(J.go i H'/\∃N:List V->Hp->Prop,(∀j5 lV,N j5 lV->∃m',m'<m/\W (i+1) m' j5 lV)/\∀(c:CB) (own:St),own.length=k->∀x H2,J.yP i H' x H2->g c x (own++bz σ idx) H2 λσ3 H3=>
  (∃cY,cY.length=k/\σ3=cY++bz σ idx)/\tt c σ3 H3 λb H4=>if b=true then te c σ3 H4 λy H5=>H5 D=some (.lst ys)/\ys.length<sizeLine/\N (ys++[y]) (upd H5 D (.lst (ys++[y]))) else N ys H4)
theorem qo{wi:TI}{k:Nat}{idx:List Nat}{g:CB->TG}{tt:CB->TT}{te:CB->TE}{σ:St}{H:Hp}{Q:VK}:mE wi k idx g tt te σ H Q=wi σ H (λJ H1=>gP J k idx g tt te σ Q H1):=rfl
theorem zZ{lo:Int}{n:Nat}{g:TG}{tb:TS}{D:Ends}{σ:St}{H:Hp}(Pv:Nat->St->Hp->Prop)(h0:Pv 0 σ H)
  (hs:∀i σ H,i<n->Pv i σ H->g (.int (lo+i)) σ H λσ2 H2=>tb { D with nx:=Pv (i+1),ct:=Pv (i+1),bk:=D.nx } σ2 H2) (hd:∀σ H,Pv n σ H->D.nx σ H):vV (yk lo n) g tb D σ H:=Ef Pv h0 hs hd
theorem xV{K:PySem.W.Frag}{a:Addr}{xs:List V}{g:TG}{tb:TS}{D:Ends}{σ:St}{H:Hp}(Pv:Nat->St->Hp->Prop)(h0:Pv 0 σ H)(hl:∀i σ H,i<=xs.length->Pv i σ H->H a=some (.lst xs))
  (hs:∀i x σ H,xs[i]?=some x->Pv i σ H->g x σ H λσ2 H2=>tb { D with nx:=Pv (i+1),ct:=Pv (i+1),bk:=D.nx } σ2 H2) (hd:∀σ H,Pv xs.length σ H->D.nx σ H):vV (Am K a) g tb D σ H:=
 Ih Pv h0 (λi σ H hi p=>dk (hl i σ H hi p)) hs hd
theorem lI{K:PySem.W.Frag}{a:Addr}{xs:List V}{g:TG}{tb:TS}{D:Ends}{σ:St}{H:Hp}(Pv:Nat->St->Hp->Prop)(h0:Pv 0 σ H)(hl:∀i σ H,i<=xs.length->Pv i σ H->H a=some (.tup xs))
  (hs:∀i x σ H,xs[i]?=some x->Pv i σ H->g x σ H λσ2 H2=>tb { D with nx:=Pv (i+1),ct:=Pv (i+1),bk:=D.nx } σ2 H2) (hd:∀σ H,Pv xs.length σ H->D.nx σ H):vV (JF K a) g tb D σ H:=
 K9 Pv h0 (λi σ H hi p=>bG (hl i σ H hi p)) hs hd
theorem oz{lo:Int}{n:Nat}{idx:List Nat}{tt:CB->TT}{te:CB->TE}{σ:St}{Q:VK}{H1:Hp}(Pv:Addr->Nat->List V->Hp->Prop)(h0:∀D,H1 D=none->Pv D 0 [] (upd H1 D (.lst [])))
  (hs:∀D,H1 D=none->∀i ys H,i<n->Pv D i ys H->∀(c:CB),tt c (some (.int (lo+i))::bz σ idx) H λb H4=>if b=true then te c (some (.int (lo+i))::bz σ idx) H4 λy H5=>H5 D=some (.lst ys)/\ys.length<sizeLine/\Pv D (i+1) (ys++[y]) (upd H5 D (.lst (ys++[y]))) else Pv D (i+1) ys H4)
  (hd:∀D,H1 D=none->∀ys H,Pv D n ys H->Q (.ref D) H):gP (yk lo n) 1 idx (λ_=>cP 0) tt te σ Q H1:=
 λD hD=>x8 (Pv D) (h0 D hD) (hs D hD) (hd D hD)
theorem vI{K:PySem.W.Frag}{a:Addr}{zs:List V}{idx:List Nat}{tt:CB->TT}{te:CB->TE}{σ:St}{Q:VK}{H1:Hp}(Pv:Addr->Nat->List V->Hp->Prop)(h0:∀D,H1 D=none->Pv D 0 [] (upd H1 D (.lst [])))
  (hl:∀D,H1 D=none->∀i ys H,i<=zs.length->Pv D i ys H->H a=some (.lst zs))
  (hs:∀D,H1 D=none->∀i x ys H,zs[i]?=some x->Pv D i ys H->∀(c:CB),tt c (some x::bz σ idx) H λb H4=>if b=true then te c (some x::bz σ idx) H4 λy H5=>H5 D=some (.lst ys)/\ys.length<sizeLine/\Pv D (i+1) (ys++[y]) (upd H5 D (.lst (ys++[y]))) else Pv D (i+1) ys H4)
  (hd:∀D,H1 D=none->∀ys H,Pv D zs.length ys H->Q (.ref D) H):gP (Am K a) 1 idx (λ_=>cP 0) tt te σ Q H1:=
 λD hD=>Aa (Pv D) (h0 D hD) (λi ys H hi p=>dk (hl D hD i ys H hi p)) (hs D hD) (hd D hD)
end L2
namespace L2
open PySem PySem.Spec PyProof.Rows
def yX(ss:List Str):TA:=λ_ H Q=>Q (List.map V.str ss) H
structure ZE(X:Cx)(e:Expr)(t:TE):Prop where
 to:PE X e t
structure ZT(X:Cx)(e:Expr)(t:TT):Prop where
 to:PT X e t
structure ZW(X:Cx)(e:Expr)(t:TT):Prop where
 to:PW X e t
structure ZA(X:Cx)(e:List Expr)(t:TA):Prop where
 to:PA X e t
structure ZS(X:Cx)(e:Stmt)(t:TS):Prop where
 to:PS X e t
structure uh(X:Cx)(e:List Stmt)(t:TS):Prop where
 to:o9 X e t
structure ZG(X:Cx)(e:Expr)(t:TG):Prop where
 to:PG X e t
structure Jj(X:Cx)(e:List Expr)(t:TT):Prop where
 to:oR X e t
structure ZO(X:Cx)(e:Option Expr)(t:TO):Prop where
 to:PO X e t
structure ZI(X:Cx)(tg iter:Expr)(t:TI):Prop where
 to:PI X tg iter t
theorem jw{X:Cx}{b:Bool}{j:Nat}{pos:Pos}:ZE X (Expr.Constant (Const.bool b) j pos) (tC (V.bl b)):=⟨Rl⟩
theorem ah{X:Cx}{i:Int}{j:Nat}{pos:Pos}:ZE X (Expr.Constant (Const.int i) j pos) (tC (V.int i)):=⟨N6⟩
theorem Av{X:Cx}{x:Str}{j:Nat}{pos:Pos}:ZE X (Expr.Constant (Const.str x) j pos) (tC (V.str x)):=⟨N1⟩
theorem Aw{X:Cx}{j:Nat}{pos:Pos}:ZE X (Expr.Constant Const.none j pos) (tC V.non):=⟨N4⟩
theorem ao{X:Cx}{N:List Str}{sc:Scope}{x:Str}{pos:Pos}(h1:HC X N sc)(i:Nat)(h2:Vu N sc i x=true:=by decide +kernel):ZE X (Expr.Name x pos) (yW i):=⟨pvk h1 i h2⟩
theorem jv{X:Cx}{x:Str}{v:V}{u:Value}{pos:Pos}(h1:Gl X x)(h2:Cx.mg X x=none)(h3:bootBuiltins x=some u)(h4:RelV v u)(h5:autoParam (x≠Str.ofString "__name__") vk._auto_1)(h6:autoParam ((x==Str.ofString "__debug__")=false) vk._auto_2):ZE X (Expr.Name x pos) (tC v):=⟨vk h1 h2 h3 h4 h5 h6⟩
theorem fk{X:Cx}{es:List Expr}{t:TA}{pos:Pos}(h1:ZA X es t):ZE X (Expr.List es pos) (FP t):=⟨N5 h1.to⟩
theorem iB{X:Cx}{es:List Expr}{t:TA}{pos:Pos}{x1:Nat}(h1:ZA X es t):ZE X (Expr.Tuple es x1 pos) (Fw t):=⟨N0 h1.to⟩
theorem CZ{X:Cx}{pos:Pos}:ZE X (Expr.Dict [] [] pos) qm:=⟨G9⟩
theorem aS{X:Cx}{a b:Expr}{ta tb:TE}{pos:Pos}{op:Operator}{r:R2}(h1:kZ X (binaryOp op) r)(h2:ZE X a ta)(h3:ZE X b tb):ZE X (Expr.BinOp a op b pos) (FJ r ta tb):=⟨Rj h1 h2.to h3.to⟩
theorem uJ{X:Cx}{a:Expr}{ta:TE}{pos:Pos}(h1:ZE X a ta):ZE X (Expr.UnaryOp UnaryOp.Not a pos) (wD ta):=⟨N3 h1.to⟩
theorem hV{X:Cx}{a b:Expr}{ta tb:TE}{pos:Pos}{op:CmpOp}{r:R2}(h1:kZ X (compareOp op) r)(h2:ZE X a ta)(h3:ZE X b tb)(h4:behindInMarks op b=false):ZE X (Expr.Compare a [op] [b] pos) (FJ r ta tb):=⟨Kt h1 h2.to h3.to h4⟩
theorem uI{X:Cx}{a:Expr}{pos:Pos}{op:BoolOp}{t:TE}(h1:ZE X a t):ZE X (Expr.BoolOp op [a] pos) t:=⟨N2 h1.to⟩
theorem iC{X:Cx}{a b:Expr}{ta tb:TE}{pos:Pos}{rest:List Expr}(h1:ZE X a ta)(h2:ZE X (Expr.BoolOp BoolOp.And (b::rest) pos) tb):ZE X (Expr.BoolOp BoolOp.And (a::b::rest) pos) (wI ta tb):=⟨N7 h1.to h2.to⟩
theorem wd{X:Cx}:ZO X none mD:=⟨Kl⟩
theorem mq{X:Cx}{e:Expr}{te:TE}(h1:ZE X e te):ZO X (some e) (wC te):=⟨Kk h1.to⟩
theorem m9{X:Cx}{e:Expr}{te:TE}{lo hi:Option Expr}{tl th:TO}{pos p2:Pos}{r:V->Option Int->Option Int->Hp->VK->Prop}(h1:JD X r)(h2:ZE X e te)(h3:ZO X lo tl)(h4:ZO X hi th):ZE X (Expr.Subscript e (Expr.Slice lo hi none p2) pos) (QM r te tl th):=⟨G8 h1 h2.to h3.to h4.to⟩
theorem wj{X:Cx}{o i:Expr}{pos:Pos}{td ty:TE}(h1:Around.units (Cx.A X)+1<cLine)(h2:ZE X o td)(h3:ZE X i ty)(h4:P9 i):ZE X (Expr.Subscript o i pos) (Be td ty):=⟨Kr h1 h2.to h3.to h4⟩
theorem aX{X:Cx}{a b:Expr}{ta tb:TE}{pos:Pos}{r:R2}(h1:Ls X r)(h2:ZE X a ta)(h3:ZE X b tb)(h4:CN b):ZE X (Expr.Subscript a b pos) (FJ r ta tb):=⟨Rk h1 h2.to h3.to h4⟩
theorem dU{X : Cx}{N : List Str}{fZ : Scope}{elt target iter : Expr}{ifs : List Expr}{scope : Scope}{pos : Pos}{wi : TI}{g : CB → TG}{tt : CB → TT}{te : CB → TE}(h1 : HC X N fZ)(xs : List Str)(idx : List Nat)(h2 : Cx.calm X=true)(h3 : z7 fZ N scope idx=true)(h4 : ZI X target iter wi)(h5 : (∀ (c : CB),
                HC (ft X scope (xs++aW (Cx.N X) idx) c) (xs++aW N idx) (bL scope fZ) →
                  ZG (ft X scope (xs++aW (Cx.N X) idx) c) target (g c))) (h6 : (∀ (c : CB),
                  HC (ft X scope (xs++aW (Cx.N X) idx) c) (xs++aW N idx) (bL scope fZ) →
                    Jj (ft X scope (xs++aW (Cx.N X) idx) c) ifs (tt c))) (h7 : (∀ (c : CB),
                    HC (ft X scope (xs++aW (Cx.N X) idx) c) (xs++aW N idx) (bL scope fZ) →
                      ZE (ft X scope (xs++aW (Cx.N X) idx) c) elt (te c))) (h8 : autoParam (∀ (x : Value), foldedSetIterable iter (Cx.env X) x=pure x) wW._auto_1) : ZE X (Expr.ListComp elt [{ target := target, iter := iter, ifs := ifs, is_async := 0 }] scope pos)
                      (mE wi (List.length xs) idx g tt te) := ⟨wW h1 xs idx h2 h3 h4.to (λc z => (h5 c z).to) (λc z => (h6 c z).to) (λc z => (h7 c z).to) h8⟩
theorem ai{X:Cx}:ZA X [] FN:=⟨He⟩
theorem ae{X:Cx}{e:Expr}{es:List Expr}{te:TE}{t:TA}(h1:ZE X e te)(h2:ZA X es t)(h3:autoParam (starEach (e::es) (Cx.env X)=(false,eval e (Cx.env X))::starEach es (Cx.env X)) vm._auto_1):ZA X (e::es) (wG te t):=⟨vm h1.to h2.to h3⟩
theorem pQ{X:Cx}{N:List Str}{sc:Scope}{x:Str}{pos:Pos}(h1:HC X N sc)(h2:List.Nodup N)(i:Nat)(h3:zt N sc i x=true):ZG X (Expr.Name x pos) (cP i):=⟨pgb h1 h2 i h3⟩
theorem dS{X:Cx}:Jj X [] Fv:=⟨G4⟩
theorem m8{X:Cx}{e:Expr}{t:TT}(h1:ZT X e t):Jj X [e] t:=⟨G3 h1.to⟩
theorem pO{X:Cx}{tg a:Expr}{ta:TA}{p pos:Pos}(h1:Gl X (Str.ofString "range"))(h2:Cx.mg X (Str.ofString "range")=none)(h3:ZA X [a] ta)(h4:autoParam (starEach [a] (Cx.env X)=[(false,eval a (Cx.env X))]) tI._auto_1):ZI X tg (Expr.Call (Expr.Name (Str.ofString "range") p) [a] [] pos) (qQ ta):=⟨tI h1 h2 h3.to h4⟩
theorem pP{X:Cx}{tg l:Expr}{tl:TE}(h1:ZE X l tl):ZI X tg l (xP (Cx.K X) tl):=⟨Kn h1.to⟩
theorem fU{X:Cx}{tg l:Expr}{tl:TE}(h1:ZE X l tl):ZI X tg l (zR (Cx.K X) tl):=⟨NZ h1.to⟩
theorem bK{X:Cx}{a b:Expr}{ta tb:TE}{pos:Pos}{op:CmpOp}{r:R2}(h1:kZ X (compareOp op) r)(h2:ZE X a ta)(h3:ZE X b tb)(h4:behindInMarks op b=false):ZT X (Expr.Compare a [op] [b] pos) (wB (FJ r ta tb)):=⟨Kb h1 h2.to h3.to h4⟩
theorem jY{X:Cx}{a:Expr}{pos:Pos}{tA:TT}(h1:ZT X a tA):ZT X (Expr.UnaryOp UnaryOp.Not a pos) (FK tA):=⟨NK h1.to⟩
theorem sQ{X:Cx}{e:Expr}{t:TT}(h1:ZW X e t):ZT X e t:=⟨PW.pt h1.to⟩
theorem cF{X:Cx}{e:Expr}{t:TE}(h1:ZE X e t)(h2:autoParam
    (∀(whole:Sem Value),
     PySem.isTrue e (Cx.env X) whole=do
      let v <-whole
      standAt (Expr.pos e)
      holding [v] (truthy v))
    GR._auto_1):ZT X e (tB t):=⟨GR h1.to h2⟩
theorem v8{X:Cx}{a:Expr}{pos:Pos}{tA:TT}(h1:ZT X a tA):ZW X (Expr.BoolOp BoolOp.And [a] pos) tA:=⟨Ka h1.to⟩
theorem oV{X:Cx}{a:Expr}{pos:Pos}{tA:TT}(h1:ZT X a tA):ZW X (Expr.BoolOp BoolOp.Or [a] pos) tA:=⟨NB h1.to⟩
theorem Au{X:Cx}{a b:Expr}{pos:Pos}{tA Jp:TT}{rest:List Expr}(h1:ZT X a tA)(h2:ZW X (Expr.BoolOp BoolOp.And (b::rest) pos) Jp):ZW X (Expr.BoolOp BoolOp.And (a::b::rest) pos) (FT tA Jp):=⟨NC h1.to h2.to⟩
theorem m7{X:Cx}{a b:Expr}{pos:Pos}{tA Jp:TT}{rest:List Expr}(h1:ZT X a tA)(h2:ZW X (Expr.BoolOp BoolOp.Or (b::rest) pos) Jp):ZW X (Expr.BoolOp BoolOp.Or (a::b::rest) pos) (QS tA Jp):=⟨Rf h1.to h2.to⟩
theorem aF{X : Cx}{CX : CQ}{k : Nat}{f : Addr}{fd : FuncData}{ps : List Str}{sp : Sp}{yt : List V}{ds : List Value}{E : XK}{x : Str}{p pos : Pos}{e : Expr}{es : List Expr}{t : TA}(h1 : cw (Cx.prog X) (Cx.w X) (Cx.K X) (Cx.mg X) (Cx.base X) CX k f fd ps sp)(h2 : cB k (Cx.A X))(h3 : Gl X x)(h4 : Cx.mg X x=some (Value.ref f))(h5 : W.keepIn (Cx.K X) (Value.ref f)=true)(h6 : Binds (Cx.K X) fd ps ds)(h7 : Vals yt ds)(h8 : Passes CX X E)(h9 : ZA X (e::es) t)(Sl : autoParam ((x==Str.ofString "__debug__")=false) oZ._auto_1)(Sj : autoParam (starEach (e::es) (Cx.env X)=(false, eval e (Cx.env X))::starEach es (Cx.env X))
                          oZ._auto_2) (h12 : autoParam
                            ((List.any (backTo pos (starEach es (Cx.env X))) λ(x : Bool × Sem Value) => Prod.fst x) =
                              false)
                            oZ._auto_3) : ZE X (Expr.Call (Expr.Name x p) (e::es) [] pos) (tE sp yt E t) := ⟨oZ h1 h2 h3 h4 h5 h6 h7 h8 h9.to Sl Sj h12⟩
theorem dJ{X : Cx}{x : Str}{p pos : Pos}{e : Expr}{es : List Expr}{t : TA}{T : String}{r : List V → Hp → VK → Prop}(h1 : cD X (Value.type T) r)(h2 : Gl X x)(h3 : Cx.mg X x=none)(h4 : bootBuiltins x=some (Value.type T))(h5 : ZA X (e::es) t)(h6 : autoParam (x ≠ Str.ofString "__name__") ie._auto_1)(h7 : autoParam ((x==Str.ofString "__debug__")=false) ie._auto_2)(h8 : autoParam (starEach (e::es) (Cx.env X)=(false, eval e (Cx.env X))::starEach es (Cx.env X))
                    ie._auto_3) (h9 : autoParam
                      ((List.any (backTo pos (starEach es (Cx.env X))) λ(x : Bool × Sem Value) => Prod.fst x) =
                        false)
                      ie._auto_4) : ZE X (Expr.Call (Expr.Name x p) (e::es) [] pos) (Nb r t) := ⟨ie h1 h2 h3 h4 h5.to h6 h7 h8 h9⟩
theorem aH{X : Cx}{x : Str}{p pos : Pos}{e : Expr}{es : List Expr}{t : TA}{id : String}{r : List V → Hp → VK → Prop}(h1 : cD X (Value.builtin id) r)(h2 : Gl X x)(h3 : Cx.mg X x=none)(h4 : bootBuiltins x=some (Value.builtin id))(h5 : ZA X (e::es) t)(h6 : autoParam (x ≠ Str.ofString "__name__") jE._auto_1)(h7 : autoParam ((x==Str.ofString "__debug__")=false) jE._auto_2)(h8 : autoParam (starEach (e::es) (Cx.env X)=(false, eval e (Cx.env X))::starEach es (Cx.env X))
                    jE._auto_3) (h9 : autoParam
                      ((List.any (backTo pos (starEach es (Cx.env X))) λ(x : Bool × Sem Value) => Prod.fst x) =
                        false)
                      jE._auto_4) : ZE X (Expr.Call (Expr.Name x p) (e::es) [] pos) (Nb r t) := ⟨jE h1 h2 h3 h4 h5.to h6 h7 h8 h9⟩
theorem Fn{X : Cx}{o e : Expr}{es : List Expr}{to : TE}{t : TA}{name : Str}{apos cE : Pos}{T id : String}{r : V → List V → Hp → VK → Prop}(h1 : PlainAttrs T)(h2 : Slot T name id)(h3 : typeOf (Value.builtin id)=pure (Value.type "method_descriptor"))(h4 : MtR X id r)(h5 : ZE X o to)(h6 : ZA X (e::es) t)(h7 : autoParam (attributeBase o name (Cx.env X) (eval o (Cx.env X))=eval o (Cx.env X)) tK._auto_1)(h8 : autoParam
                    ((((List.all (backTo cE (starEach (e::es) (Cx.env X))) λ(x : Bool × Sem Value) =>
                            !Prod.fst x) &&
                          List.all (backToKw cE (keywordEach [] (Cx.env X))) λ(x : Option Str × Sem Value) =>
                            Option.isSome (Prod.fst x)) &&
                        decide
                          ((List.length (e::es)+List.length ([] : List Keyword)+if List.isEmpty ([] : List Keyword)=true then 0 else 1)<30)) =
                      true)
                    tK._auto_2) (h9 : autoParam ((Pos.endLine apos==Pos.line cE)=true) tK._auto_3) (Sl : autoParam (starEach (e::es) (Cx.env X)=(false, eval e (Cx.env X))::starEach es (Cx.env X))
                        tK._auto_4) (Sj : autoParam
                          ((List.any (backTo cE (starEach es (Cx.env X))) λ(x : Bool × Sem Value) => Prod.fst x) =
                            false)
                          tK._auto_5) : ZE X (Expr.Call (Expr.Attribute o name apos) (e::es) [] cE) (QV (Cx.K X) T r to t) := ⟨tK h1 h2 h3 h4 h5.to h6.to h7 h8 h9 Sl Sj⟩
theorem aK{X:Cx}{e:Expr}{te:TE}{pos:Pos}(h1:ZE X e te):ZS X (Stmt.Return (some e) pos) (FH te):=⟨NQ h1.to⟩
theorem dj{X:Cx}{e:Expr}{te:TE}{pos:Pos}(h1:ZE X e te)(h2:autoParam (swapsWith e none (Pos.line pos) (Cx.env X)=pure false) Bu._auto_1):ZS X (Stmt.Expr e pos) (wF te):=⟨Bu h1.to h2⟩
theorem CW{X : Cx}{N : List Str}{fZ : Scope}{elt target iter : Expr}{ifs : List Expr}{scope : Scope}{pos spos py : Pos}{wi : TI}{g : CB → TG}{tt : CB → TT}{te : CB → TE}{y : Str}(h1 : HC X N fZ)(h2 : List.Nodup N)(i : Nat)(h3 : zt N fZ i y=true)(xs : List Str)(idx : List Nat)(h4 : Cx.calm X=true)(h5 : z7 fZ N scope idx=true)(h6 : ZI X target iter wi)(h7 : (∀ (c : CB),
                      HC (ft X scope (xs++aW (Cx.N X) idx) c) (xs++aW N idx) (bL scope fZ) →
                        ZG (ft X scope (xs++aW (Cx.N X) idx) c) target (g c))) (h8 : (∀ (c : CB),
                        HC (ft X scope (xs++aW (Cx.N X) idx) c) (xs++aW N idx) (bL scope fZ) →
                          Jj (ft X scope (xs++aW (Cx.N X) idx) c) ifs (tt c))) (h9 : (∀ (c : CB),
                          HC (ft X scope (xs++aW (Cx.N X) idx) c) (xs++aW N idx) (bL scope fZ) →
                            ZE (ft X scope (xs++aW (Cx.N X) idx) c) elt (te c))) (Sl : swapsWith
                              (Expr.ListComp elt [{ target := target, iter := iter, ifs := ifs, is_async := 0 }] scope
                                pos)
                              (some (Expr.Name y py)) (Pos.line spos) (Cx.env X) =
                            pure true) (Sj : autoParam (∀ (x : Value), foldedSetIterable iter (Cx.env X) x=pure x) wU._auto_1) : ZS X
                              (Stmt.Assign [Expr.Name y py]
                                (Expr.ListComp elt [{ target := target, iter := iter, ifs := ifs, is_async := 0 }] scope
                                  pos)
                                spos)
                              (qp (mE wi (List.length xs) idx g tt te) (cP i)) := ⟨wU h1 h2 i h3 xs idx h4 h5 h6.to (λc z => (h7 c z).to) (λc z => (h8 c z).to) (λc z => (h9 c z).to) Sl Sj⟩
theorem aM{X:Cx}{N:List Str}{sc:Scope}{x:Str}{pos:Pos}{e:Expr}{te:TE}{pos':Pos}(h1:HC X N sc)(h2:List.Nodup N)(h3:(∀(x:Str),Cx.fn X x=true))(i:Nat)(h4:Jq N sc i x=true)(h5:ZE X e te)(h6:autoParam (swapsWith e (some (Expr.Name x pos')) (Pos.line pos) (Cx.env X)=pure false) Bt._auto_1):ZS X (Stmt.Assign [Expr.Name x pos'] e pos) (qp te (cP i)):=⟨Bt h1 h2 h3 i h4 h5.to h6⟩
theorem wa{X:Cx}{o i value:Expr}{pos pos':Pos}{td ty tv:TE}(h1:Around.units (Cx.A X)+1<cLine)(h2:ZE X o td)(h3:ZE X i ty)(h4:ZE X value tv)(h5:swapsWith value (some (Expr.Subscript o i pos')) (Pos.line pos) (Cx.env X)=pure false):ZS X (Stmt.Assign [Expr.Subscript o i pos'] value pos) (Bl td ty tv):=⟨Ki h1 h2.to h3.to h4.to h5⟩
theorem iz{X : Cx}{pos : Pos}{tg e : Expr}{te : TE}{g : TG}(h1 : ZE X e te)(h2 : ZG X tg g)(h3 : autoParam (swapsWithSole [tg] e (Pos.line pos) (Cx.env X)=pure false) vj._auto_1)(h4 : autoParam (swappedStores [tg] e (Cx.env X)=pure none) vj._auto_2)(h5 : autoParam
              (List.map (λ(x : Bool × (Value → Sem Unit)) => Prod.snd x) (assignEach [tg] (Cx.env X)) =
                [assign tg (Cx.env X)])
              vj._auto_3) : ZS X (Stmt.Assign [tg] e pos) (qp te g) := ⟨vj h1.to h2.to h3 h4 h5⟩
theorem iA{X : Cx}{pos : Pos}{o i : Expr}{to ti : TE}{t : Al}(h1 : ZE X o to)(h2 : ZE X i ti)(h3 : Ew X t)(h4 : autoParam
            (∀ (v : Value),
              assign (Expr.Subscript o i pos) (Cx.env X) v=do
                let ov ← holding [v] (eval o (Cx.env X))
                let iv ← holding [v, ov] (eval i (Cx.env X))
                standAt pos
                holding [v, ov, iv] (setItem ov iv v)
                release [v, ov, iv] [])
            G6._auto_1) : ZG X (Expr.Subscript o i pos) (Ic to ti t) := ⟨G6 h1.to h2.to h3 h4⟩
theorem wc{X : Cx}{pos : Pos}{o i e : Expr}{to ti te : TE}{yU : V → V → Hp → VK → Prop}{M7 : Lq}{yT : Al}{op : Operator}{Fu : Pos}(h1 : ZE X o to)(h2 : ZE X i ti)(h3 : P7 X yU)(h4 : ZE X e te)(h5 : P6 X op M7)(h6 : Ew X yT)(h7 : autoParam
                  (∀ (ov iv new : Value),
                    augStore i ov iv new=do
                      holding [new, ov, iv] (setItem ov iv new)
                      release [new, ov, iv] []
                      pure Flow.next)
                  Bv._auto_1) : ZS X (Stmt.AugAssign (Expr.Subscript o i Fu) op e pos) (wH to ti te yU M7 yT) := ⟨Bv h1.to h2.to h3 h4.to h5 h6 h7⟩
theorem Fi{X:Cx}{N:List Str}{sc:Scope}{x:Str}{pos:Pos}{e:Expr}{te:TE}{op:Operator}{ti:Lq}{pos':Pos}(h1:HC X N sc)(h2:List.Nodup N)(h3:(∀(x:Str),Cx.fn X x=true))(i:Nat)(h4:Jq N sc i x=true)(h5:ZE X e te)(h6:P6 X op ti):ZS X (Stmt.AugAssign (Expr.Name x pos') op e pos) (JM i te ti):=⟨Kf h1 h2 h3 i h4 h5.to h6⟩
theorem cz{X:Cx}{t u:TS}{pos:Pos}{c:Expr}{a b:List Stmt}{tc:TT}(h1:ZT X c tc)(h2:uh X a t)(h3:uh X b u):ZS X (Stmt.If c a b pos) (Dh tc t u):=⟨Rc h1.to (.of h2.to) (.of h3.to)⟩
theorem CT{X:Cx}{pos:Pos}{c:Expr}{body:List Stmt}{tc:TT}{tb:TS}(h1:PassesOwn (model (Cx.prog X) (Cx.w X)) (Cx.A X) (Cx.env X) (Cx.xe X))(h2:ZT X c tc)(h3:uh X body tb):ZS X (Stmt.While c body [] pos) (yV tc tb):=⟨Gx h1 h2.to (.of h3.to)⟩
theorem Fm{X:Cx}{N:List Str}{sc:Scope}{x:Str}{pos:Pos}(h1:HC X N sc)(h2:List.Nodup N)(h3:(∀(x:Str),Cx.fn X x=true))(i:Nat)(h4:Jq N sc i x=true):ZG X (Expr.Name x pos) (cP i):=⟨pgk h1 h2 h3 i h4⟩
theorem mn{X:Cx}{pos:Pos}{tg iter:Expr}{body:List Stmt}{wi:TI}{g:TG}{tb:TS}(h1:PassesOwn (model (Cx.prog X) (Cx.w X)) (Cx.A X) (Cx.env X) (Cx.xe X))(h2:Cx.calm X=true)(h3:ZI X tg iter wi)(h4:ZG X tg g)(h5:uh X body tb)(h6:autoParam (∀(x:Value),foldedSetIterable iter (Cx.env X) x=pure x) Gy._auto_1):ZS X (Stmt.For tg iter body [] pos) (JL wi g tb):=⟨Gy h1 h2 h3.to h4.to (.of h5.to) h6⟩
theorem bx{X:Cx}:uh X [] tD:=⟨sj.to J4⟩
theorem az{X:Cx}{st:Stmt}{t:TS}(h1:ZS X st t):uh X [st] t:=⟨sj.to (J3 h1.to)⟩
theorem aq{X:Cx}{st:Stmt}{rest:List Stmt}{t u:TS}(h1:ZS X st t)(h2:uh X rest u):uh X (st::rest) (tSeq t u):=⟨sj.to (Gw h1.to (.of h2.to))⟩
theorem ml{X:Cx}{st:Stmt}{rest:List Stmt}{t u:TS}(h1:ZS X st t)(h2:uh X rest u):uh X (st::rest) (M' t u):=⟨sj.to (J5 h1.to (.of h2.to))⟩
theorem ji.wZ{P:Program}{w:World}{K:PySem.W.Frag}{mg:Str->Option Value}{base:Heap}{x qual:Str}{st:Stmt}{f:Addr}{fd:FuncData}{N ps:List Str}{k:Nat}{sp:Sp}(F:ji K x qual st f fd)(S:aL N ps (ag st))(len:∀vs H Q E,sp vs H Q E->vs.length=ps.length)
  (dm:∀(bE:Value) (A:Around) (outer:List Env) (s:Shared) (H:Hp) (vs:List V) (Q:VK) (E:XK),cB k (A.deeper (envOfC qual (ag st) s.heap.objs.size f bE))->sp vs H Q E->
   HC (cM eB P w K mg base N qual (ag st) f bE A outer s H E).zu N (ag st)->(∀x,(cM eB P w K mg base N qual (ag st) f bE A outer s H E).zu.fn x=true)->
   ∃t,uh (cM eB P w K mg base N qual (ag st) f bE A outer s H E).zu (aI st) t/\t { nx:=λ_ H'=>Q .non H',rt:=Q } (start N vs) H):cw P w K mg base eB (k+1) f fd ps sp:=
 F.okK S len λbE A outer s H vs Q E hr h hc hf=>let ⟨t,h1,h2⟩:=dm bE A outer s H vs Q E hr h hc hf;⟨t,.of h1.to,h2⟩
def nG(w:World):Bool:=w.params.followText "set-order"
theorem KC(t:SetTable)(es:Array (Int×Value))(h:Int)(x:Value):(layNew t es h x).2.1.led=t.led:=by
 unfold layNew
 split
 ·dsimp only;unfold SetTable.orStandIn
  split <;> rfl
 ·rfl
theorem Hw{mask finger moves:Nat}{led plain:Bool}{hs:Array Int}{t':SetTable}{o:Array Nat}(h:SetTable.laid mask finger moves led plain hs=some (t',o)):t'.led=led/\t'.plain=plain:=by
 unfold SetTable.laid at h
 cases q:SetTable.layClean mask hs with
 | none=>rw[q]at h;cases h
 | some owner=>rw[q]at h;cases h;exact⟨rfl,rfl⟩
theorem Dt(t:SetTable)(es:Array (Int×Value))(k:Nat):(relayAll t es k).2.1.led=t.led:=by
 unfold relayAll
 split
 ·rename_i t' o q
  dsimp only
  split
  ·exact(Hw q).1
  ·rfl
 ·rfl
def X1(w:World)(p:Str×Tok):Int×Value:=(hashStr w p.1,.str p.1 p.2)
def dg(es:Array (Int×Value))(ep:Nat)(t:SetTable):Obj:={ cls:=.type "set",dict:=none,data:=.set es ep t }
structure YM(w:World)(h:Heap)(a:Addr)(l:List (Str×Tok)):Prop where
 ex:∃es ep t,h.get? a=some (dg es ep t)/\es.toList=l.map (X1 w)/\t.fits es.size=true/\t.led = !nG w/\(l≠[]->t.plain=false)
 nd:(l.map (·.1)).Nodup
 sz:l.length<scanBound
section
variable {P:Program}{w:World}{A:Around}{E:Value->Shared->Prop}{s:Shared}{a:Addr}{l:List (Str×Tok)}
end
section
variable {P:Program}{w:World}{A:Around}{R:Result->Shared->Prop}{I:Addr}{fp wr:List Addr}{G:Array GenState->Array GenState->Prop}{n:Nat}{Pv:Nat->Value->Prop}{St:Nat->Shared->Prop}
end
section
variable {P:Program}{w:World}{A:Around}{E:Value->Shared->Prop}{s:Shared}
theorem Bj{x:Value}{Q:Value->Shared->Prop}(h:Q (.ref s.heap.objs.size) { s with heap:=s.heap.push (dg #[] 0 (.fresh 0 0 (!nG w))) }) :
  codeAny (model P w) A (.call (.builtin "set.__new__") ⟨[.type "set",x],[]⟩) (wants Q E) s:=by
 refine uv ?_
 refine aj (m:=checkBuiltinCall "set.__new__" ⟨[.type "set",x],[]⟩) (lq (PySem.F.newCall_set_1 x) (aE ⟨uk PySem.F.plain_set_new _,nQ PySem.F.entry_set_new ?_⟩))
 rw[vZ PySem.F.plain_set_new _]
 unfold Builtin.«set.__new__» Builtin.Frozenset.newClass
 have RJ:=sub_set_self
 obtain⟨hp,g,d,tk,os⟩:=s
 dsimp only
 wp_walk
 refine wpAny_askSetting (aE ?_)
 dsimp only
 simp only[newObj]
 refine aj (wpAny_alloc (aE (aE h)))
end
theorem dq:Slot "set_iterator" "__next__" "set_iterator.__next__":=
 .of (owner:="set_iterator") (n:="__next__") (by rw[typeLookup_type,builtinLookup_eq_fast];kernel_rfl) (by decide +kernel) (by decide +kernel) (by decide +kernel)
  (.inl (by decide +kernel)) (by rw[isSubtype_type];kernel_rfl)
theorem mH:Slot "set_iterator" "__iter__" "set_iterator.__iter__":=
 .of (owner:="set_iterator") (n:="__iter__") (by rw[typeLookup_type,builtinLookup_eq_fast];kernel_rfl) (by decide +kernel) (by decide +kernel) (by decide +kernel)
  (.inl (by decide +kernel)) (by rw[isSubtype_type];kernel_rfl)
theorem kM:entryFor table "set_iterator.__next__" = some Builtin.«set_iterator.__next__»:=entryFor_of_tree (by kernel_rfl)
theorem rK:entryFor table "set_iterator.__iter__" = some Builtin.«dict_keyiterator.__iter__»:=
 entryFor_alias (id':="dict_keyiterator.__iter__") (by kernel_rfl) rfl (by decide +kernel) (by kernel_rfl)
theorem rL:entryFor table "set.__iter__" = some Builtin.«frozenset.__iter__»:=
 entryFor_alias (id':="frozenset.__iter__") (by kernel_rfl) rfl (by decide +kernel) (by kernel_rfl)
theorem wL:Manifest.owners.lookup (String.ofList "rotareti_tes".toList.reverse)=some Manifest.sig_set_iterator:=by kernel_rfl
theorem mJ(a:Value):argsOk "set_iterator.__next__" ⟨[a],[]⟩:=by
 unfold argsOk;rw[signature?_of (id:="set_iterator.__next__") (n:="__txen__".toList) (o:="rotareti_tes".toList) (by kernel_rfl) wL];kernel_rfl
theorem uY(a:Value):argsOk "set_iterator.__iter__" ⟨[a],[]⟩:=by
 unfold argsOk;rw[signature?_of (id:="set_iterator.__iter__") (n:="__reti__".toList) (o:="rotareti_tes".toList) (by kernel_rfl) wL];kernel_rfl
def kO(first:Value)(i n ep:Nat)(a:Addr):Obj:={ cls:=.type "set_iterator",data:=.fields #[first,.int i 0,.ref a,.int n 0,.int ep 0] }
section
variable {P:Program}{w:World}{A:Around}{E:Value->Shared->Prop}{s:Shared}{a I:Addr}{es:Array (Int×Value)}{t:SetTable}{ep i n:Nat}{first:Value}
theorem mG(hI:s.heap.get? I=some (kO first i n ep a)):s.TypeIs (.ref I) "set_iterator":=⟨_,hI,rfl⟩
theorem Bi{Q:Value->Shared->Prop}(hI:s.heap.get? I=some (kO first i n ep a))(q:Q (.ref I) s):wpAny (model P w) A (pyIter (.ref I)) Q E s:=by
 refine wpAny_pyIter_slot (mG hI) mH (kz mH (mG hI) rK ?_ (uY _))
 exact aE ⟨_,rfl,"set_iterator",_,mG hI,dq.lookup,q⟩
theorem Gi{slot:Nat}{tk:Tok}{r:Option (Value×Nat)}{Q:Option Value->Shared->Prop}(hh:A.handled=none)(hI:s.heap.get? I=some (kO (.int slot tk) i n ep a))(hS:s.heap.get? a=some (dg es ep t))(hf:t.fits es.size=true)(hn:es.size=n)
  (hx:∀(B:Around) (E':Value->Shared->Prop) (Q':Option (Value×Nat)->Shared->Prop),Q' r s->wpAny (model P w) B (setNext a slot i ep) Q' E' s)
  (q:match r with
   | some (x,nx)=>∀h',h'.get? I=some (kO (.int (nx:Int) 0) (i+1) n ep a)->Heap.SameBut I s.heap h'->Q (some x) { s with heap:=h' }
   | none=>∀h',Heap.ExtBut I s.heap h'->Q none { s with heap:=h' }):wpAny (model P w) A (pyNext (.ref I)) Q E s:=by
 have hT:=mG hI
 unfold pyNext
 refine aj (nO (pA (name:=Str.ofString "__next__") hT dq (kz dq hT kM ?_ (mJ _))))
 unfold Builtin.«set_iterator.__next__»
 refine aj (m:=slotArgs _ _ _) (aE ?_)
 refine aj (wpAny_fieldsOf hI rfl ?_)
 refine aj (m:=setEntries a) (yv hS rfl hf ?_)
 rw[aB (by rw[hn];simp)]
 refine aj (m:=setNext a slot i ep) (hx _ _ _ ?_)
 cases r with
 | some p=>
  obtain⟨x,nx⟩:=p
  dsimp only at q ⊢
  refine aj (m:=setField (.ref I) 0 (rawInt nx)) (sE hI (by simp) λh1 e1 Q6=>?_)
  refine aj (m:=setField (.ref I) 1 (rawInt (i+1))) (sE e1 (by simp) λh2 e2 U7=>?_)
  exact aE ⟨x,rfl,aE (q h2 (by rw[e2];rfl) (Q6.trans U7))⟩
 | none=>
  dsimp only at q ⊢
  refine aj (m:=setField (.ref I) 2 .none) (sE hI (by simp) λh1 e1 Q6=>?_)
  refine aj (m:=newExc (.type "StopIteration") []) ?_
  simp only[newExc,newTuple]
  refine aj (eK ?_ (by size_fits))
  refine aj (m:=firstArgMember _ _) (lq (a:=Value.none) (by first | rfl | (simp only[firstArgMember];rfl)) ?_)
  refine eK (yu hh ?_) (by size_fits)
  refine aj (sq (T:="StopIteration") (b:=true) ⟨_,eG _ rfl,rfl⟩ pE ?_)
  exact aE (q _ ((Q6.extBut.push _).push _))
theorem Gh{p:Addr}{vs:Array Value}{c:Nat}{r:Option Value}{Q:Option Value->Shared->Prop}(hh:A.handled=none)(hI:s.heap.get? I=some (kO (.ref p) i n ep a))(hS:s.heap.get? a=some (dg es ep t))(hf:t.fits es.size=true)(hn:es.size=n)
  (hp:s.heap.get? p=some { cls:=.type "tuple",data:=.seq vs c })
  (hv:match r with | some x=>∃(k:Nat) (z:Int),vs[i]?=some (.int k 0)/\es[k]?=some (z,x) | none=>vs[i]?=none)
  (q:match r with
   | some x=>∀h',h'.get? I=some (kO (.ref p) (i+1) n ep a)->Heap.SameBut I s.heap h'->Q (some x) { s with heap:=h' }
   | none=>∀h',Heap.ExtBut I s.heap h'->Q none { s with heap:=h' }):wpAny (model P w) A (pyNext (.ref I)) Q E s:=by
 have hT:=mG hI
 unfold pyNext
 refine aj (nO (pA (name:=Str.ofString "__next__") hT dq (kz dq hT kM ?_ (mJ _))))
 unfold Builtin.«set_iterator.__next__»
 refine aj (m:=slotArgs _ _ _) (aE ?_)
 refine aj (wpAny_fieldsOf hI rfl ?_)
 refine aj (m:=setEntries a) (yv hS rfl hf ?_)
 rw[aB (by rw[hn];simp)]
 refine aj (m:=seqItems? (.ref p)) (wpAny_seqItems hp rfl ?_)
 cases r with
 | some x=>
  obtain⟨k,z,e1,e2⟩:=hv
  dsimp only at q ⊢
  simp only[nW,e1]
  refine aj (m:=setNextDrawn a k ep) ?_
  unfold setNextDrawn
  refine aj (sC hS rfl hf ?_)
  dsimp only
  rw[aB (by simp)]
  simp only[e2]
  refine aE ?_
  refine aj (m:=setField (.ref I) 1 (rawInt (i+1))) (sE hI (by simp) λh2 e2 U7=>?_)
  exact aE ⟨x,rfl,aE (q h2 (by rw[e2];rfl) U7)⟩
 | none=>
  dsimp only at q hv ⊢
  simp only[nW,hv]
  refine aj (m:=setField (.ref I) 0 (rawInt 0)) (sE hI (by simp) λh0 e0 sb0=>?_)
  refine aj (m:=setField (.ref I) 2 .none) (sE e0 (by simp) λh1 e1 Q6=>?_)
  refine aj (m:=newExc (.type "StopIteration") []) ?_
  simp only[newExc,newTuple]
  refine aj (eK ?_ (by size_fits))
  refine aj (m:=firstArgMember _ _) (lq (a:=Value.none) (by first | rfl | (simp only[firstArgMember];rfl)) ?_)
  refine eK (yu hh ?_) (by size_fits)
  refine aj (sq (T:="StopIteration") (b:=true) ⟨_,eG _ rfl,rfl⟩ pE ?_)
  exact aE (q _ (((sb0.trans Q6).extBut.push _).push _))
end
theorem lJ{α:Type}:∀(l:List α) (i:Nat) (x:α),l[i]?=some x->(x::l.eraseIdx i).Perm l
 | [],i,x,h=>by cases i <;> cases h
 | y::l,0,x,h=>by cases h;exact List.Perm.refl _
 | y::l,i+1,x,h=>by
  rw[List.getElem?_cons_succ]at h
  rw[List.eraseIdx_cons_succ]
  exact(List.Perm.swap y x _).trans ((lJ l i x h).cons y)
theorem By{α:Type}(next:Nat->Nat):∀(f k:Nat) (l:List α) (out:Array α),l.length=f->(pickOrder.go next f k l out).toList.Perm (out.toList++l)
 | 0,k,l,out,h=>by
  rw[List.length_eq_zero_iff.mp h,gh]
  unfold pickOrder.go
  exact List.Perm.refl _
 | f+1,k,l,out,h=>by
  unfold pickOrder.go
  have lt:next k%l.length<l.length:=Nat.mod_lt _ (by lia)
  have e:l[next k%l.length]?=some l[next k%l.length]:=eI lt
  rw[e]
  dsimp only
  refine(By next f (k+1) _ _ (by rw[List.length_eraseIdx_of_lt lt];lia)).trans ?_
  rw[Array.toList_push,List.append_assoc]
  exact(lJ l _ _ e).append_left _
theorem tH{α:Type}(next:Nat->Nat)(xs:Array α):(pickOrder next xs).toList.Perm xs.toList:=by
 unfold pickOrder
 have:=By next xs.size 0 xs.toList #[] eU
 simpa using this
section
variable {P:Program}{w:World}{A:Around}{E:Value->Shared->Prop}
theorem tX{α:Type}:∀(n:Nat) (xs:List α) (s:Shared) (Q:List α->Shared->Prop),xs.length=n->(∀ys d,ys.Perm xs->Q ys { s with drawn:=d })->wpAny (model P w) A (drawOrder n xs) Q E s
 | 0,xs,s,Q,h,q=>by
  have:xs=[]:=List.length_eq_zero_iff.mp h
  subst this
  unfold drawOrder
  exact aE (by cases s;exact q [] _ (List.Perm.refl _))
 | n+1,[],s,Q,h,q=>by cases h
 | n+1,x::xs,s,Q,h,q=>by
  unfold drawOrder
  have lt:w.draws .order (s.drawn.get .order)%(x::xs).length<(x::xs).length:=Nat.mod_lt _ (by simp)
  refine aj (m:=choose .order (x::xs).length) (λΓ p hΓ=>?_)
  refine⟨by simp,?_⟩
  have e:(x::xs)[w.draws .order (s.drawn.get .order)%(x::xs).length]?=some (x::xs)[w.draws .order (s.drawn.get .order)%(x::xs).length]:=eI lt
  show wpAny (model P w) A (match (x::xs)[w.draws .order (s.drawn.get .order)%(x::xs).length]? with
   | some y=>do let r <-drawOrder n ((x::xs).eraseIdx (w.draws .order (s.drawn.get .order)%(x::xs).length));pure (y::r)
   | none=>unsupported "internal:drawOrder") Q E { s with drawn:=s.drawn.bump .order }
  rw[e]
  dsimp only
  refine aj (tX n _ _ _ (by rw[List.length_eraseIdx_of_lt lt];simp at h ⊢;lia) λys d hp=>aE ?_)
  exact q _ d ((hp.cons _).trans (lJ _ _ _ e))
variable {s:Shared}{a:Addr}{es:Array (Int×Value)}{t:SetTable}{ep slot i:Nat}
theorem jb{Q:Bool->Shared->Prop}(q:Q (nG w) s):wpAny (model P w) A setsByText Q E s:=by
 unfold setsByText
 exact aj (wpAny_askSetting (aE q))
theorem w5{Q:Option (Value×Nat)->Shared->Prop}(hb:nG w=true)(hS:s.heap.get? a=some (dg es ep t))(hf:t.fits es.size=true)(q:Q (((pickOrder (w.params.setOrder a ep) es)[i]?).map λe=>(e.2,slot)) s) :
  wpAny (model P w) A (setNext a slot i ep) Q E s:=by
 unfold setNext
 refine aj (sC hS rfl hf (aj (jb ?_)))
 rw[hb]
 dsimp only
 rw[aC rfl,aB (by simp)]
 refine aj ?_
 unfold setWalk
 refine aj (sC hS rfl hf (aj (jb ?_)))
 rw[hb,aC rfl]
 exact aj (wpAny_askSetting (aE (aE q)))
end
section
variable {P:Program}{w:World}{B:Around}{a I:Addr}{es:Array (Int×Value)}{t:SetTable}{ep n:Nat}{ord:List Value}
theorem tj(slotAt:Nat->Nat)(hh:B.handled=none)(o6:a≠I)(hf:t.fits es.size=true)(hn:es.size=n)(ho:ord.length=n)
  (hx:∀i,i<=n->∀(s:Shared) (C:Around) (E':Value->Shared->Prop) (Q':Option (Value×Nat)->Shared->Prop),s.heap.get? a=some (dg es ep t)->Q' ((ord[i]?).map λv=>(v,slotAt (i+1))) s->wpAny (model P w) C (setNext a (slotAt i) i ep) Q' E' s) :
  WalksS P w B I [I,a] [I] (λx y=>y=x) n (λi v=>ord[i]?=some v) (λi s=>s.heap.get? I=some (kO (.int (slotAt i) 0) i n ep a)/\s.heap.get? a=some (dg es ep t)) where
 sub:=λb hb=>by rw[di.mp hb];exact dF
 grefl:=λ_=>rfl
 gtrans:=λ_ _ _ h1 h2=>h2.trans h1
 frame:=λi s h' tk st _ k=>⟨k I (by simp) _ st.1,k a (by simp) _ st.2⟩
 item:=λi s Q E hi st q=>by
  have e:ord[i]?=some ord[i]:=eI (by rw[ho];exact hi)
  refine Gi (r:=some (ord[i],slotAt (i+1))) hh st.1 st.2 hf hn (λC E' Q' hq=>hx i (lu hi) s C E' Q' st.2 (by rw[e];exact hq)) λh' h1 h2=>?_
  exact q _ _ e ⟨h1,h2.extBut a _ o6 st.2⟩ ⟨λb o hb z=>h2.extBut b o (λy=>hb (by rw[y];exact di.mpr rfl)) z,rfl,rfl,rfl,bu _⟩
 done:=λs Q E st q=>by
  have e:ord[n]?=none:=px (by rw[ho];exact bu _)
  refine Gi (r:=none) hh st.1 st.2 hf hn (λC E' Q' hq=>hx n (bu _) s C E' Q' st.2 (by rw[e];exact hq)) λh' h1=>?_
  exact q _ ⟨λb o hb z=>h1 b o (λy=>hb (by rw[y];exact di.mpr rfl)) z,rfl,rfl,rfl,bu _⟩
 self:=λi s Q E st q=>Bi st.1 q
theorem De{p:Addr}{pl:List Nat}{c:Nat}(hh:B.handled=none)(o6:a≠I)(hnp:p≠I)(hf:t.fits es.size=true)(hn:es.size=n)(ho:ord.length=n)(hl:pl.length=n)
  (hx:∀i:Nat,i<n->∃(k:Nat) (z:Int) (x:Value),pl[i]?=some k/\es[k]?=some (z,x)/\ord[i]?=some x) :
  WalksS P w B I [I,a,p] [I] (λx y=>y=x) n (λi v=>ord[i]?=some v)
   (λi s=>s.heap.get? I=some (kO (.ref p) i n ep a)/\s.heap.get? a=some (dg es ep t)/\s.heap.get? p=some { cls:=.type "tuple",data:=.seq (pl.map λ(j:Nat)=>Value.int j 0).toArray c }) where
 sub:=λb hb=>by rw[di.mp hb];exact dF
 grefl:=λ_=>rfl
 gtrans:=λ_ _ _ h1 h2=>h2.trans h1
 frame:=λi s h' tk st _ k=>⟨k I (by simp) _ st.1,k a (by simp) _ st.2.1,k p (by simp) _ st.2.2⟩
 item:=λi s Q E hi st q=>by
  obtain⟨k,z,x,e1,e2,e3⟩:=hx i hi
  refine Gh (r:=some x) hh st.1 st.2.1 hf hn st.2.2 ⟨k,z,by simp[e1],e2⟩ λh' h1 h2=>?_
  exact q _ _ e3 ⟨h1,h2.extBut a _ o6 st.2.1,h2.extBut p _ hnp st.2.2⟩ ⟨λb o hb z=>h2.extBut b o (λy=>hb (by rw[y];exact di.mpr rfl)) z,rfl,rfl,rfl,bu _⟩
 done:=λs Q E st q=>by
  refine Gh (r:=none) hh st.1 st.2.1 hf hn st.2.2 (by simp[hl]) λh' h1=>?_
  exact q _ ⟨λb o hb z=>h1 b o (λy=>hb (by rw[y];exact di.mpr rfl)) z,rfl,rfl,rfl,bu _⟩
 self:=λi s Q E st q=>Bi st.1 q
end
section
variable {P:Program}{w:World}{A:Around}{E:Value->Shared->Prop}{s:Shared}{a:Addr}{l:List (Str×Tok)}
theorem Gk{Q:Bool->Shared->Prop}(hT:s.TypeIs (.ref a) "set")(q:Q false s):wpAny (model P w) A (Builtin.List.listLengthHint (.ref a)) Q E s:=by
 unfold Builtin.List.listLengthHint
 refine aj (wpAny_specialOf hT PySem.F.slot_set_len.lookup ?_)
 generalize Z9:("set.__len__" : String)=id0
 wp_delta
 rw[show splitId id0=some ("set","__len__") from by subst Z9;decide +kernel]
 subst Z9
 refine aj (sq (T:="set") (b:=true) hT (by rw[isSubtype_type];kernel_rfl) ?_)
 refine m6 (λz=>absurd z (by decide)) (λ_=>m6 (λ_=>?_) (λz=>absurd (by decide +kernel) z))
 exact aj (pB hT (aE q))
end
theorem Inv.same{X:Cx}{pins:List (Addr×Obj)}{σ:List (Option V)}{H:Hp}{s s':Shared}(I:Inv X pins σ H s)(hh:s'.heap=s.heap)(hg:s'.gens=s.gens)(ho:s'.os=s.os):Inv X pins σ H s':=
 ⟨I.ok,by rw[ho];exact I.os,by rw[hg];exact I.bare,by rw[hh];exact I.base,by rw[hh];exact I.loc,by rw[hh];exact I.cell,I.free,I.dC,by rw[hh];exact I.pin,by rw[hh];exact I.bp,I.len⟩
def TxS(w:World)(p:Addr)(ss:List Str):HO:=.ext λh=>∃l,YM w h p l/\∀z,z∈l.map (·.1)↔z∈ss
section
variable {X:Cx}
theorem tM{α:Type} [DecidableEq α]:∀{l m:List α},l.Nodup->(∀x∈l,x∈m)->l.length<=m.length
 | [],m,_,_=>gd _
 | x::l,m,h,k=>by
  have hx:=k x dF
  have:=tM (m:=m.erase x) (sx.mp h).2 λy hy=>(List.mem_erase_of_ne (λ(e:y=x)=>(sx.mp h).1 (by rw[<-e];exact hy))).mpr (k y (dR _ hy))
  rw[List.length_erase_of_mem hx]at this
  have p:0<m.length:=List.length_pos_of_mem hx
  rw[pK];lia
end
theorem uR(K:PySem.W.Frag)(z:Str)(H:Hp):Ts K "str" (.str z) H=True:=eq_true rfl
section
variable {X:Cx}
def GC(w:World):List V->Hp->VK->Prop:=λvs H Q=>∃a,vs=[.ref a]/\∃ss:List Str,H a=some (.lst (ss.map V.str))/\ss.length<4000/\∀p,H p=none->Q (.ref p) (upd H p (TxS w p ss))
def qx(w:World):List V->Hp->VK->Prop:=λvs H Q=>∃a,vs=[.ref a]/\∃ss:List Str,H a=some (TxS w a ss)/\ss.length<64/\
 ∀ss':List Str,(∀z,z∈ss'↔z∈ss)->ss'.Nodup->sortedS ss'=true->∀p,H p=none->Q (.ref p) (upd H p (.lst (ss'.map V.str)))
def wR:List V->Hp->VK->Prop:=λvs H Q=>∃a,vs=[.ref a]/\∃bs:List Bool,H a=some (.lst (bs.map V.bl))/\Q (.bl (bs.all id)) H
theorem yc:∀{bs:List Bool} {us:List Value},Vals (bs.map V.bl) us->∀(i:Nat) (v:Value),us[i]?=some v->v=.bool (bs.getD i true):=by
 intro bs
 induction bs with
 | nil=>intro us r i v h;cases r;cases i <;> cases h
 | cons b bs ih=>
  intro us r i v h
  rw[g5]at r
  cases r with
  | cons r1 r2=>
   cases r1
   cases i with
   | zero=>cases h;rfl
   | succ i=>exact ih r2 i v (by simpa using h)
theorem all_range:∀(bs:List Bool),((List.range bs.length).all λi=>bs.getD i true)=bs.all id
 | []=>rfl
 | b::bs=>by
  rw[pK,List.range_succ_eq_map,pG,List.all_map,pG,<-all_range bs]
  rfl
theorem Ep(hh:X.A.handled=none):cD X (.builtin "all") wR:=by
 intro pins s σ H vs us Q I rv h
 obtain⟨a,rfl,bs,hq,q⟩:=h
 obtain⟨u,rfl,ru⟩:=vals1 rv
 cases ru
 obtain⟨its,r,pl,hz⟩:=I.list (dk hq)
 have hl:=r.length
 rw[bN]at hl
 have lt:a<s.heap.objs.size:=let ⟨_,e,_⟩:=pl.isList;bf e
 refine call_all_walkS (pI pl.isList ⟨s.heap.objs.size,_,_,_,its.toArray.size,_,_,λi=>bs.getD i true,rfl,(Walks.list (A:=X.A.in1) hh _ a (bj lt) its.toArray).toS,⟨⟨_,eG _ rfl,rfl,rfl⟩,(pl.isList).push _⟩,?_,λs' mv=>?_⟩)
 ·intro i v s1 Q1 E1 hv RL
  have:v=.bool (bs.getD i true):=yc r i v (by simpa using hv)
  subst this
  exact aE RL
 ·rw[dE,<-hl,all_range]
  have k:∀b o,s.heap.get? b=some o->s'.heap.get? b=some o:=λb o e=>mv.heap b o (λz=>absurd (bf e) (by rw[di.mp z];exact gJ _)) (bC _ e)
  have I1:Inv X pins σ H { s with heap:=s'.heap,toks:=s.toks }:=I.un (Un.kept k) (I.bp.kept k)
  exact⟨.bl (bs.all id),H,I1.same rfl mv.gens mv.os,rfl,q⟩
end
section
variable {P:Program}{w:World}{κ:Type} [DecidableEq κ] {knd:PySem.KeyKind P w κ} {A:Around} {E:Value->Shared->Prop} {s:Shared} {a b:Addr} {aJ Hx:List (κ×Value)}
end
section
variable {X:Cx}
def Nz(neg:Bool):R2:=λx y H Q=>∃a b,x=.ref a/\y=.ref b/\∃aJ,H a=some (.dK aJ)/\H b=some (.dK aJ)/\(∀kv∈aJ,∃c,kv.2=.bl c)/\Q (.bl (!neg)) H
def qv:V->List V->Hp->VK->Prop:=λx vs H Q=>∃a b,x=.ref a/\vs=[.ref b]/\a≠b/\∃aJ,H a=some (.dK aJ)/\∃more,H b=some (.dK more)/\aJ.length+more.length<=sizeLine/\Q .non (upd H a (.dK (Oh aJ more)))
end
section
variable {X:Cx}{pins:List (Addr×Obj)}{s:Shared}{σ:St}{H:Hp}{A:Around}
theorem Ba{xs:List V}{us:List Value}{j:Nat}{x:V}(r:Vals xs us)(h:j<us.toArray.size)(e:xs[j]?=some x):RelV x us.toArray[j]:=by
 have h':j<us.length:=by simpa using h
 obtain⟨u,eu,ru⟩:=r.get e
 have:=eI h'
 rw[eu]at this
 have e1:us.toArray[j]=u:=by simpa using (dB this).symm
 rw[e1];exact ru
end
section
variable {P:Program}{w:World}{A:Around}{E:Value->Shared->Prop}{s:Shared}
end
section
variable {X:Cx}
end
section
variable {X:Cx}{tg:Expr}
end
section
variable {X:Cx}
theorem fC{x:Str}{v:V}{u:Value}{pos:Pos}(hg:Gl X x)(hm:X.mg x=some u)(r:RelV v u)(hd:(x==("__debug__" : Str))=false:=by decide):ZE X (.Name x pos) (tC v):=⟨Ko hg hm r hd⟩
end
theorem gN{K:PySem.W.Frag}{a:Addr}{zs:List V}{idx:List Nat}{tt:CB->TT}{te:CB->TE}{σ:St}{Q:VK}{H1:Hp}(Pv:Addr->Nat->List V->Hp->Prop)(h0:∀D,H1 D=none->Pv D 0 [] (upd H1 D (.lst [])))
  (hl:∀D,H1 D=none->∀i ys H,i<=zs.length->Pv D i ys H->H a=some (.tup zs))
  (hs:∀D,H1 D=none->∀i x ys H,zs[i]?=some x->Pv D i ys H->∀(c:CB),tt c (some x::bz σ idx) H λb H4=>if b=true then te c (some x::bz σ idx) H4 λy H5=>H5 D=some (.lst ys)/\ys.length<sizeLine/\Pv D (i+1) (ys++[y]) (upd H5 D (.lst (ys++[y]))) else Pv D (i+1) ys H4)
  (hd:∀D,H1 D=none->∀ys H,Pv D zs.length ys H->Q (.ref D) H):gP (JF K a) 1 idx (λ_=>cP 0) tt te σ Q H1:=by
 intro D hD
 refine⟨λi m ys H=>m=zs.length-i/\i<=zs.length/\Pv D i ys H,⟨zs.length,by simp,gd _,h0 D hD⟩,?_⟩
 rintro i m ys H ⟨rfl,hi,p⟩
 by_cases kc:i<zs.length
 ·refine .inr ⟨⟨zs,zs[i],bG (hl D hD i ys H hi p),eI kc⟩,Pv D (i+1),λj5 H' p'=>⟨zs.length-(i+1),by omega,rfl,kc,p'⟩,λc own ho y H' yl=>?_⟩
  obtain⟨e,hy⟩:=yl
  subst e
  have ey:=hy zs (bG (hl D hD i ys H' hi p))
  show(∃cY,cY.length=1/\(own++bz σ idx).set 0 _=cY++bz σ idx)/\tt c ((own++bz σ idx).set 0 _) H' _
  rw[N9 ho]
  exact⟨⟨[_],rfl,rfl⟩,hs D hD i y ys H' ey p c⟩
 ·have e:i=zs.length:=by omega
  subst e
  exact .inl ⟨⟨zs,bG (hl D hD _ ys H hi p),bu _⟩,hd D hD ys H p⟩
section
variable {X:Cx}
def Nu(neg:Bool):R2:=λx y H Q=>∃c d,x=.bl c/\y=.bl d/\Q (.bl (if neg then c != d else c==d)) H
theorem IK{prog:Program}{w:World}{A:Around}{E:Value->Shared->Prop}{s:Shared}{t b:Addr}{ws:List Value}{Q:Value->Shared->Prop}(ht:IsTup s.heap t (([]:List Value)).toArray)(hb:IsTup s.heap b ws.toArray)
  (h1:Q (.ref b) s):wpAny (model prog w) A (binaryOp .Add (.ref t) (.ref b)) Q E s:=by
 obtain⟨⟨cls,dd,data,sl⟩,ho,hc,n,hd⟩:=id ht
 obtain⟨⟨Yv,Ud,data2,Gg⟩,O9,Fb,n2,hd2⟩:=id hb
 simp only at hc hd Fb hd2
 subst hc hd Fb hd2
 exact concat_meets ⟨_,ho,rfl⟩ ⟨_,O9,rfl⟩ noFill_tuple_add seq_tuple_add yK yL (yN _ _)
   (tuple_addW0 t b _ ws.toArray n n2 dd Ud sl Gg rfl) ⟨ho,O9,h1⟩
def Br:R2:=λx y H Q=>∃a b,x=.ref a/\y=.ref b/\∃xs,H a=some (.tup xs)/\∃ys,H b=some (.tup ys)/\xs.length+ys.length<=sizeLine/\
 ∀p H',bB H H'->(∀c,c≠p->H' c=H c)->H' p=some (.tup (xs++ys))->Q (.ref p) H'
theorem Hi:kZ X (binaryOp .Add) Br:=by
 intro pins s σ H x y v u Q I rx ry h
 obtain⟨a,b,rfl,rfl,xs,ha,ys,hb,hz,q⟩:=h
 by_cases hx:xs=[]
 ·subst hx
  cases rx;cases ry
  obtain⟨its,r1,p1,_⟩:=I.tuple (bG ha)
  obtain⟨KJ,r2,p2,_⟩:=I.tuple (bG hb)
  cases r1
  exact IK p1 p2 ⟨.ref b,H,I,rfl,q b H (bB.refl H) (λ_ _=>rfl) hb⟩
 ·exact Kv pins s σ H _ _ v u Q I rx ry ⟨a,b,xs,ys,rfl,rfl,bG ha,bG hb,hx,hz,λe=>q a H (bB.refl H) (λ_ _=>rfl) (by rw[e,gh];exact ha),λ_ p hp=>q p _ (λb u e=>by rw[ay (aG e hp)];exact e) (λc hc=>ay hc) ak⟩
def YQ(lo st:Int)(n:Nat):It:=⟨λi _=>i<n,λi H x H'=>H'=H/\x=.int (lo+i*st),λi _=>n<=i⟩
def HD(ta:TA):TI:=λσ H R=>ta σ H λvs H1=>∃i j:Int,vs=[.int i,.int j,.int 2]/\(0<=i/\i<=1000/\-1<=j/\j<=1000)/\R (YQ i 2 ((j-i+1) / 2).toNat) H1
end
end L2
end
section
namespace L2
open PySem PySem.Spec PyProof.Rows Builtin Builtin.Str
section
variable {X:Cx}
end
end L2
end
section
namespace L2
open PySem PySem.W PyProof.Rows
abbrev Td(p:Array Nat)(i:Nat):Nat:=p.getD i 0
section
variable {b:Nat->Nat->Bool}{n:Nat}
end
section
variable {prog:Program}{w:World}{A:Around}{E:Value->Shared->Prop}{s:Shared}{κ:SortKind}{r:Keyed->Int}{U:Keyed->Prop}
end
section
variable {r:Keyed->Int}{tot o ra rb p:List Keyed}
end
section
variable {r:Keyed->Int}{a b o:Array Keyed}{x y k:Nat}
end
section
variable {prog:Program}{w:World}{A:Around}{E:Value->Shared->Prop}{s:Shared}{κ:SortKind}{r:Keyed->Int}{U:Keyed->Prop}
end
section
variable {r:Keyed->Int}{tot o ra rb p:List Keyed}
end
section
variable {r:Keyed->Int}{a b o:Array Keyed}{x y e:Nat}
end
section
variable {prog:Program}{w:World}{A:Around}{E:Value->Shared->Prop}{s:Shared}{κ:SortKind}{r:Keyed->Int}{U:Keyed->Prop}
end
section
variable {prog:Program}{w:World}{A:Around}{E:Value->Shared->Prop}{s:Shared}{κ:SortKind}{r:Keyed->Int}{a₀:Array Keyed}
end
section
variable {r:Keyed->Int}{xs ys:Array Keyed}
end
section
variable {prog:Program}{w:World}{A:Around}{E:Value->Shared->Prop}{s:Shared}{κ:SortKind}{r:Keyed->Int}{a₀:Array Keyed}
end
section
variable {prog:Program}{w:World}{A:Around}{E:Value->Shared->Prop}{s:Shared}{κ:SortKind}
end
end L2
end
section
namespace L2
open PySem PySem.Spec PySem.W PyProof.Rows Builtin
def Q5(x y:List Int):Bool:=decide (x.length<y.length)||(decide (x.length=y.length)&&HT.lexLt x y)
section
variable {P:Program}{w:World}{A:Around}{E:Value->Shared->Prop}{s:Shared}
end
section
variable {P:Program}{w:World}{H H1:Hp}{h h1 h2:Heap}{e a:Addr}{o:HO}{fs:List Addr}
end
section
variable {X:Cx}{pins:List (Addr×Obj)}{σ:St}{H:Hp}{s:Shared}
structure P'(X:Cx)(H:Hp)(s:Shared)(D S:Addr)(e1:Nat)(H':Hp)(s':Shared)(kA:Array Value):Prop where
 os:s'.os=s.os
 bare:AllBare s'.gens
 un:Un (ke X.stack) [] H H' s.heap s'.heap
 bp:gb X.prog X.w H' s'.heap
 same:bB H H'
 nD:H' D=none
 nS:H' S=none
 oD:s'.heap.get? D=some (seqObj "list" #[] e1)
 oS:∃e,s'.heap.get? S=some (seqObj "list" kA e)
end
section
variable {P:Program}{w:World}{H':Hp}{h:Heap}{p a:Addr}
end
section
variable {X:Cx}{pins:List (Addr×Obj)}{σ:St}{H:Hp}{s:Shared}
end
section
variable {P:Program}{w:World}{A:Around}{E:Value->Shared->Prop}{s:Shared}{d it:Addr}{es:Array DictEntry}{ep i:Nat}
end
def bM(H:Hp)(bs:List Addr)(ts:List (List Int)):Prop:=bs.length=ts.length/\∀(i:Nat) b t,bs[i]?=some b->ts[i]?=some t->H b=some (.tup (List.map V.int t))
def Nr(x:V)(H:Hp)(Q:VK):Prop:=∃d,x=.ref d/\∃aJ ss,H d=some (.dT aJ)/\aJ.map (·.1)=ss.map (List.map Sum.inl)/\ss.length<100000/\
 ∀D H' bs ts,bB H H'->H D=none->H' D=some (.lst (List.map V.ref bs))->bM H' bs ts->ts.Perm ss->ts.Pairwise (λa b=>Q5 a b=true)->Q (.ref D) H'
def yZ(te:TE):TE:=λσ H Q=>te σ H λx H1=>Nr x H1 Q
section
variable {X:Cx}{k:Nat}{f:Addr}{fd:FuncData}{pm g:Str}{e:Expr}{te:TE}{p kp RB pos:Pos}
end
section
variable {X:Cx}
def Tr(i j:Int):Prop:=0<j/\j<2 ^ 300
theorem Hh:kZ X (binaryOp .FloorDiv) (rI Tr λi j=>.int (i / j)):=TJ λi j _ _ _ _ _ hc q=>by
 have h1:(0:Int)<j:=hc.1
 have h2:j<2 ^ 300:=hc.2
 refine floordiv_int (by omega) (by rw[Int.fdiv_eq_ediv_of_nonneg i (by omega)];exact q) (.inl (PyProof.noPylong_of_log2 ?_))
 have h3:j.natAbs<2 ^ 300:=by omega
 have h4:j.natAbs≠0:=by omega
 have:=(Nat.log2_lt h4).mpr h3
 omega
def Bs:List V->Hp->VK->Prop:=λvs H Q=>∃a,vs=[.ref a]/\∃bs:List Bool,H a=some (.lst (bs.map V.bl))/\Q (.bl (bs.any id)) H
theorem Er:∀{bs:List Bool} {us:List Value},Vals (bs.map V.bl) us->∀(i:Nat) (v:Value),us[i]?=some v->v=.bool (bs.getD i false):=by
 intro bs
 induction bs with
 | nil=>intro us r i v h;cases r;cases i <;> cases h
 | cons b bs ih=>
  intro us r i v h
  rw[g5]at r
  cases r with
  | cons r1 r2=>
   cases r1
   cases i with
   | zero=>cases h;rfl
   | succ i=>exact ih r2 i v (by simpa using h)
theorem any_range:∀(bs:List Bool),((List.range bs.length).any λi=>bs.getD i false)=bs.any id
 | []=>rfl
 | b::bs=>by
  rw[pK,List.range_succ_eq_map,pd,um,pd,<-any_range bs]
  rfl
theorem t7(hh:X.A.handled=none):cD X (.builtin "any") Bs:=by
 intro pins s σ H vs us Q I rv h
 obtain⟨a,rfl,bs,hq,q⟩:=h
 obtain⟨u,rfl,ru⟩:=vals1 rv
 cases ru
 obtain⟨its,r,pl,hz⟩:=I.list (dk hq)
 have hl:=r.length
 rw[bN]at hl
 have lt:a<s.heap.objs.size:=let ⟨_,e,_⟩:=pl.isList;bf e
 refine call_any_walk (pI pl.isList ⟨s.heap.objs.size,_,_,its.toArray.size,_,_,λi=>bs.getD i false,rfl,Walks.list (A:=X.A.in1) hh _ a (bj lt) its.toArray,⟨⟨_,eG _ rfl,rfl,rfl⟩,(pl.isList).push _⟩,?_,λh' tk mv=>?_⟩)
 ·intro i v s1 Q1 E1 hv RL
  have:v=.bool (bs.getD i false):=Er r i v (by simpa using hv)
  subst this
  exact aE RL
 ·rw[dE,<-hl,any_range]
  have k:∀b o,s.heap.get? b=some o->h'.get? b=some o:=λb o e=>mv b o (λz=>absurd (bf e) (by rw[di.mp z];exact gJ _)) (bC _ e)
  exact⟨.bl (bs.any id),H,I.un (t':=tk) (Un.kept k) (I.bp.kept k),rfl,q⟩
variable {k:Nat}{f:Addr}{fd:FuncData}{pm g:Str}{e:Expr}{te:TE}{p kp RB pos:Pos}
def u6:V->List V->Hp->VK->Prop:=λx vs H Q=>∃l i y,x=.ref l/\vs=[.int i,y]/\∃xs,H l=some (.lst xs)/\0<=i/\i<=xs.length/\xs.length<100000/\Q .non (upd H l (.lst (xs.take i.toNat++y::xs.drop i.toNat)))
end
end L2
namespace L2
open PySem PySem.Spec PySem.W PyProof.Rows Builtin
end L2
end
section
namespace L2
open PySem PySem.Spec PyProof.Rows
def YS(K:PySem.W.Frag)(a:Addr)(n:Nat):It:=
 ⟨λi H=>i<n/\∃xs,lU K H a xs/\xs.length=n,λi H x H'=>H'=H/\∀xs,lU K H a xs->xs[n-1-i]?=some x,λi _=>i=n⟩
section
variable {X:Cx}{tg:Expr}
def Oz(K:PySem.W.Frag)(ta:TA):TI:=λσ H R=>ta σ H λvs H1=>∃a,vs=[.ref a]/\∃xs,lU K H1 a xs/\R (YS K a xs.length) H1
end
theorem Ji{α:Type} [DecidableEq α] {cl dl:List α}:((List.range (min cl.length dl.length)).all (λj=>decide (cl[j]?=dl[j]?))&&cl.length==dl.length)=decide (cl=dl):=by
 rw[ph,eJ,nV,decide_eq_true_iff,beq_iff_eq]
 constructor
 ·rintro⟨h,l⟩
  apply uC
  intro i
  by_cases hi:i<cl.length
  ·exact of_decide_eq_true (h i (List.mem_range.mpr (by lia)))
  ·rw[px (by lia),px (by lia)]
 ·rintro rfl
  exact⟨λj _=>decide_eq_true rfl,rfl⟩
section
variable {X:Cx}{pins:List (Addr×Obj)}{s:Shared}{σ:St}{H:Hp}{A:Around}
theorem vF{x y:List Int}{us ws:List Value}(r1:Vals (List.map V.int x) us)(r2:Vals (List.map V.int y) ws)(j:Nat)(h1:j<us.toArray.size)(h2:j<ws.toArray.size) :
  SeqAt.EqAt A s us.toArray[j] ws.toArray[j] (decide (x[j]?=y[j]?)):=by
 have l1:=r1.length
 have l2:=r2.length
 rw[bN]at l1 l2
 have j1:j<x.length:=by rw[l1];simpa using h1
 have j2:j<y.length:=by rw[l2];simpa using h2
 have e1:x[j]?=some x[j]:=eI j1
 have e2:y[j]?=some y[j]:=eI j2
 have h:=Il (A:=A) (s:=s) (Ba (x:=.int x[j]) r1 h1 (by rw[fB,e1];rfl)) (Ba (x:=.int y[j]) r2 h2 (by rw[fB,e2];rfl)) rfl rfl
 have e3:Fd (.int x[j]) (.int y[j])=decide (x[j]?=y[j]?):=by
  rw[e1,e2,ph,decide_eq_true_iff,Option.some.injEq]
  show(x[j]==y[j])=true↔_
  rw[beq_iff_eq]
 rw[e3]at h
 exact h
def Bq(neg:Bool):R2:=λx y H Q=>∃a b,x=.ref a/\y=.ref b/\∃u v:List Int,H a=some (.tup (List.map V.int u))/\H b=some (.tup (List.map V.int v))/\Q (.bl (if neg then !decide (u=v) else decide (u=v))) H
theorem BG(hu:X.A.units+1<cLine):kZ X (compareOp .Eq) (Bq false):=by
 intro pins s σ H x y v u Q I rx ry h
 obtain⟨a,b,rfl,rfl,cl,dl,h1,h2,q⟩:=h
 cases rx;cases ry
 obtain⟨us,r1,t1,_⟩:=I.tuple (bG h1)
 obtain⟨ws,r2,t2,_⟩:=I.tuple (bG h2)
 have l1:=r1.length
 have l2:=r2.length
 rw[bN]at l1 l2
 refine SeqAt.eq_tupleAt (e:=λj=>decide (cl[j]?=dl[j]?)) t1 t2 (by lia) (λj h1 h2=>vF r1 r2 j h1 h2) ⟨.bl _,H,I,rfl,?_⟩
 rw[dE,dE,<-l1,<-l2,Ji]
 exact q
def GP(neg:Bool):R2:=λx y H Q=>∃a b,x=.ref a/\y=.ref b/\∃ps qs cl dl,H a=some (.lst (List.map V.ref ps))/\H b=some (.lst (List.map V.ref qs))/\bM H ps cl/\bM H qs dl/\Q (.bl (if neg then !decide (cl=dl) else decide (cl=dl))) H
end
section
variable {X:Cx}{pins:List (Addr×Obj)}{σ:St}{H:Hp}{s:Shared}
end
section
variable {X:Cx}{elt target iter:Expr}{ifs:List Expr}{scope:Scope}{pos:Pos}{cs xs:List Str}{idx:List Nat}{wi:TI}{g:CB->TG}{tt:CB->TT}{te:CB->TE}
end
section
variable {X:Cx}{N:List Str}{fZ:Scope}{elt target iter:Expr}{ifs:List Expr}{scope:Scope}{pos:Pos}{wi:TI}{g:CB->TG}{tt:CB->TT}{te:CB->TE}
end
section
variable {prog:Program}{w:World}{A:Around}{E:Value->Shared->Prop}{s:Shared}
end
section
variable {X:Cx}
end
def Up(xs:Array Nat):Prop:=xs.toList.Pairwise (· < ·)
theorem Up.lt{xs:Array Nat}(u:Up xs){i k:Nat}(h:i<k)(hk:k<xs.size):xs.getD i 0<xs.getD k 0:=by
 have h1:i<xs.toList.length:=by rw[eU];lia
 have h2:k<xs.toList.length:=by rw[eU];lia
 have:=(List.pairwise_iff_getElem.mp u) i k h1 h2 h
 rw[v5,v5]at this
 rw[nZ,nZ,hJ (by lia),hJ hk]
 exact this
theorem Ib{xs:Array Nat}{i j:Nat}(h:i<xs.size):xs.getD i j=xs.getD i 0:=by
 rw[nZ,nZ,hJ h];rfl
theorem qY{xs:Array Nat}{j:Nat}(u:Up xs):∀(f lo hi:Nat),hi-lo<=f->lo<=hi->hi<=xs.size->(∀i,i<lo->xs.getD i 0<j)->(∀i,hi<=i->i<xs.size->j<=xs.getD i 0)->
  SetTable.below.go xs j f lo hi<=xs.size/\(∀i,i<SetTable.below.go xs j f lo hi->xs.getD i 0<j)/\∀i,SetTable.below.go xs j f lo hi<=i->i<xs.size->j<=xs.getD i 0
 | 0,lo,hi,h0,h1,h2,a,b=>by
  have e:lo=hi:=by lia
  subst e
  exact⟨h2,a,b⟩
 | f+1,lo,hi,h0,h1,h2,a,b=>by
  unfold SetTable.below.go
  by_cases c:lo<hi
  ·rw[aC c]
   dsimp only
   have hm:(lo+hi) / 2<xs.size:=by lia
   rw[Ib hm]
   by_cases d:xs.getD ((lo+hi) / 2) 0<j
   ·rw[aC d]
    refine qY u f _ _ (by lia) (by lia) h2 (λi Mr=>?_) b
    by_cases e:i=(lo+hi) / 2
    ·rw[e];exact d
    ·have:=u.lt (i:=i) (k:=(lo+hi) / 2) (by lia) hm;lia
   ·rw[aB d]
    refine qY u f _ _ (by lia) (by lia) (by lia) a λi Mr hz=>?_
    by_cases e:i=(lo+hi) / 2
    ·rw[e];lia
    ·have:=u.lt (i:=(lo+hi) / 2) (k:=i) (by lia) hz;lia
  ·rw[aB c]
   have e:lo=hi:=by lia
   subst e
   exact⟨h2,a,b⟩
theorem lK{xs:Array Nat}(u:Up xs)(j:Nat):SetTable.below xs j<=xs.size/\(∀i,i<SetTable.below xs j->xs.getD i 0<j)/\∀i,SetTable.below xs j<=i->i<xs.size->j<=xs.getD i 0:=
 qY u xs.size 0 xs.size (by lia) (gd _) (bu _) (λi h=>absurd h (Nat.not_lt_zero _)) (λi h1 h2=>absurd h2 (by lia))
def iG(xs:Array Nat)(i:Nat):Nat:=if i=0 then 0 else xs.getD (i-1) 0+1
theorem below_at{xs:Array Nat}(u:Up xs){i:Nat}(hi:i<=xs.size):SetTable.below xs (iG xs i)=i:=by
 obtain⟨h0,h1,h2⟩:=lK u (iG xs i)
 generalize SetTable.below xs (iG xs i)=r at h0 h1 h2 ⊢
 unfold iG at h1 h2
 rcases Nat.lt_trichotomy r i with h | h | h
 ·have:=h2 (i-1) (by lia) (by lia)
  rw[aB (by lia)]at this
  lia
 ·exact h
 ·have:=h1 i h
  by_cases e:i=0
  ·rw[aC e]at this;lia
  ·rw[aB e]at this
   have:=u.lt (i:=i-1) (k:=i) (by lia) (by lia)
   lia
theorem Es{xs:Array Nat}(u:Up xs){j:Nat}(h:j∈xs.toList):xs[SetTable.below xs j]?=some j:=by
 obtain⟨k,hk,e⟩:=yE h
 rw[eU]at hk
 rw[v5]at e
 have ek:xs.getD k 0=j:=by rw[nZ,hJ hk];exact e
 obtain⟨h0,h1,h2⟩:=lK u j
 have:SetTable.below xs j=k:=by
  generalize SetTable.below xs j=r at h0 h1 h2 ⊢
  rcases Nat.lt_trichotomy r k with h | h | h
  ·have a:=h2 r (bu _) (by lia)
   have b:=u.lt (i:=r) (k:=k) h hk
   lia
  ·exact h
  ·have:=h1 k h;lia
 rw[this,hJ hk,e]
theorem rX{α:Type}(xs:Array α)(p:Nat)(x:α):(SetTable.insertAt xs p x).toList=xs.toList.take p++x::xs.toList.drop p:=by
 unfold SetTable.insertAt
 simp[Array.toList_extract,List.extract]
 exact List.take_of_length_le (by simp)
theorem Df{xs:Array Nat}(u:Up xs){j:Nat}(h:j∉xs.toList):Up (SetTable.insertAt xs (SetTable.below xs j) j):=by
 obtain⟨h0,h1,h2⟩:=lK u j
 generalize SetTable.below xs j=r at h0 h1 h2 ⊢
 unfold Up
 rw[rX,List.pairwise_append]
 have lt:∀a∈xs.toList.take r,a<j:=λa ha=>by
  obtain⟨k,hk,e⟩:=yE ha
  rw[kB,eU]at hk
  rw[List.getElem_take,v5]at e
  have:=h1 k (by lia)
  rw[nZ,hJ (by lia)]at this
  rw[<-e];exact this
 have gt:∀a∈xs.toList.drop r,j<a:=λa ha=>by
  have hm:=List.mem_of_mem_drop ha
  obtain⟨k,hk,e⟩:=yE ha
  rw[pL,eU]at hk
  rw[List.getElem_drop,v5]at e
  have:=h2 (r+k) (by lia) (by lia)
  rw[nZ,hJ (by lia)]at this
  have h3:j<=a:=by rw[<-e];exact this
  have h4:j≠a:=λz=>h (by rw[z];exact hm)
  lia
 refine⟨u.sublist (List.take_sublist _ _),yz.mpr ⟨gt,u.sublist (List.drop_sublist _ _)⟩,λa ha b hb=>?_⟩
 rcases ck.mp hb with e | hb
 ·rw[e];exact lt a ha
 ·have:=lt a ha;have:=gt b hb;lia
theorem lB{t:SetTable}{hashAt:Nat->Int}{h:Int}:∀(f:Nat) (p:SetTable.Probe) (j:Nat) (d:Option Nat),(∀q,p.dummy=some q->t.slot q=.dummy)->SetTable.probe.go t hashAt h f p=some (.empty j d)->
  t.slot j=.empty/\∀q,d=some q->t.slot q=.dummy
 | 0,p,j,d,_,e=>by cases e
 | f+1,p,j,d,hd,e=>by
  unfold SetTable.probe.go at e
  have adv:∀p:SetTable.Probe,(t.advance p).dummy=p.dummy:=λp=>by unfold SetTable.advance;split <;> rfl
  cases hs:t.slot p.j with
  | empty=>
   rw[hs]at e
   dsimp only at e
   cases e
   exact⟨hs,hd⟩
  | dummy=>
   rw[hs]at e
   refine lB f _ j d (λq hq=>?_) e
   rw[adv]at hq
   cases hq
   exact hs
  | live i=>
   rw[hs]at e
   dsimp only at e
   split at e
   ·cases e
   ·refine lB f _ j d (λq hq=>?_) e
    rw[adv]at hq
    exact hd q hq
theorem zY{t:SetTable}(u:Up t.place){h:Int}{j:Nat}{b:Bool}(e:t.freeSlot h=some (j,b)):j∉t.place.toList:=by
 unfold SetTable.freeSlot at e
 have key:∀q,t.slot q=.empty\/t.slot q=.dummy->q∉t.place.toList:=λq hq hm=>by
  have z:=Es u hm
  have sl:t.slot q=.live (SetTable.below t.place q):=by
   unfold SetTable.slot
   dsimp only
   rw[z];simp
  rw[sl]at hq
  rcases hq with h | h <;> cases h
 cases hp:t.probe (λ_=>h+1) h (t.probeStart h) with
 | none=>rw[hp]at e;cases e
 | some m=>
  rw[hp]at e
  cases m with
  | candidate j i n=>cases e
  | empty j0 d=>
   obtain⟨a,c⟩:=lB _ _ _ _ (λq hq=>by cases hq) hp
   dsimp only at e
   cases d with
   | none=>cases e;exact key _ (.inl a)
   | some q=>cases e;exact key _ (.inr (c q rfl))
theorem mC(n:Nat):Up (Array.range n):=by
 unfold Up
 rw[Array.toList_range]
 exact List.pairwise_lt_range
theorem Om{t:SetTable}(u:Up t.place)(es:Array (Int×Value))(h:Int)(x:Value):Up (layNew t es h x).2.1.place:=by
 unfold layNew
 split
 ·rename_i slot QD q
  dsimp only
  unfold SetTable.orStandIn
  split
  ·exact Df u (zY u q)
  ·exact mC _
 ·exact mC _
theorem KD{mask finger moves:Nat}{led plain:Bool}{hs:Array Int}{t':SetTable}{o:Array Nat}(h:SetTable.laid mask finger moves led plain hs=some (t',o)):Up t'.place:=by
 unfold SetTable.laid at h
 cases q:SetTable.layClean mask hs with
 | none=>rw[q]at h;cases h
 | some owner=>
  rw[q]at h
  cases h
  unfold Up
  rw[List.toList_toArray,List.pairwise_map,List.pairwise_filterMap]
  refine List.pairwise_lt_range.imp λ{a b} Xe c hc d hd=>?_
  cases ha:owner.getD a none with
  | none=>rw[ha]at hc;cases hc
  | some k=>
   cases hb:owner.getD b none with
   | none=>rw[hb]at hd;cases hd
   | some k'=>
    rw[ha]at hc;rw[hb]at hd
    cases hc;cases hd
    exact Xe
theorem Gq{t:SetTable}(es:Array (Int×Value))(k:Nat):Up (relayAll t es k).2.1.place:=by
 unfold relayAll
 split
 ·rename_i t' o q
  dsimp only
  split
  ·exact KD q
  ·exact mC _
 ·exact mC _
def sd(p:Int×Tok):Int×Value:=(hashInt p.1,.int p.1 p.2)
structure iq(w:World)(h:Heap)(a:Addr)(l:List (Int×Tok)):Prop where
 ex:∃es ep t,h.get? a=some (dg es ep t)/\es.toList=l.map (sd)/\t.fits es.size=true/\t.led = !nG w/\Up t.place
 nd:(l.map (·.1)).Nodup
 sz:l.length<scanBound
theorem iq.at{w:World}{h h':Heap}{a:Addr}{l:List (Int×Tok)}(x:iq w h a l)(k:∀o,h.get? a=some o->h'.get? a=some o):iq w h' a l:=
 ⟨let ⟨es,ep,t,e,r⟩:=x.ex;⟨es,ep,t,k _ e,r⟩,x.nd,x.sz⟩
section
variable {P:Program}{w:World}{A:Around}{E:Value->Shared->Prop}{s:Shared}{a:Addr}{l:List (Int×Tok)}
theorem Ei(l:List (Int×Tok)):ElemsOf (intKind P w) (l.map (sd)):=by
 intro e he
 obtain⟨p,_,rfl⟩:=jk.mp he
 exact⟨⟨p.1,intKind_is P w _ _,rfl⟩,rfl⟩
theorem Eh(x:Int):∀l:List (Int×Tok),(∀j,(l.map (sd)).findIdx? (λe=>(intKind P w).is x e.2)=some j->x∈l.map (·.1))/\((l.map (sd)).findIdx? (λe=>(intKind P w).is x e.2)=none->x∉l.map (·.1)):=by
 intro l
 refine⟨λj h=>?_,λh hm=>?_⟩
 ·obtain⟨hj,hp,_⟩:=List.findIdx?_eq_some_iff_getElem.mp h
  rw[List.getElem_map]at hp
  rw[bN]at hj
  have:(l[j]).1=x:=(intKind P w).inj _ _ _ (intKind_is P w _ _) hp
  exact jk.mpr ⟨l[j],List.getElem_mem hj,this⟩
 ·obtain⟨p,hp,rfl⟩:=jk.mp hm
  have:=List.findIdx?_eq_none_iff.mp h (sd p) (List.mem_map_of_mem hp)
  rw[show(intKind P w).is p.1 (sd p).2=true from intKind_is P w _ _]at this
  cases this
theorem tJ{es':List (Int×Value)}{l:List (Int×Tok)}(p:es'.Perm (l.map (sd))):∃l':List (Int×Tok),es'=l'.map (sd)/\l'.Perm l:=by
 let back:Int×Value->Int×Tok:=λe=>match e.2 with | .int x t=>(x,t) | _=>(default,0)
 have hb:∀q:Int×Tok,back (sd q)=q:=λq=>rfl
 refine⟨es'.map back,?_,?_⟩
 ·rw[jr]
  conv=>lhs;rw[<-uj es']
  refine v3 λe he=>?_
  obtain⟨q,_,rfl⟩:=jk.mp (p.mem_iff.mp he)
  rfl
 ·have:=p.map back
  rw[jr,show(back ∘ sd)=id from funext hb,uj]at this
  exact this
theorem add_int{x:Int}{tk:Tok}{Q:Bool->Shared->Prop}(S:iq w s.heap a l)(room:l.length+1<scanBound)
  (q:∀h' l' b,Heap.SameBut a s.heap h'->iq w h' a l'->(∀z,z∈l'.map (·.1)↔z∈l.map (·.1)\/z=x)->l'.length<=l.length+1->Q b { s with heap:=h' }) :
  wpAny (model P w) A (setAddHashed a (.int x tk) (hashInt x)) Q E s:=by
 obtain⟨⟨es,ep,t,ho,Mu,hf,HR,jo⟩,nd,sz⟩:=S
 have hsz:es.size=l.length:=by rw[<-eU,Mu,bN]
 have hE:ElemsOf (intKind P w) es.toList:=by rw[Mu];exact Ei l
 have hk:(intKind P w).is x (.int x tk)=true:=intKind_is P w _ _
 have hd:(dg es ep t).data=.set es ep t:=rfl
 unfold setAddHashed setAddHashedIn
 refine eT (aj (sC ho hd hf ?_))
 dsimp only
 rw[byScan_of (knd:=intKind P w) rfl (by rw[hsz];exact sz) hE]
 simp only[↓reduceIte]
 unfold setAddByScan
 refine aj (aj (lj (aj (wpAny_setScan_of (knd:=intKind P w) hk ho hd hf hE ?_))))
 have W3:=Eh (P:=P) (w:=w) x l
 rw[<-Mu]at W3
 cases hr:List.findIdx? (λe=>(intKind P w).is x e.2) es.toList with
 | some j=>
  dsimp only
  have hm:=W3.1 j hr
  refine aE (aE ?_)
  have e:s={ s with heap:=s.heap }:=by cases s;rfl
  rw[e]
  exact q s.heap l false (Heap.SameBut.refl a s.heap) ⟨⟨es,ep,t,ho,Mu,hf,HR,jo⟩,nd,sz⟩ (λz=>⟨.inl,λh=>h.elim id λe=>e ▸ hm⟩) (jq _)
 | none=>
  have hm:=W3.2 hr
  dsimp only
  have pp:=layNew_perm t es (hashInt x) (.int x tk)
  have pf:=layNew_fits t es (hashInt x) (.int x tk)
  have pl:=KC t es (hashInt x) (.int x tk)
  have pq:=Om jo es (hashInt x) (.int x tk)
  generalize hL:layNew t es (hashInt x) (.int x tk)=L at pp pf pl pq ⊢
  obtain⟨lT,t1,QD,gave⟩:=L
  dsimp only at pp pf pl pq ⊢
  rw[Array.toList_push,Mu]at pp
  obtain⟨l1,e1,p1⟩:=tJ (l:=l++[(x,tk)]) (es':=lT.toList) (by rw[g6];exact pp)
  have Rz:l1.length=l.length+1:=by rw[p1.length_eq,eL];rfl
  have Ze:(l1.map (·.1)).Nodup:=by
   rw[(p1.map (·.1)).nodup_iff,g6,List.nodup_append]
   refine⟨nd,by simp,λu hu v hv=>?_⟩
   rw[g5,uo,di]at hv
   rintro rfl
   rw[hv]at hu
   exact hm hu
  have Rv:∀z,z∈l1.map (·.1)↔z∈l.map (·.1)\/z=x:=λz=>by
   rw[(p1.map (·.1)).mem_iff,g6,nR];simp
  have Wv:lT.size=l.length+1:=by rw[<-eU,e1,bN,Rz]
  have gw:∀(b:Bool) {s₁:Shared} {Q':Unit->Shared->Prop},Q' () s₁->wpAny (model P w) A (match b with | true=>rule "set.scan.the-table-gave-way" | false=>pure ()) Q' E s₁:=
   λb s₁ Q' hq=>by cases b <;> first | exact aE hq | exact lj hq
  refine aj (gw _ ?_)
  have fin:∀t2:SetTable,t2.fits lT.size=true->t2.led=t.led->Up t2.place->
    wpAny (model P w) A (do
     storeSet a lT t2
     if (!QD&&t2.tooFull)=true then do
      (match (relayAll t2 lT (SetTable.grown lT.size)).2.2 with | true=>rule "set.scan.the-table-gave-way" | false=>pure ())
      storeSet a (relayAll t2 lT (SetTable.grown lT.size)).1 (relayAll t2 lT (SetTable.grown lT.size)).2.1
      pure (some true)
     else pure (some true)) (λr s'=>∃b,r=some b/\Q b s') E s:=by
   intro t2 f2 l2 p2
   refine aj (wpAny_storeSet_of ho hd ?_ (by rw[Wv];exact ux room))
   have g1:(s.heap.update a (Obj.putSet lT t2)).get? a=some (dg lT (ep+1) t2):=by
    have:=jt (Obj.putSet lT t2) ho (by rw[putSet_of lT t2 hd];rfl)
    rw[putSet_of lT t2 hd]at this;exact this
   have sb:=uA s.heap a (Obj.putSet lT t2)
   split
   ·have rp:=relayAll_perm t2 lT (SetTable.grown lT.size)
    have rf:=relayAll_fits t2 lT (SetTable.grown lT.size)
    have rl:=Dt t2 lT (SetTable.grown lT.size)
    have rq:=Gq (t:=t2) lT (SetTable.grown lT.size)
    generalize hR:relayAll t2 lT (SetTable.grown lT.size)=R at rp rf rl rq ⊢
    obtain⟨PK,t3,aAa⟩:=R
    dsimp only at rp rf rl rq ⊢
    rw[e1]at rp
    obtain⟨Zn,e2,Vs⟩:=tJ rp
    have Ry:Zn.length=l.length+1:=by rw[Vs.length_eq,Rz]
    have Wu:PK.size=l.length+1:=by rw[<-eU,e2,bN,Ry]
    refine aj (gw _ ?_)
    refine aj (wpAny_storeSet_of g1 rfl ?_ (by rw[Wu];exact ux room))
    have g2:((s.heap.update a (Obj.putSet lT t2)).update a (Obj.putSet PK t3)).get? a=some (dg PK (ep+1+1) t3):=by
     have:=jt (Obj.putSet PK t3) g1 (by rw[putSet_of PK t3 (show(dg lT (ep+1) t2).data=_ from rfl)];rfl)
     rw[putSet_of PK t3 (show(dg lT (ep+1) t2).data=_ from rfl)]at this;exact this
    refine aE ⟨true,rfl,q _ Zn true (sb.trans (uA _ a _)) ⟨⟨PK,_,t3,g2,e2,rf,by rw[rl,l2,HR],rq⟩,by rw[(Vs.map (·.1)).nodup_iff];exact Ze,by lia⟩ (λz=>by rw[(Vs.map (·.1)).mem_iff];exact Rv z) (by lia)⟩
   ·exact aE ⟨true,rfl,q _ l1 true sb ⟨⟨lT,_,t2,g1,e1,f2,by rw[l2,HR],p2⟩,Ze,by lia⟩ Rv (by lia)⟩
  split
  ·rename_i o5
   refine aj ?_
   rw[hashByValue_scannable 8 (show(Value.int x tk).scannable=true from rfl)]
   refine aE ?_
   rw[show(if plainKind (Value.int x tk)=true then t1 else { t1 with plain:=false })=t1 from rfl]
   refine bV (fin t1 pf pl pq) (λr s' h=>?_) λ_ _ h=>h
   obtain⟨b,rfl,hq⟩:=h
   exact aE hq
  ·rename_i o5
   refine aj (aE ?_)
   simp only[↓reduceIte]
   refine bV (fin t1 pf pl pq) (λr s' h=>?_) λ_ _ h=>h
   obtain⟨b,rfl,hq⟩:=h
   exact aE hq
end
section
variable {P:Program}{w:World}{A:Around}{R:Result->Shared->Prop}{I:Addr}{fp wr:List Addr}{G:Array GenState->Array GenState->Prop}{n:Nat}{Pv:Nat->Value->Prop}{St:Nat->Shared->Prop}
theorem xj(W:WalksS P w A.in1 I fp wr G n Pv St)(S:Addr)(Qt:S∉fp)(val:Nat->Int)(hval:∀i v,Pv i v->∃t,v=.int (val i) t)(hb:n+1<scanBound) :
  ∀(k i:Nat) (s:Shared) (l:List (Int×Tok)),n-i=k->i<=n->St i s->iq w s.heap S l->l.length<=i->(∀z,z∈l.map (·.1)↔∃j,j<i/\val j=z)->
   (∀s' l',Moved (S::wr) G s s'->iq w s'.heap S l'->(∀z,z∈l'.map (·.1)↔∃j,j<n/\val j=z)->R (.ok (.ret .none)) s')->
   codeAny (model P w) A (.builtin "set.update.loop" ⟨[.ref S,.ref I],[]⟩) R s:=by
 have nw:S∉wr:=λz=>Qt (W.sub _ z)
 have up:∀b∈wr,b∈S::wr:=λb z=>dR _ z
 intro k
 induction k with
 | zero=>
  intro i s l hk hi st hS hl hm r
  obtain rfl:i=n:=by lia
  refine nQ F.entry_set_update_loop ?_
  rw[vZ yw _]
  refine aj (m:=pyNext (.ref I)) (W.done s _ _ st λs' mv=>?_)
  refine aE (r s' l (mv.mono up) (hS.at λo e=>mv.heap S o nw e) hm)
 | succ k ih=>
  intro i s l hk hi st hS hl hm r
  have lt:i<n:=by lia
  refine nQ F.entry_set_update_loop ?_
  rw[vZ yw _]
  refine aj (m:=pyNext (.ref I)) (W.item i s _ _ lt st λv s' pv yq mv=>?_)
  obtain⟨t,rfl⟩:=hval i v pv
  have K5:=hS.at (h':=s'.heap) λo e=>mv.heap S o nw e
  refine aj (m:=holding [Value.int (val i) t] (setAdd S (.int (val i) t))) (eT ?_)
  unfold setAdd
  refine eT (aj ((intKind P w).pyHash (k:=val i) (intKind_is _ _ _ _) ?_))
  refine add_int (s:={ s' with toks:=s'.toks+1 }) K5 (by lia) λh' l' b sb S2 m2 Ry=>?_
  refine aE ⟨uk yw _,ih (i+1) _ l' (by lia) lt (W.frame _ s' _ _ yq (jq _) λc hc o e=>?_) S2 (by lia) (λz=>?_) λs2 l2 mv2 S3 m3=>?_⟩
  ·rw[sb.2 c (λq:c=S=>Qt (by rw[<-q];exact hc))];exact e
  ·rw[m2 z,hm z]
   constructor
   ·rintro(⟨j,hj,e⟩ | e)
    ·exact⟨j,by lia,e⟩
    ·exact⟨i,by lia,e.symm⟩
   ·rintro⟨j,hj,e⟩
    by_cases q:j=i
    ·subst q;exact .inr e.symm
    ·exact .inl ⟨j,by lia,e⟩
  ·refine r s2 l2 (Moved.trans W.gtrans ((mv.mono up).then_heap (jq _) λc o hc e=>?_) mv2) S3 m3
   rw[sb.2 c (λq:c=S=>hc (by rw[q];exact dF))];exact e
end
theorem qI:∀{vs:List Value} {ss:List Int},IntsAre vs ss->∀(i:Nat) (v:Value),vs[i]?=some v->∃t,v=.int (ss.getD i 0) t
 | _,_,.nil,i,v,h=>by cases i <;> cases h
 | _,_,.cons y t r,0,v,h=>by cases h;exact⟨t,rfl⟩
 | _,_,.cons y t r,i+1,v,h=>by
  obtain⟨u,e⟩:=qI r i v (by simpa using h)
  exact⟨u,by rw[e];rfl⟩
section
variable {P:Program}{w:World}{A:Around}{E:Value->Shared->Prop}{s:Shared}
theorem Q0{l:Addr}{items:Array Value}{ss:List Int}{Q:Value->Shared->Prop}(hh:A.handled=none)(hl:s.heap.IsList l items)(hi:IntsAre items.toList ss)(hb:items.size+1<scanBound)
  (h:∀(h':Heap) (tk:Nat) (ls:List (Int×Tok)),iq w h' s.heap.objs.size ls->(∀z,z∈ls.map (·.1)↔z∈ss)->(∀b o,b<s.heap.objs.size->s.heap.get? b=some o->h'.get? b=some o)->Q (.ref s.heap.objs.size) { s with heap:=h',toks:=tk }) :
  wpAny (model P w) A (call (.type "set") [.ref l]) Q E s:=by
 have e:∀z:Int,(∃j,j<items.size/\ss.getD j 0=z)↔z∈ss:=λz=>by
  have hlen:items.size=ss.length:=by rw[<-eU];exact hi.length
  rw[hlen,List.mem_iff_getElem]
  constructor
  ·rintro⟨j,hj,e⟩;exact⟨j,hj,by rw[<-e];simp[hj]⟩
  ·rintro⟨j,hj,e⟩;exact⟨j,hj,by rw[<-e];simp[hj]⟩
 obtain⟨c,tl,WR⟩:=fP.mro
 have RT:=fP.made
 have RJ:=fP.sub
 refine gH (uv (aE (a:=_) ⟨uy _ (by decide +kernel),nQ PySem.F.entry_type_call ?_⟩))
 rw[Around.under_plain (weight_type_call_type "set" [.ref l] []) rfl]
 have h1:=fP.notType
 have h2:=fP.canCreate
 have hct:=PySem.F.typeCall_set_1 (.ref l)
 repeat (any_goals (first | assumption | wp_step))
 refine gI (Bj (x:=.ref l) (E:=E) (Q:=λobj s₁=>obj=.ref s.heap.objs.size/\s₁={ s with heap:=s.heap.push (dg #[] 0 (.fresh 0 0 (!nG w))) }) ⟨rfl,rfl⟩) λr s₁ hr=>?_
 cases r with
 | error e=>exact hr
 | ok fl=>
  cases fl with
  | ret obj=>
   obtain⟨rfl,rfl⟩:=hr
   have hS:(s.heap.push (dg #[] 0 (.fresh 0 0 (!nG w)))).get? s.heap.objs.size=some (dg #[] 0 (.fresh 0 0 (!nG w))):=eG _ rfl
   have hT:Shared.TypeIs { s with heap:=s.heap.push (dg #[] 0 (.fresh 0 0 (!nG w))) } (.ref s.heap.objs.size) "set":=⟨_,hS,rfl⟩
   have hli:=fP.init.lookup
   have hbi:=fP.init.bind (.ref s.heap.objs.size)
   repeat (any_goals (first | assumption | wp_step))
   refine gI (sI (R:=wants (λr s₂=>r=.none/\∃h' tk ls,s₂={ s with heap:=h',toks:=tk }/\iq w h' s.heap.objs.size ls/\(∀z,z∈ls.map (·.1)↔z∈ss)/\
     (∀b o,b<s.heap.objs.size->s.heap.get? b=some o->h'.get? b=some o)) E) fP.init.plain PySem.F.entry_set_init (check_set_init_1 hT ?_)) λr₂ s₂ O0=>?_
   ·obtain⟨ol,KS,zU,nl,K3⟩:=hl
    obtain⟨VJ,Hm,Rr,zk⟩:=ol
    simp only at zU K3
    subst zU;subst K3
    have O7:(s.heap.push (dg #[] 0 (.fresh 0 0 (!nG w)))).get? l=some { cls:=.type "list",dict:=Hm,data:=.seq items nl,slots:=zk }:=bC _ KS
    have Wx:=PySem.F.sub_list_set
    have Wy:=PySem.F.sub_list_frozenset
    have o6:(Value.type "list" == Value.type "dict")=false:=by decide
    have R0:(s.heap.push (dg #[] 0 (.fresh 0 0 (!nG w)))).IsList l items:=⟨_,O7,rfl,nl,rfl⟩
    unfold Builtin.«set.__init__» noKeywords Builtin.Frozenset.updateFrom
    unfold dg at *
    generalize Xk:pyIter=PI
    wp_walk
    subst Xk
    refine pI R0 (aj (uq ?_))
    have RZ:l<s.heap.objs.size:=bf KS
    have W0:A.in1.in1.in1.handled=none:=by simp[hh]
    have hsz:(s.heap.push (dg #[] 0 (.fresh 0 0 (!nG w)))).objs.size=s.heap.objs.size+1:=nP _ _
    have O':l≠(s.heap.push (dg #[] 0 (.fresh 0 0 (!nG w)))).objs.size:=by rw[hsz];exact bj (nX RZ)
    have Qt:s.heap.objs.size∉[(s.heap.push (dg #[] 0 (.fresh 0 0 (!nG w)))).objs.size,l]:=by
     rw[hsz];simp only[ck,di,lY,or_false,not_or];exact⟨bj (pM _),js RZ⟩
    refine xj ((Walks.list W0 _ l O' items).toS) s.heap.objs.size Qt (λj=>ss.getD j 0) (λi v hv=>?hv) hb (items.size-0) 0 _ [] (by lia) (gd _)
     ⟨⟨_,eG _ rfl,rfl,rfl⟩,(R0.push _)⟩ ?hS0 (gd _) (λz=>⟨(λz=>nomatch z),λ⟨_,hj,_⟩=>absurd hj (Nat.not_lt_zero _)⟩) ?hR
    case hv=>exact qI hi i v (by rw[sL];exact hv)
    case hS0=>exact⟨⟨#[],0,_,bC _ hS,rfl,rfl,rfl,List.Pairwise.nil⟩,List.nodup_nil,by decide⟩
    case hR=>
     intro s' l' hm K5 mem
     obtain⟨h',g',d',QG,Rn⟩:=s'
     have eg:g'=s.gens:=hm.gens
     have ed:d'=s.drawn:=hm.drawn
     have eo:Rn=s.os:=hm.os
     subst eg;subst ed;subst eo
     refine aE (aE ⟨rfl,h',QG,l',rfl,K5,λz=>(mem z).trans (e z),λb o hb e=>?_⟩)
     refine hm.heap b o ?_ (bC _ (bC _ e))
     rw[hsz]
     simp only[ck,di,lY,or_false,not_or];exact⟨bj hb,bj (nX hb)⟩
   ·cases r₂ with
    | error e=>exact O0
    | ok XB=>
     cases XB with
     | ret r=>
      obtain⟨rfl,h',tk,ls,rfl,K5,KZ,Pa⟩:=O0
      repeat (any_goals (first | assumption | wp_step))
      exact h _ _ _ K5 KZ Pa
     | _=>exact O0.elim
  | _=>exact hr.elim
end
section
variable {P:Program}{w:World}{A:Around}{E:Value->Shared->Prop}{s:Shared}{a:Addr}{l:List (Int×Tok)}
theorem iq.typeIs(S:iq w s.heap a l):s.TypeIs (.ref a) "set":=let ⟨_,_,_,e,_⟩:=S.ex;⟨_,e,rfl⟩
def CJ(P:Program)(w:World)(z:Nat)(a:Addr)(l:List (Int×Tok))(I:Addr)(s':Shared):Prop:=
 ∃(ord:List Value) (fp:List Addr) (St:Nat->Shared->Prop),(∀B:Around,B.handled=none->WalksS P w B I fp [I] (λx y=>y=x) l.length (λi v=>ord[i]?=some v) St)/\St 0 s'/\
  (∀b∈fp,b<s'.heap.objs.size/\(b=a\/z<=b))/\I∈fp/\ord.Perm (l.map λp=>Value.int p.1 p.2)
end
section
variable {P:Program}{w:World}{A:Around}{E:Value->Shared->Prop}{s:Shared}{a:Addr}{es:Array (Int×Value)}{t:SetTable}{ep slot i:Nat}
theorem zA{Q:Option (Value×Nat)->Shared->Prop}(hb:nG w=false)(hl:t.led=true)(d:(!t.plain&&decide (es.size > 1))=false)(hS:s.heap.get? a=some (dg es ep t))(hf:t.fits es.size=true)
  (q:Q (match es[SetTable.below t.place slot]?,t.place[SetTable.below t.place slot]? with | some (_,x),some j=>some (x,j+1) | _,_=>none) s):wpAny (model P w) A (setNext a slot i ep) Q E s:=by
 unfold setNext
 refine aj (sC hS rfl hf (aj (jb ?_)))
 rw[hb]
 dsimp only
 rw[aB (by simp)]
 show wpAny _ _ (if (!t.plain&&decide (es.size > 1))=true then _ else _) _ _ _
 rw[d,aB (by simp)]
 show wpAny _ _ ((if (!t.led && !es.isEmpty)=true then _ else _) >>= _) _ _ _
 rw[hl,Bool.not_true,Bool.false_and,aB (by simp)]
 exact aj (aE (aE q))
end
section
variable {P:Program}{w:World}{A:Around}{E:Value->Shared->Prop}{s:Shared}{a:Addr}{l:List (Int×Tok)}
theorem Dk{Q:Value->Shared->Prop}(S:iq w s.heap a l)
  (q:∀I s',s.heap.objs.size<=I->(∀b o,s.heap.get? b=some o->s'.heap.get? b=some o)->s'.gens=s.gens->s'.os=s.os->CJ P w s.heap.objs.size a l I s'->Q (.ref I) s'):wpAny (model P w) A (pyIter (.ref a)) Q E s:=by
 obtain⟨⟨es,ep,t,ho,Mu,hf,HR,jo⟩,nd,sz⟩:=id S
 have hsz:es.size=l.length:=by rw[<-eU,Mu,bN]
 have hval:es.toList.map (·.2)=l.map λp=>Value.int p.1 p.2:=by rw[Mu,jr];rfl
 have lt:a<s.heap.objs.size:=bf ho
 refine wpAny_pyIter_slot S.typeIs PySem.F.slot_set_iter (kz PySem.F.slot_set_iter S.typeIs rL ?_ (PySem.F.args_set_iter_1 _))
 unfold Builtin.«frozenset.__iter__»
 refine aj (m:=Builtin.Frozenset.slot0 "__iter__" ⟨[.ref a],[]⟩) (lq (a:=a) rfl ?_)
 unfold Builtin.Frozenset.sizeOf
 refine aj (aj (yv ho rfl hf (aE ?_)))
 unfold setDrawn
 refine aj (aj (sC ho rfl hf (aj (jb (aE ?_)))))
 have last:∀(first:Value) (s1:Shared),s1.heap.get? a=some (dg es ep t)->(∀b o,s.heap.get? b=some o->s1.heap.get? b=some o)->s.heap.objs.size<=s1.heap.objs.size->s1.gens=s.gens->s1.os=s.os->
   (∀s',s'.heap.get? s1.heap.objs.size=some (kO first 0 es.size ep a)->(∀b o,s1.heap.get? b=some o->s'.heap.get? b=some o)->CJ P w s.heap.objs.size a l s1.heap.objs.size s')->
   wpAny (model P w) A.in1 (do let e <-setEpoch a;let v <-newFields "set_iterator" [first,rawInt 0,Value.ref a,rawInt es.size,rawInt e];ret v) (λfin s'=>∃v,fin=Fin.done (Flow.ret v)/\∃T' r,s'.TypeIs v T'/\typeLookup (Value.type T') (Str.ofString "__next__")=pure (some r)/\Q v s') E s1:=by
  intro first s1 h1 k1 z1 g1 o1 hw
  refine aj (wpAny_setEpoch_of h1 rfl hf ?_)
  unfold newFields
  refine aj (eK ?_ (by size_fits))
  have hI:(s1.heap.push { cls:=.type "set_iterator",data:=.fields [first,rawInt 0,Value.ref a,rawInt es.size,rawInt ep].toArray }).get? s1.heap.objs.size=some (kO first 0 es.size ep a):=eG _ rfl
  refine aE ⟨_,rfl,"set_iterator",_,⟨_,hI,rfl⟩,dq.lookup,q _ _ z1 (λb o e=>bC _ (k1 b o e)) g1 o1 (hw _ hI λb o e=>bC _ e)⟩
 show wpAny _ _ (if (!nG w&&(!t.plain&&decide (es.size > 1)))=true then _ else _) _ _ _
 by_cases hd:(!nG w&&(!t.plain&&decide (es.size > 1)))=true
 ·rw[aC hd]
  refine aj (tX es.size (List.range es.size) _ _ (by simp) λys d hp=>?_)
  have T2:ys.length=es.size:=by rw[hp.length_eq,List.length_range]
  refine aj (wpAny_newTuple ?_ (by rw[bN,T2,hsz];exact ux sz))
  refine last (.ref s.heap.objs.size) _ (bC _ ho) (λb o e=>bC _ e) (by show _<=(Heap.push _ _).objs.size;rw[nP];exact jq _) rfl rfl λs' hI k=>?_
  have e1:(Heap.push s.heap { cls:=.type "tuple",data:=.seq (ys.map λ(i:Nat)=>rawInt i).toArray }).objs.size=s.heap.objs.size+1:=nP _ _
  have Z8:=k s.heap.objs.size _ (eG _ rfl)
  have Mv:=k a _ (bC _ ho)
  have lts:∀j∈ys,j<es.size:=λj hj=>List.mem_range.mp (hp.mem_iff.mp hj)
  refine⟨ys.map λj=>(es.toList.map (·.2)).getD j .none,_,_,λC hC=>De (n:=l.length) (pl:=ys) (c:=0) (p:=s.heap.objs.size) (es:=es) (t:=t) (ep:=ep) (a:=a) hC (by rw[e1];exact bj (nX lt)) (by rw[e1];exact bj (pM _)) hf hsz (by rw[bN,T2,hsz]) (by rw[T2,hsz]) λi hi=>?_,⟨by rw[<-hsz];exact hI,Mv,Z8⟩,?_,by simp,?_⟩
  ·have Mr:i<ys.length:=by rw[T2,hsz];exact hi
   have hk:=lts ys[i] (List.getElem_mem Mr)
   refine⟨ys[i],es[ys[i]].1,es[ys[i]].2,eI Mr,hJ hk,?_⟩
   rw[fB,eI Mr,Option.map_some,List.getD_eq_getElem?_getD,fB,sL,hJ hk]
   rfl
  ·intro b hb
   simp only[ck,lY,or_false]at hb
   rcases hb with rfl | rfl | rfl
   ·exact⟨bf hI,.inr (by rw[e1];exact jq _)⟩
   ·exact⟨bf Mv,.inl rfl⟩
   ·exact⟨bf Z8,.inr (bu _)⟩
  ·rw[<-hval]
   refine(hp.map _).trans ?_
   rw[show(List.range es.size).map (λj=>(es.toList.map (·.2)).getD j .none)=es.toList.map (·.2) from ?_]
   refine uC λi=>?_
   by_cases hi:i<es.size
   ·simp[hi]
   ·simp[hi]
 ·rw[aB hd]
  refine aj (aE ?_)
  refine last (rawInt 0) s ho (λ_ _ e=>e) (bu _) rfl rfl λs' hI k=>?_
  have Mv:=k a _ ho
  have Ub:∀b∈[s.heap.objs.size,a],b<s'.heap.objs.size/\(b=a\/s.heap.objs.size<=b):=λb hb=>by
   simp only[ck,lY,or_false]at hb
   rcases hb with rfl | rfl
   ·exact⟨bf hI,.inr (bu _)⟩
   ·exact⟨bf Mv,.inl rfl⟩
  cases hb:nG w with
  | true=>
   refine⟨(pickOrder (w.params.setOrder a ep) es).toList.map (·.2),_,_,λC hC=>tj (n:=l.length) (es:=es) (t:=t) (ep:=ep) (a:=a) (λ_=>0) hC (bj lt) hf hsz (by rw[bN,(tH _ es).length_eq,eU,hsz]) λi _ s1 C' E' Q' h1 hq=>?_,⟨by rw[<-hsz];exact hI,Mv⟩,Ub,by simp,?_⟩
   ·refine w5 hb h1 hf ?_
    rw[fB,sL,Option.map_map]at hq
    exact hq
   ·rw[<-hval];exact(tH _ es).map _
  | false=>
   have led:t.led=true:=by rw[HR,hb];rfl
   have hpz:t.place.size=es.size:=by
    unfold SetTable.fits at hf
    rw[eJ]at hf
    exact eq_of_beq hf.1
   have dr:(!t.plain&&decide (es.size > 1))=false:=by rw[hb]at hd;simpa using hd
   refine⟨es.toList.map (·.2),_,_,λC hC=>tj (n:=l.length) (es:=es) (t:=t) (ep:=ep) (a:=a) (iG t.place) hC (bj lt) hf hsz (by rw[bN,eU,hsz]) λi hi s1 C' E' Q' h1 hq=>?_,⟨by rw[<-hsz];exact hI,Mv⟩,Ub,by simp,by rw[hval]⟩
   refine zA hb led dr h1 hf ?_
   rw[below_at jo (by lia)]
   rw[fB,sL]at hq
   by_cases h2:i<es.size
   ·rw[hJ h2]at hq ⊢
    rw[hJ (show i<t.place.size by lia)]
    have e:iG t.place (i+1)=t.place[i]'(by lia)+1:=by
     unfold iG
     rw[aB (by lia),Nat.add_sub_cancel,nZ,hJ (show i<t.place.size by lia)]
     rfl
    rw[e]at hq
    exact hq
   ·rw[Array.getElem?_eq_none (by lia)]at hq ⊢
    exact hq
theorem vJ{Q:List Value->Shared->Prop}(hh:A.handled=none)(S:iq w s.heap a l)
  (q:∀(s':Shared) (vs:List Value),(∀b o,s.heap.get? b=some o->s'.heap.get? b=some o)->s.heap.objs.size<=s'.heap.objs.size->s'.gens=s.gens->s'.os=s.os->vs.Perm (l.map λp=>Value.int p.1 p.2)->Q vs s'):wpAny (model P w) A (collect (.ref a)) Q E s:=by
 have lt:a<s.heap.objs.size:=let ⟨_,_,_,e,_⟩:=S.ex;bf e
 unfold collect
 refine aj (uq (nQ entry_proto_collect' ?_))
 rw[vZ PySem.F.plain_proto_collect _]
 refine aj (m:=newList []) (eK ?_)
 refine aE ⟨uk PySem.F.plain_list_iadd _,nQ entry_list_iadd' ?_⟩
 rw[vZ PySem.F.plain_list_iadd _]
 let L0:Obj:={ cls:=.type "list",data:=.seq ([]:List Value).toArray }
 have k0:∀b o,s.heap.get? b=some o->(s.heap.push L0).get? b=some o:=λb o e=>bC _ e
 have hL:(s.heap.push L0).get? s.heap.objs.size=some L0:=eG _ rfl
 have S0:iq w (s.heap.push L0) a l:=S.at λo e=>k0 a o e
 show wpAny _ A.in1 (Builtin.List.listExtendWith (.ref s.heap.objs.size) (.ref a) (.ref s.heap.objs.size)) _ _ { s with heap:=s.heap.push L0 }
 unfold Builtin.List.listExtendWith
 refine aj (pB (T:="set") (iq.typeIs (s:={ s with heap:=s.heap.push L0 }) S0) ?_)
 have h1:Builtin.List.listSameRef (.ref s.heap.objs.size) (.ref a)=false:=by simp[Builtin.List.listSameRef,js lt]
 have h2:(Value.type "set" == Value.type "list")=false:=by decide
 have h3:(Value.type "set" == Value.type "tuple")=false:=by decide
 simp only[h1,h2,h3,Bool.or_false,uD,lh]
 refine aj (Dk (s:={ s with heap:=s.heap.push L0 }) S0 λI s1 zI k1 g1 o1 W=>?_)
 have S1:iq w s1.heap a l:=S0.at λo e=>k1 a o e
 have Pt:=k1 _ _ hL
 have o6:s.heap.objs.size≠I:=by
  have:(s.heap.push L0).objs.size<=I:=zI
  rw[nP]at this
  exact bj this
 refine aj (eT (Gk (iq.typeIs S1) ?_))
 obtain⟨ord,fp,St,wk,st,Ub,mI,po⟩:=W
 have hlen:l.length<=sizeLine:=ux S.sz
 have z1:(s.heap.push L0).objs.size=s.heap.objs.size+1:=nP _ _
 have nf:s.heap.objs.size∉fp:=λz=>by
  rcases(Ub _ z).2 with e | e
  ·exact absurd e (js lt)
  ·have e':(s.heap.push L0).objs.size<=s.heap.objs.size:=e
   rw[z1]at e'
   exact absurd e' (Nat.not_succ_le_self _)
 refine m6 (λ_=>?_) (λz=>absurd (by decide +kernel) z)
 refine aj (lj (aj ?_))
 show wpAny _ _ (updateSeq s.heap.objs.size (·.push .none) >>= λ_=>updateSeq s.heap.objs.size (·.pop)) _ _ _
 refine aj (wpAny_updateSeq Pt rfl ?_)
 have hL2:=jt (Obj.mapSeq (·.push Value.none)) Pt rfl
 refine wpAny_updateSeq (hz:=by seq_fits) hL2 rfl ?_
 have Xn:=jt (Obj.mapSeq (·.pop)) hL2 rfl
 have Oa:∀b o,b≠s.heap.objs.size->s1.heap.get? b=some o->((s1.heap.update s.heap.objs.size (Obj.mapSeq (·.push Value.none))).update s.heap.objs.size (Obj.mapSeq (·.pop))).get? b=some o:=
  λb o hb e=>(jl _ _ (eV hb)).trans ((jl _ _ (eV hb)).trans e)
 have W1:=wk A.in1 hh
 refine aE ⟨uk PySem.F.plain_extend_loop _,codeAny_extend_loopS W1 hlen _ nf _ l.length 0 _ #[] _ rfl (gd _) (W1.frame 0 s1 _ s1.toks st (bu _) λb hb o e=>Oa b o (λz=>nf (z ▸ hb)) e) Xn (ItemsOf.nil _) λs2 acc c2 mv hS2 zV=>?_⟩
 refine aj (m:=load s.heap.objs.size) (wpAny_load hS2 (aE ?_))
 refine q s2 acc.toList (λb o e=>mv.heap b o (λhm=>?_) (Oa b o (bj (bf e)) (k1 b o (k0 b o e)))) (lu (bf hS2)) (mv.gens.trans g1) (mv.os.trans o1) ?_
 ·have kc:b<s.heap.objs.size:=bf e
  rcases ck.mp hm with e1 | e1
  ·exact absurd e1 (bj kc)
  ·rw[di.mp e1]at kc
   have:(s.heap.push L0).objs.size<=I:=zI
   rw[z1]at this
   exact absurd (eF kc (Nat.le_of_succ_le this)) (gJ _)
 ·have e:acc.toList=ord:=by
   refine uC λj=>?_
   by_cases hj:j<l.length
   ·have h0:j<acc.size:=by rw[zV.1];exact hj
    have h1:acc[j]?=some acc[j]:=hJ h0
    rw[sL,h1,zV.2 j _ h1]
   ·rw[px (by rw[eU,zV.1];lia),px (by rw[po.length_eq,bN];lia)]
  rw[e];exact po
theorem zQ{vs:List Value}{l:List (Int×Tok)}(po:vs.Perm (l.map λp=>Value.int p.1 p.2)):∃ts,IntsAre vs ts/\ts.Perm (l.map (·.1)):=by
 have:∃l':List (Int×Tok),vs=l'.map (λp:Int×Tok=>Value.int p.1 p.2)/\l'.Perm l:=by
  let back:Value->Int×Tok:=λe=>match e with | .int x t=>(x,t) | _=>(default,0)
  refine⟨vs.map back,?_,?_⟩
  ·rw[jr]
   conv=>lhs;rw[<-uj vs]
   refine v3 λe he=>?_
   obtain⟨z,_,rfl⟩:=jk.mp (po.mem_iff.mp he)
   rfl
  ·have:=po.map back
   rw[jr,show(back ∘ λp:Int×Tok=>Value.int p.1 p.2)=id from rfl,uj]at this
   exact this
 obtain⟨l',rfl,pl⟩:=this
 refine⟨l'.map (·.1),?_,pl.map _⟩
 clear po pl
 induction l' with
 | nil=>exact .nil
 | cons p l' ih=>exact .cons p.1 p.2 ih
theorem y8{x:Value}{us:List Int}{Q:Value->Shared->Prop}(h64:us.length<64)
  (hc:∀(Q':List Value->Shared->Prop),(∀(s':Shared) (vs:List Value) (ts:List Int),(∀b o,s.heap.get? b=some o->s'.heap.get? b=some o)->s.heap.objs.size<=s'.heap.objs.size->s'.gens=s.gens->s'.os=s.os->IntsAre vs ts->ts.Perm us->Q' vs s')->wpAny (model P w) A.in1 (collect x) Q' E s)
  (q:∀(s':Shared) (D c:Nat) (vs:List Value) (ss:List Int),(∀b o,s.heap.get? b=some o->s'.heap.get? b=some o)->s.heap.objs.size<=D->s'.gens=s.gens->s'.os=s.os->s'.heap.get? D=some { cls:=.type "list",data:=.seq vs.toArray c }->IntsAre vs ss->
   ss.Perm us->ss.Pairwise (·<=·)->Q (.ref D) s'):wpAny (model P w) A (call (.builtin "sorted") [x]) Q E s:=by
 refine Calls.call_function_entry kind_sorted plain_sorted entry_sorted (args_sorted1 _) ?_
 unfold Builtin.«sorted»
 refine aj (m:=checkCount "sorted" 1 1 _) (aE ?_)
 refine aj (hc _ λs1 vs ts k1 old g1 o1 Z0 Y5=>?_)
 have hl:vs.length=us.length:=by rw[Z0.length,Y5.length_eq]
 refine aj (wpAny_newList ?_ (by rw[hl];exact iF (by lia)))
 have RP:(s1.heap.push (seqObj "list" vs.toArray 0)).get? s1.heap.objs.size=some (seqObj "list" vs.toArray 0):=eG _ rfl
 refine aj (eT (kz slot_list_sort ⟨_,RP,rfl⟩ entry_list_sort (list_sort_tree RP Z0 (by lia) λout ss' e1 e2 e3=>⟨_,rfl,?_⟩) (args_list_sort _)))
 obtain⟨c,hc⟩:=sortedHeap_at (out:=out) RP
 refine aE ⟨_,rfl,q _ s1.heap.objs.size c out.toList ss' (λb o e=>?_) old g1 o1 (by rw[hc]) e1 (e2.trans Y5) e3⟩
 have lt:=bf (k1 b o e)
 show(sortedHeap _ _ _ _).get? b=some o
 rw[sortedHeap_old (bj lt) (by rw[size_push'];exact nX lt)]
 exact bC _ (k1 b o e)
end
def Ti(w:World)(p:Addr)(ss:List Int):HO:=.ext λh=>∃l,iq w h p l/\∀z,z∈l.map (·.1)↔z∈ss
section
variable {X:Cx}
def wO(w:World):List V->Hp->VK->Prop:=λvs H Q=>∃a ss,vs=[.ref a]/\H a=some (Ti w a ss)/\ss.length<64/\
 ∀ss':List Int,(∀z,z∈ss'↔z∈ss)->ss'.Pairwise (· < ·)->∀p,H p=none->Q (.ref p) (upd H p (.lst (ss'.map V.int)))
theorem zF{l:List Int}(n:l.Nodup)(h:l.Pairwise (·<=·)):l.Pairwise (· < ·):=(List.Pairwise.and n h).imp λ⟨a,b⟩=>by lia
theorem oO(hh:X.A.handled=none):cD X (.builtin "sorted") (wO X.w):=by
 intro pins s σ H vs us Q I rv h
 obtain⟨a,ss,rfl,hq,hn,q⟩:=h
 obtain⟨u,rfl,ru⟩:=vals1 rv
 cases ru
 obtain⟨⟨l,hS,hm⟩,_,_⟩:=I.bp a _ hq
 have hl:(l.map (·.1)).length<=ss.length:=tM hS.nd λx hx=>(hm x).mp hx
 refine y8 (us:=l.map (·.1)) (by lia) (λQ' hQ'=>vJ (A:=X.A.in1) hh hS λs' vs k z g o po=>let ⟨ts,h1,h2⟩:=zQ po;hQ' s' vs ts k z g o h1 h2) λs' D c vs ss' k z g o hD Jw Vh srt=>?_
 have Mq:H D=none:=I.bp.fresh z
 have I1:Inv X pins σ (upd H D (.lst (ss'.map V.int))) { s with heap:=s'.heap,toks:=s.toks }:=I.laid k z ⟨by rw[bN,Vh.length_eq];exact iF (by lia),vs,c,ng Jw,hD⟩
 refine⟨.ref D,_,I1.same rfl g o,rfl,q ss' (λz=>(Vh.mem_iff).trans (hm z)) (zF (Vh.nodup_iff.mpr hS.nd) srt) _ Mq⟩
def GD(w:World):List V->Hp->VK->Prop:=λvs H Q=>∃a,vs=[.ref a]/\∃ss:List Int,H a=some (.lst (ss.map V.int))/\ss.length<4000/\∀p,H p=none->Q (.ref p) (upd H p (Ti w p ss))
def j9(w:World):List V->Hp->VK->Prop:=λvs H Q=>∃a,vs=[.ref a]/\∃ss:List Int,H a=some (Ti w a ss)/\ss.length<64/\
 ∀ss':List Int,(∀z,z∈ss'↔z∈ss)->ss'.Pairwise (· < ·)->∀p,H p=none->Q (.ref p) (upd H p (.lst (ss'.map V.int)))
theorem qX(hh:X.A.handled=none):cD X (.builtin "sorted") (j9 X.w):=(oO hh).imp λx H Q ⟨p,e,ss,h,n,q⟩=>⟨p,ss,e,h,n,q⟩
end
end L2
end
section
namespace HT
open PySem PyProof.Rows L2
section
variable {prog:Program}{w:World}{A:Around}{E:Value->Shared->Prop}{s:Shared}
theorem ku{t sl:Addr}{items:Array Value}{vl vu:Value}{lo hi:Option Int}{Q:Value->Shared->Prop}(ht:IsTup s.heap t items)(hs:s.heap.IsSliceOf sl vl vu .none)(pl:IsPart vl lo)(pu:IsPart vu hi)
  (h1:cy items.size 0 lo=0) (h2:cy items.size items.size hi=items.size) (h:Q (.ref t) s):wpAny (model prog w) A (getItem (.ref t) (.ref sl)) Q E s:=by
 obtain⟨os,O6,T4,R6⟩:=id hs
 have Xg:s.TypeIs (.ref sl) "slice":=⟨os,O6,T4⟩
 unfold getItem
 try with_reducible refine eT ?_
 first | refine aj (aE ?_) | skip
 refine aj (wpAny_sequenceKey ht.typeIs (by decide) ?_)
 refine aj (pA (name:=Str.ofString "__getitem__") ht.typeIs sM
  (kz sM ht.typeIs entry_tuple_getitem ?_ (args_tuple_getitem _ _)))
 show wpAny _ _ (Builtin.Tuple.tupleItemsOf (.ref t) >>= _) _ _ s
 refine aj (tupleItemsOf_ ht ?_)
 refine aj (pB Xg ?_)
 rw[aC (by decide)]
 refine aj (hX hs pl pu ?_)
 have iT:(((cy items.size 0 lo:Nat):Int)==0&&(1:Int)==1&&(cy items.size items.size hi-cy items.size 0 lo)==items.size)=true:=by
  rw[h1,h2];simp
 show wpAny _ _ (if (((cy items.size 0 lo:Nat):Int)==0&&(1:Int)==1&&(cy items.size items.size hi-cy items.size 0 lo)==items.size)=true then _ else _) _ _ s
 rw[aC iT]
 refine aj (m:=Builtin.Tuple.tupleIsExact (.ref t)) ?_
 unfold Builtin.Tuple.tupleIsExact
 refine aj (pB ht.typeIs (aE ?_))
 rw[aC (by decide)]
 exact aj (lj (aE ⟨_,rfl,aE h⟩))
end
end HT
namespace L2
open PySem PySem.Spec PyProof.Rows
section
variable {X:Cx}
def Bn:V->Option Int->Option Int->Hp->VK->Prop:=λx lo hi H Q=>∃a,x=.ref a/\∃xs,H a=some (.tup xs)/\
 ((HT.cy xs.length 0 lo=0/\HT.cy xs.length xs.length hi=xs.length)->Q (.ref a) H)/\(¬(HT.cy xs.length 0 lo=0/\HT.cy xs.length xs.length hi=xs.length)->∀p,H p=none->Q (.ref p) (upd H p (.tup (gF xs lo hi))))
theorem QZ:JD X Bn:=by
 intro pins s σ H x v vl vu lo hi sl Q I rx hs pl pu h
 obtain⟨a,rfl,xs,hx,q1,q2⟩:=h
 by_cases hw:HT.cy xs.length 0 lo=0/\HT.cy xs.length xs.length hi=xs.length
 ·cases rx
  obtain⟨its,r,ht,hz⟩:=I.tuple (bG hx)
  have hlen:its.toArray.size=xs.length:=by rw[dE];exact r.length.symm
  refine⟨"tuple",_,sM.lookup,ht.typeIs,?_⟩
  exact HT.ku ht hs pl pu (by rw[hlen];exact hw.1) (by rw[hlen];exact hw.2) ⟨.ref a,H,I,rfl,q1 hw⟩
 ·exact Ux pins s σ H _ v vl vu lo hi sl Q I rx hs pl pu ⟨a,rfl,xs,hx,hw,q2 hw⟩
end
section
variable {X:Cx}{pins:List (Addr×Obj)}{s:Shared}{σ:St}{H:Hp}
def Nv(neg:Bool):R2:=λx y H Q=>∃a L,x=.ref a/\y=.ref L/\∃u bs ts,H a=some (.tup (List.map V.int u))/\H L=some (.lst (List.map V.ref bs))/\bM H bs ts/\Q (.bl (if neg then !decide (u∈ts) else decide (u∈ts))) H
end
def ky{δ:Type}(Rep:Hp->V->δ->Prop)(H:Hp)(vs:List V)(ds:List δ):Prop:=vs.length=ds.length/\∀(i:Nat) v d,vs[i]?=some v->ds[i]?=some d->Rep H v d
theorem ky.nil{δ:Type}{Rep:Hp->V->δ->Prop}{H:Hp}:ky Rep H [] []:=⟨rfl,λi v d h=>by simp at h⟩
theorem ky.snoc{δ:Type}{Rep:Hp->V->δ->Prop}{H:Hp}{vs:List V}{ds:List δ}{v:V}{d:δ}(h:ky Rep H vs ds)(hv:Rep H v d):ky Rep H (vs++[v]) (ds++[d]):=by
 refine⟨by rw[eL,eL,h.1];rfl,λi u e hu he=>?_⟩
 have hl:=h.1
 by_cases hi:i<vs.length
 ·rw[nY hi]at hu
  rw[nY (by lia)]at he
  exact h.2 i u e hu he
 ·rw[mj (by lia)]at hu
  rw[mj (by lia),<-hl]at he
  have h0:i-vs.length=0:=by
   cases z:i-vs.length with
   | zero=>rfl
   | succ n=>rw[z]at hu;simp at hu
  rw[h0]at hu he
  cases hu;cases he
  exact hv
theorem ky.mono{δ:Type}{Rep:Hp->V->δ->Prop}{H H':Hp}{vs:List V}{ds:List δ}(k:∀v d,Rep H v d->Rep H' v d)(h:ky Rep H vs ds):ky Rep H' vs ds:=⟨h.1,λi v d a b=>k v d (h.2 i v d a b)⟩
theorem j7{δ:Type}(f:Nat->Option δ)(i:Nat):(List.range (i+1)).filterMap f=(List.range i).filterMap f++(f i).toList:=by
 rw[List.range_succ,List.filterMap_append]
 cases e:f i <;> simp[e]
theorem Ij{δ:Type}(f:Nat->Option δ)(i:Nat):((List.range i).filterMap f).length<=i:=fz (List.length_filterMap_le _ _) (by rw[List.length_range];exact bu _)
theorem Ab{K:PySem.W.Frag}{a:Addr}{zs:List V}{idx:List Nat}{tt:CB->TT}{te:CB->TE}{σ:St}{Q:VK}{H1:Hp}{δ:Type}(S:Hp->Hp->Prop)(f:Nat->Option δ)(Rep:Addr->Hp->V->δ->Prop)(sr:S H1 H1)(st:∀H H',S H1 H->S H H'->S H1 H')
  (sp:∀D H o,H1 D=none->S H1 H->S H1 (upd H D o)) (sk:∀D H H' o,H1 D=none->S H1 H->S H H'->H D=some o->H' D=some o)
  (mono:∀D H H' v d,S H1 H->S H H'->Rep D H v d->Rep D H' v d) (zB:∀D H o v d,H1 D=none->S H1 H->(∃xs,H D=some (.lst xs))->Rep D H v d->Rep D (upd H D o) v d)
  (hL:∀H,S H1 H->H a=some (.lst zs)) (l9:zs.length<=900000)
  (hs:∀(D:Addr) (c:CB) (H:Hp) (i:Nat) (z:V) (yes:V->Hp->Prop) (no:Hp->Prop),zs[i]?=some z->S H1 H->H1 D=none->(∃xs,H D=some (.lst xs))->(∀d,f i=some d->∀v H',S H H'->Rep D H' v d->yes v H')->(f i=none->∀H',S H H'->no H')->tt c (some (z)::bz σ idx) H λb H4=>if b=true then te c (some (z)::bz σ idx) H4 yes else no H4)
  (q:∀D H' vs,S H1 H'->H1 D=none->H' D=some (.lst vs)->ky (Rep D) H' vs ((List.range (zs.length)).filterMap f)->Q (.ref D) H'):gP (Am K a) 1 idx (λ_=>cP 0) tt te σ Q H1:=by
 obtain⟨Pc,iV⟩:∃Pc:Addr->Nat->List V->Hp->Prop,∀Z i ys H',Pc Z i ys H'↔S H1 H'/\H' Z=some (.lst ys)/\ky (Rep Z) H' ys ((List.range i).filterMap f):=⟨_,λ_ _ _ _=>fw⟩
 refine vI Pc (λZ hZ=>(iV _ _ _ _).mpr ⟨sp Z _ _ hZ sr,ak,.nil⟩) (λZ hZ i ys H' _ pv=>hL H' ((iV _ _ _ _).mp pv).1) (λZ hZ i z ys H' hz pv cb=>?_) (λZ hZ ys H' pv=>?_)
 ·obtain⟨s1,nB,rl⟩:=(iV _ _ _ _).mp pv
  have hi:i<zs.length:=(fQ.mp hz).1
  refine hs Z cb H' i z _ _ hz s1 hZ ⟨_,nB⟩ (λd hd v H2 s2 hv=>?_) (λhn H2 s2=>?_)
  ·refine⟨sk Z _ _ _ hZ s1 s2 nB,?_,(iV _ _ _ _).mpr ⟨sp Z _ _ hZ (st _ _ s1 s2),ak,?_⟩⟩
   ·rw[rl.1]
    have:=Ij f i
    exact sG (by lia:((List.range i).filterMap f).length<=1000000) (by decide)
   ·rw[j7,hd]
    exact(((rl.mono λv d=>mono Z _ _ v d s1 s2)).snoc hv).mono λv d=>zB Z H2 _ v d hZ (st _ _ s1 s2) ⟨_,sk Z _ _ _ hZ s1 s2 nB⟩
  ·refine(iV _ _ _ _).mpr ⟨st _ _ s1 s2,sk Z _ _ _ hZ s1 s2 nB,?_⟩
   rw[j7,hn,Option.toList_none,gh]
   exact rl.mono λv d=>mono Z _ _ v d s1 s2
 ·obtain⟨s1,nB,rl⟩:=(iV _ _ _ _).mp pv
  exact q Z H' ys s1 hZ nB rl
theorem En{K:PySem.W.Frag}{a:Addr}{zs:List V}{idx:List Nat}{tt:CB->TT}{te:CB->TE}{σ:St}{Q:VK}{H1:Hp}{δ:Type}(S:Hp->Hp->Prop)(f:Nat->Option δ)(Rep:Addr->Hp->V->δ->Prop)(sr:S H1 H1)(st:∀H H',S H1 H->S H H'->S H1 H')
  (sp:∀D H o,H1 D=none->S H1 H->S H1 (upd H D o)) (sk:∀D H H' o,H1 D=none->S H1 H->S H H'->H D=some o->H' D=some o)
  (mono:∀D H H' v d,S H1 H->S H H'->Rep D H v d->Rep D H' v d) (zB:∀D H o v d,H1 D=none->S H1 H->(∃xs,H D=some (.lst xs))->Rep D H v d->Rep D (upd H D o) v d)
  (hL:∀H,S H1 H->H a=some (.tup zs)) (l9:zs.length<=900000)
  (hs:∀(D:Addr) (c:CB) (H:Hp) (i:Nat) (z:V) (yes:V->Hp->Prop) (no:Hp->Prop),zs[i]?=some z->S H1 H->H1 D=none->(∃xs,H D=some (.lst xs))->(∀d,f i=some d->∀v H',S H H'->Rep D H' v d->yes v H')->(f i=none->∀H',S H H'->no H')->tt c (some (z)::bz σ idx) H λb H4=>if b=true then te c (some (z)::bz σ idx) H4 yes else no H4)
  (q:∀D H' vs,S H1 H'->H1 D=none->H' D=some (.lst vs)->ky (Rep D) H' vs ((List.range (zs.length)).filterMap f)->Q (.ref D) H'):gP (JF K a) 1 idx (λ_=>cP 0) tt te σ Q H1:=by
 obtain⟨Pc,iV⟩:∃Pc:Addr->Nat->List V->Hp->Prop,∀Z i ys H',Pc Z i ys H'↔S H1 H'/\H' Z=some (.lst ys)/\ky (Rep Z) H' ys ((List.range i).filterMap f):=⟨_,λ_ _ _ _=>fw⟩
 refine gN Pc (λZ hZ=>(iV _ _ _ _).mpr ⟨sp Z _ _ hZ sr,ak,.nil⟩) (λZ hZ i ys H' _ pv=>hL H' ((iV _ _ _ _).mp pv).1) (λZ hZ i z ys H' hz pv cb=>?_) (λZ hZ ys H' pv=>?_)
 ·obtain⟨s1,nB,rl⟩:=(iV _ _ _ _).mp pv
  have hi:i<zs.length:=(fQ.mp hz).1
  refine hs Z cb H' i z _ _ hz s1 hZ ⟨_,nB⟩ (λd hd v H2 s2 hv=>?_) (λhn H2 s2=>?_)
  ·refine⟨sk Z _ _ _ hZ s1 s2 nB,?_,(iV _ _ _ _).mpr ⟨sp Z _ _ hZ (st _ _ s1 s2),ak,?_⟩⟩
   ·rw[rl.1]
    have:=Ij f i
    exact sG (by lia:((List.range i).filterMap f).length<=1000000) (by decide)
   ·rw[j7,hd]
    exact(((rl.mono λv d=>mono Z _ _ v d s1 s2)).snoc hv).mono λv d=>zB Z H2 _ v d hZ (st _ _ s1 s2) ⟨_,sk Z _ _ _ hZ s1 s2 nB⟩
  ·refine(iV _ _ _ _).mpr ⟨st _ _ s1 s2,sk Z _ _ _ hZ s1 s2 nB,?_⟩
   rw[j7,hn,Option.toList_none,gh]
   exact rl.mono λv d=>mono Z _ _ v d s1 s2
 ·obtain⟨s1,nB,rl⟩:=(iV _ _ _ _).mp pv
  exact q Z H' ys s1 hZ nB rl
theorem qW{K:PySem.W.Frag}{a:Addr}{zs:List V}{idx:List Nat}{tt:CB->TT}{te:CB->TE}{σ:St}{Q:VK}{H1:Hp}{δ:Type}(f:Nat->Option δ)(Rep:Addr->Hp->V->δ->Prop)(mono:∀D H H' v d,bB H H'->Rep D H v d->Rep D H' v d)(zB:∀D H o v d,(∃xs,H D=some (.lst xs))->H1 D=none->Rep D H v d->Rep D (upd H D o) v d)
  (hL:H1 a=some (.lst zs)) (l9:zs.length<=900000)
  (hs:∀(D:Addr) (c:CB) (H:Hp) (i:Nat) (z:V) (yes:V->Hp->Prop) (no:Hp->Prop),zs[i]?=some z->bB H1 H->H1 D=none->(∃xs,H D=some (.lst xs))->(∀d,f i=some d->∀v H',bB H H'->Rep D H' v d->yes v H')->(f i=none->∀H',bB H H'->no H')->tt c (some (z)::bz σ idx) H λb H4=>if b=true then te c (some (z)::bz σ idx) H4 yes else no H4)
  (q:∀D H' vs,bB H1 H'->H1 D=none->H' D=some (.lst vs)->ky (Rep D) H' vs ((List.range (zs.length)).filterMap f)->Q (.ref D) H'):gP (Am K a) 1 idx (λ_=>cP 0) tt te σ Q H1:=
 Ab bB f Rep (λ_ _ e=>e) (λ_ _ a b=>a.trans b) (λD H o hD s b u e=>by rw[ay (aG e hD)];exact s b u e) (λD H H' o _ _ s e=>s D o e) (λD H H' v d _ s r=>mono D H H' v d s r) (λD H o v d hD _ hl r=>zB D H o v d hl hD r) (λH s=>s _ _ hL) l9 hs q
theorem kg{K:PySem.W.Frag}{a:Addr}{zs:List V}{idx:List Nat}{tt:CB->TT}{te:CB->TE}{σ:St}{Q:VK}{H1:Hp}{δ:Type}(f:Nat->Option δ)(Rep:Addr->Hp->V->δ->Prop)(mono:∀D H H' v d,bB H H'->Rep D H v d->Rep D H' v d)(zB:∀D H o v d,(∃xs,H D=some (.lst xs))->H1 D=none->Rep D H v d->Rep D (upd H D o) v d)
  (hL:H1 a=some (.tup zs)) (l9:zs.length<=900000)
  (hs:∀(D:Addr) (c:CB) (H:Hp) (i:Nat) (z:V) (yes:V->Hp->Prop) (no:Hp->Prop),zs[i]?=some z->bB H1 H->H1 D=none->(∃xs,H D=some (.lst xs))->(∀d,f i=some d->∀v H',bB H H'->Rep D H' v d->yes v H')->(f i=none->∀H',bB H H'->no H')->tt c (some (z)::bz σ idx) H λb H4=>if b=true then te c (some (z)::bz σ idx) H4 yes else no H4)
  (q:∀D H' vs,bB H1 H'->H1 D=none->H' D=some (.lst vs)->ky (Rep D) H' vs ((List.range (zs.length)).filterMap f)->Q (.ref D) H'):gP (JF K a) 1 idx (λ_=>cP 0) tt te σ Q H1:=
 En bB f Rep (λ_ _ e=>e) (λ_ _ a b=>a.trans b) (λD H o hD s b u e=>by rw[ay (aG e hD)];exact s b u e) (λD H H' o _ _ s e=>s D o e) (λD H H' v d _ s r=>mono D H H' v d s r) (λD H o v d hD _ hl r=>zB D H o v d hl hD r) (λH s=>s _ _ hL) l9 hs q
def Lr(H:Hp)(v d:V):Prop:=v=d
theorem uO{H:Hp}{vs ds:List V}(h:ky Lr H vs ds):vs=ds:=uC λi=>by
 by_cases hi:i<vs.length
 ·have hj:i<ds.length:=by have:=h.1;lia
  rw[eI hi,eI hj]
  exact g4 some (h.2 i _ _ (eI hi) (eI hj))
 ·rw[px (by lia),px (by have:=h.1;lia)]
theorem La{δ:Type}{f:Nat->Option δ}{l:List δ}(h:∀i,i<l.length->f i=l[i]?):(List.range l.length).filterMap f=l:=by
 have:∀n,n<=l.length->(List.range n).filterMap f=l.take n:=λn=>by
  induction n with
  | zero=>intro _;rfl
  | succ n ih=>
   intro hn
   rw[j7,ih (by lia),h n (by lia),pk]
 rw[this _ (bu _),pj]
theorem Eg{δ:Type}{l:List δ}{p:δ->Bool}{f:Nat->Option δ}(h:∀i (hi:i<l.length),f i=if p l[i] then some l[i] else none):(List.range l.length).filterMap f=l.filter p:=by
 have:∀n,n<=l.length->(List.range n).filterMap f=(l.take n).filter p:=λn=>by
  induction n with
  | zero=>intro _;rfl
  | succ n ih=>
   intro hn
   rw[j7,ih (by lia),h n (by lia),pk,List.filter_append,eI (by lia)]
   cases e:p l[n] <;> simp[e]
 rw[this _ (bu _),pj]
theorem qT{α δ:Type}{l:List α}{g:α->δ}{f:Nat->Option δ}(h:∀i (hi:i<l.length),f i=some (g l[i])):(List.range l.length).filterMap f=l.map g:=by
 have:=La (f:=f) (l:=l.map g) λi hi=>by
  rw[bN]at hi
  rw[h i hi,fB,eI hi];rfl
 rwa [bN]at this
end L2
end
section
namespace L2
open PySem
theorem bM.mono{H H':Hp}{bs:List Addr}{ts:List (List Int)}(k:∀b xs,H b=some (.tup xs)->H' b=some (.tup xs))(s:bM H bs ts):bM H' bs ts:=⟨s.1,λi b t hb ht=>k _ _ (s.2 i b t hb ht)⟩
theorem bM.app{H:Hp}{bs cs:List Addr}{ts us:List (List Int)}(s:bM H bs ts)(u:bM H cs us):bM H (bs++cs) (ts++us):=by
 refine⟨by rw[eL,eL,s.1,u.1],λi c x hc hx=>?_⟩
 by_cases hi:i<bs.length
 ·rw[nY hi]at hc
  rw[nY (by rw[<-s.1];exact hi)]at hx
  exact s.2 i c x hc hx
 ·rw[mj (by lia)]at hc
  rw[mj (by rw[<-s.1];lia),<-s.1]at hx
  exact u.2 _ c x hc hx
theorem xm(K:PySem.W.Frag)(T:String):PySem.W.kitOne K (.type T) (.type T)=some true:=by
 unfold PySem.W.kitOne
 rw[aC (by simp)]
theorem Oo{K:PySem.W.Frag}{A B:String}(h:(Value.type A==Value.type B)=false)(e:PySem.W.kitCls K (.type A) (.type B)=some false):PySem.W.kitOne K (.type A) (.type B)=some false:=by
 unfold PySem.W.kitOne
 rw[aB (by rw[h];exact dh)]
 exact e
end L2
end
section
namespace L2
open PySem PySem.Spec PyProof.Rows
section
variable {P:Program}{w:World}{A:Around}{E:Value->Shared->Prop}{s:Shared}
theorem Dl{l:Addr}{items:Array Value}{ss:List Int}{Q:Value->Shared->Prop}(hh:A.handled=none)(hl:s.heap.IsTuple l items)(hi:IntsAre items.toList ss)(hb:items.size+1<scanBound)
  (h:∀(h':Heap) (tk:Nat) (ls:List (Int×Tok)),iq w h' s.heap.objs.size ls->(∀z,z∈ls.map (·.1)↔z∈ss)->(∀b o,b<s.heap.objs.size->s.heap.get? b=some o->h'.get? b=some o)->Q (.ref s.heap.objs.size) { s with heap:=h',toks:=tk }) :
  wpAny (model P w) A (call (.type "set") [.ref l]) Q E s:=by
 have e:∀z:Int,(∃j,j<items.size/\ss.getD j 0=z)↔z∈ss:=λz=>by
  have hlen:items.size=ss.length:=by rw[<-eU];exact hi.length
  rw[hlen,List.mem_iff_getElem]
  constructor
  ·rintro⟨j,hj,e⟩;exact⟨j,hj,by rw[<-e];simp[hj]⟩
  ·rintro⟨j,hj,e⟩;exact⟨j,hj,by rw[<-e];simp[hj]⟩
 obtain⟨c,tl,WR⟩:=fP.mro
 have RT:=fP.made
 have RJ:=fP.sub
 refine gH (uv (aE (a:=_) ⟨uy _ (by decide +kernel),nQ PySem.F.entry_type_call ?_⟩))
 rw[Around.under_plain (weight_type_call_type "set" [.ref l] []) rfl]
 have h1:=fP.notType
 have h2:=fP.canCreate
 have hct:=PySem.F.typeCall_set_1 (.ref l)
 repeat (any_goals (first | assumption | wp_step))
 refine gI (Bj (x:=.ref l) (E:=E) (Q:=λobj s₁=>obj=.ref s.heap.objs.size/\s₁={ s with heap:=s.heap.push (dg #[] 0 (.fresh 0 0 (!nG w))) }) ⟨rfl,rfl⟩) λr s₁ hr=>?_
 cases r with
 | error e=>exact hr
 | ok fl=>
  cases fl with
  | ret obj=>
   obtain⟨rfl,rfl⟩:=hr
   have hS:(s.heap.push (dg #[] 0 (.fresh 0 0 (!nG w)))).get? s.heap.objs.size=some (dg #[] 0 (.fresh 0 0 (!nG w))):=eG _ rfl
   have hT:Shared.TypeIs { s with heap:=s.heap.push (dg #[] 0 (.fresh 0 0 (!nG w))) } (.ref s.heap.objs.size) "set":=⟨_,hS,rfl⟩
   have hli:=fP.init.lookup
   have hbi:=fP.init.bind (.ref s.heap.objs.size)
   repeat (any_goals (first | assumption | wp_step))
   refine gI (sI (R:=wants (λr s₂=>r=.none/\∃h' tk ls,s₂={ s with heap:=h',toks:=tk }/\iq w h' s.heap.objs.size ls/\(∀z,z∈ls.map (·.1)↔z∈ss)/\
     (∀b o,b<s.heap.objs.size->s.heap.get? b=some o->h'.get? b=some o)) E) fP.init.plain PySem.F.entry_set_init (check_set_init_1 hT ?_)) λr₂ s₂ O0=>?_
   ·obtain⟨ol,KS,zU,nl,K3⟩:=hl
    obtain⟨VJ,Hm,Rr,zk⟩:=ol
    simp only at zU K3
    subst zU;subst K3
    have O7:(s.heap.push (dg #[] 0 (.fresh 0 0 (!nG w)))).get? l=some { cls:=.type "tuple",dict:=Hm,data:=.seq items nl,slots:=zk }:=bC _ KS
    have Wx:=PySem.F.sub_tuple_set
    have Wy:=PySem.F.sub_tuple_frozenset
    have o6:(Value.type "tuple" == Value.type "dict")=false:=by decide
    have R0:(s.heap.push (dg #[] 0 (.fresh 0 0 (!nG w)))).IsTuple l items:=⟨_,O7,rfl,nl,rfl⟩
    unfold Builtin.«set.__init__» noKeywords Builtin.Frozenset.updateFrom
    unfold dg at *
    generalize Xk:pyIter=PI
    wp_walk
    subst Xk
    refine wpAny_pyIter_tuple R0 (aj (uq ?_))
    have RZ:l<s.heap.objs.size:=bf KS
    have W0:A.in1.in1.in1.handled=none:=by simp[hh]
    have hsz:(s.heap.push (dg #[] 0 (.fresh 0 0 (!nG w)))).objs.size=s.heap.objs.size+1:=nP _ _
    have O':l≠(s.heap.push (dg #[] 0 (.fresh 0 0 (!nG w)))).objs.size:=by rw[hsz];exact bj (nX RZ)
    have Qt:s.heap.objs.size∉[(s.heap.push (dg #[] 0 (.fresh 0 0 (!nG w)))).objs.size,l]:=by
     rw[hsz];simp only[ck,di,lY,or_false,not_or];exact⟨bj (pM _),js RZ⟩
    refine xj ((Walks.tuple W0 _ l O' items).toS) s.heap.objs.size Qt (λj=>ss.getD j 0) (λi v hv=>?hv) hb (items.size-0) 0 _ [] (by lia) (gd _)
     ⟨⟨_,eG _ rfl,rfl,rfl⟩,(R0.push _)⟩ ?hS0 (gd _) (λz=>⟨(λz=>nomatch z),λ⟨_,hj,_⟩=>absurd hj (Nat.not_lt_zero _)⟩) ?hR
    case hv=>exact qI hi i v (by rw[sL];exact hv)
    case hS0=>exact⟨⟨#[],0,_,bC _ hS,rfl,rfl,rfl,List.Pairwise.nil⟩,List.nodup_nil,by decide⟩
    case hR=>
     intro s' l' hm K5 mem
     obtain⟨h',g',d',QG,Rn⟩:=s'
     have eg:g'=s.gens:=hm.gens
     have ed:d'=s.drawn:=hm.drawn
     have eo:Rn=s.os:=hm.os
     subst eg;subst ed;subst eo
     refine aE (aE ⟨rfl,h',QG,l',rfl,K5,λz=>(mem z).trans (e z),λb o hb e=>?_⟩)
     refine hm.heap b o ?_ (bC _ (bC _ e))
     rw[hsz]
     simp only[ck,di,lY,or_false,not_or];exact⟨bj hb,bj (nX hb)⟩
   ·cases r₂ with
    | error e=>exact O0
    | ok XB=>
     cases XB with
     | ret r=>
      obtain⟨rfl,h',tk,ls,rfl,K5,KZ,Pa⟩:=O0
      repeat (any_goals (first | assumption | wp_step))
      exact h _ _ _ K5 KZ Pa
     | _=>exact O0.elim
  | _=>exact hr.elim
end
section
variable {X:Cx}
def vf(w:World):List V->Hp->VK->Prop:=λvs H Q=>∃a,vs=[.ref a]/\∃ss:List Int,H a=some (.tup (ss.map V.int))/\ss.length<4000/\∀p,H p=none->Q (.ref p) (upd H p (Ti w p ss))
theorem Ag(hh:X.A.handled=none):cD X (.type "set") (vf X.w):=by
 intro pins s σ H vs us Q I rv h
 obtain⟨a,rfl,ss,hq,hn,q⟩:=h
 obtain⟨u,rfl,ru⟩:=vals1 rv
 cases ru
 obtain⟨its,r,pl,hz⟩:=I.tuple (bG hq)
 have hl:=r.length
 rw[bN]at hl
 refine Dl (ss:=ss) hh pl (intsAre_of r) (by show its.toArray.size+1<4096;rw[dE];lia) λh' tk ls hS hm hk=>?_
 have Pa:∀b o,s.heap.get? b=some o->h'.get? b=some o:=λb o e=>hk b o (bf e) e
 refine⟨.ref s.heap.objs.size,_,I.laid (t':=tk) (o:=Ti X.w s.heap.objs.size ss) Pa (bu _) ?_,rfl,q _ I.fresh⟩
 exact⟨⟨ls,hS,hm⟩,(let ⟨_,_,_,e,_⟩:=hS.ex;⟨_,e⟩),λh1 h2 ⟨l1,x1,m1⟩ k=>⟨l1,x1.at k,m1⟩⟩
end
section
variable {P:Program}{w:World}{κ:Type} [DecidableEq κ] {knd:PySem.KeyKind P w κ} {A:Around} {E:Value->Shared->Prop} {s:Shared} {a b:Addr} {aJ Hx:List (κ×Value)}
end
section
variable {X:Cx}
def Mf(neg:Bool):R2:=λx y H Q=>∃a b,x=.ref a/\y=.ref b/\∃aJ Hx,H a=some (.dK aJ)/\H b=some (.dK Hx)/\aJ.length=Hx.length/\
 (∀k v,(k,v)∈aJ->∃p q t,v=.ref p/\(k,V.ref q)∈Hx/\H p=some (.tup (List.map V.int t))/\H q=some (.tup (List.map V.int t)))/\Q (.bl (!neg)) H
end
section
variable {X:Cx}{pins:List (Addr×Obj)}{σ:St}{H:Hp}{s:Shared}{d:Addr}{o:Obj}{aJ:List (Key×V)}
end
def Itd(d:Addr)(o:Obj)(aJ:List (Key×V)):It:=
 ⟨λi H=>i<aJ.length/\H d=some (.tV o (.dK aJ)),λi H x H'=>H'=H/\∃k v,aJ[i]?=some (k,v)/\x=kV k,λi H=>aJ.length<=i/\H d=some (.tV o (.dK aJ))⟩
section
variable {X:Cx}{tg:Expr}
def Mk(te:TE):TI:=λσ H R=>te σ H λv H1=>∃a aJ,v=.ref a/\H1 a=some (.dK aJ)/\∀o,R (Itd a o aJ) (upd H1 a (.tV o (.dK aJ)))
def LQ(H0:Hp)(t:TS):TS:=λD σ H=>∃d o aJ,H d=some (.tV o (.dK aJ))/\H0 d=none/\t D σ (upd H d (.dK aJ))
end
section
variable {X:Cx}
def Gv:V->List V->Hp->VK->Prop:=λx vs H Q=>∃a n d,x=.ref a/\vs=[.int n,d]/\∃aJ,H a=some (.dK aJ)/\Q ((jy aJ (Sum.inl n)).getD d) H
def wQ:V->List V->Hp->VK->Prop:=λx vs H Q=>∃l b xs zs,x=.ref l/\vs=[.ref b]/\H l=some (.lst xs)/\H b=some (.tup zs)/\xs.length+zs.length<=sizeLine/\Q .non (upd H l (.lst (xs++zs)))
end
section
variable {X:Cx}{N:List Str}{sc:Scope}{pos:Pos}
end
section
variable {X:Cx}
end
end L2
end
section
namespace L2
open PySem
theorem nj{H H1:Hp}{p:Addr}{o:HO}(a:bB H H1)(hn:H p=none):bB H (upd H1 p o):=λb u e=>by rw[ay (aG e hn)];exact a b u e
theorem Gr{qs:List Addr}{i:Nat}{x:V}(h:(List.map V.ref qs)[i]?=some x):∃q,qs[i]?=some q/\x=.ref q:=by
 rw[fB]at h
 cases e:qs[i]? with
 | none=>rw[e]at h;cases h
 | some q=>rw[e]at h;exact⟨q,rfl,(dB h).symm⟩
theorem aD{H:Hp}{p:Addr}(h:H p=none)(o:HO):bB H (upd H p o):=λb u q=>by rw[ay (aG q h)];exact q
def iO(x y:List Int):Bool:=x.all λm=>decide (m∈y)
theorem xF(m:Int)(y:List Int):Mh (.int m) (List.map V.int y)=decide (m∈y):=by
 unfold Mh
 rw[um,ph,List.any_eq_true,yx]
 constructor
 ·rintro⟨z,hz,e⟩
  have:z=m:=by simpa [Fd]using e
  rw[<-this];exact hz
 ·intro h
  exact⟨m,h,by simp[Fd]⟩
theorem tW(y:List Int):(List.map V.int y).all gu=true:=by
 rw[List.all_map,nV]
 intro _ _
 rfl
theorem int_at{ns:List Int}{i:Nat}{x:V}(h:(List.map V.int ns)[i]?=some x):∃n,ns[i]?=some n/\x=.int n:=by
 rw[fB]at h
 cases e:ns[i]? with
 | none=>rw[e]at h;cases h
 | some q=>rw[e]at h;exact⟨q,rfl,(dB h).symm⟩
def hv(l:Addr)(a b c d e:Int):HO:=.lst [.ref l,.int a,.int b,.int c,.int d,.int e]
def Tj(l:Addr)(o:HO):Prop:=∃a b c d e,o=hv l a b c d e/\0<=a
def uW:Sp:=λvs H Q _=>∃h,vs=[.ref h]/\∃l a b c d e,H h=some (hv l a b c d e)/\Q (.int (d*48271%2147483647+e*40693%2147483399)) (upd H h (hv l a b c (d*48271%2147483647) (e*40693%2147483399)))
def Ng:Sp:=λvs H Q _=>∃h,vs=[.ref h]/\∃l ns o,H h=some o/\Tj l o/\H l=some (.lst (List.map V.int ns))/\∀o',Tj l o'->Q .non (upd H h o')
def Gd:Sp:=λvs H Q _=>∃h m,vs=[.ref h,.int m]/\1<=m/\m<2 ^ 300/\∃l ns o,H h=some o/\Tj l o/\H l=some (.lst (List.map V.int ns))/\∀r o',0<=r->r<m->Tj l o'->Q (.int r) (upd H h o')
def Hd(H:Hp)(h l:Addr):Prop:=∃ns o,H h=some o/\Tj l o/\H l=some (.lst (List.map V.int ns))
def dQ(H:Hp)(h:Addr):Prop:=∃l,Hd H h l
structure Dr(h:Addr)(H H':Hp):Prop where
 keep:∀b o,b≠h->H b=some o->H' b=some o
 hand:∀l,Hd H h l->Hd H' h l
theorem Dr.refl{h:Addr}{H:Hp}:Dr h H H:=⟨λ_ _ _ e=>e,λ_ x=>x⟩
theorem Dr.trans{h:Addr}{H H1 H2:Hp}(a:Dr h H H1)(b:Dr h H1 H2):Dr h H H2:=⟨λc o hc e=>b.keep c o hc (a.keep c o hc e),λl x=>b.hand l (a.hand l x)⟩
theorem Dr.eR{h:Addr}{H H1:Hp}(a:Dr h H H1)(x:dQ H h):dQ H1 h:=let ⟨l,y⟩:=x;⟨l,a.hand l y⟩
theorem Hd.apart{H:Hp}{h l:Addr}(x:Hd H h l):l≠h:=by
 obtain⟨ns,o,e1,⟨a,b,c,d,e,rfl,_⟩,e3⟩:=x
 intro z
 rw[z,e1]at e3
 have q:=dB e3
 unfold hv at q
 injection q with q
 match ns,q with
 | [],q=>cases q
 | n::_,q=>injection q with q1 _;cases q1
theorem Dr.new{h p:Addr}{H H1:Hp}{o:HO}(a:Dr h H H1)(hp:H1 p=none):Dr h H (upd H1 p o):=by
 refine⟨λc o' hc e=>?_,λl x=>?_⟩
 ·rw[ay (aG (a.keep c o' hc e) hp)];exact a.keep c o' hc e
 ·obtain⟨ns,oh,e1,e2,e3⟩:=a.hand l x
  exact⟨ns,oh,by rw[ay (aG e1 hp)];exact e1,e2,by rw[ay (aG e3 hp)];exact e3⟩
theorem Dr.put{h p:Addr}{H H1:Hp}{o':HO}(a:Dr h H H1)(hn:H p=none):Dr h H (upd H1 p o'):=by
 refine⟨λc o' hc e=>?_,λl x=>?_⟩
 ·rw[ay (aG e hn)];exact a.keep c o' hc e
 ·obtain⟨ns,oh,e1,e2,e3⟩:=a.hand l x
  obtain⟨_,_,f1,_,f3⟩:=x
  exact⟨ns,oh,by rw[ay (aG f1 hn)];exact e1,e2,by rw[ay (aG f3 hn)];exact e3⟩
theorem dQ.ne{h p:Addr}{H:Hp}(x:dQ H h)(hp:H p=none):p≠h:=by
 obtain⟨l,ns,oh,e1,_,_⟩:=x
 exact(aG e1 hp).symm
theorem Dr.free{h p:Addr}{H H1:Hp}(a:Dr h H H1)(x:dQ H h)(hp:H1 p=none):H p=none:=by
 cases e:H p with
 | none=>rfl
 | some o=>
  have n:=(a.eR x).ne hp
  have:=a.keep p o n e
  rw[hp]at this;cases this
theorem cG{h:Addr}{m:Int}{H0 H:Hp}{Q:VK}{E:XK}(hd:dQ H0 h)(d:Dr h H0 H)(h1:1<=m)(h2:m<2 ^ 300)(q:∀r H',0<=r->r<m->Dr h H0 H'->(∀b,b≠h->H' b=H b)->Q (.int r) H'):Gd [.ref h,.int m] H Q E:=by
 obtain⟨l,x⟩:=hd
 have x':=d.hand l x
 have ap:=x'.apart
 obtain⟨ns,oh,e1,e2,e3⟩:=x'
 refine⟨h,m,rfl,h1,h2,l,ns,oh,e1,e2,e3,λr o' r0 r1 ho=>q r _ r0 r1 ⟨λc o hc e=>?_,λl' x'=>?_⟩ (λb hb=>ay hb)⟩
 ·rw[ay hc];exact d.keep c o hc e
 ·have y:=d.hand l' x'
  have ap':=y.apart
  obtain⟨ns',oh',f1,f2,f3⟩:=y
  have el:l'=l:=by
   obtain⟨a,b,c,d,e,rfl,_⟩:=e2
   obtain⟨a',b',c',d',e',rfl,_⟩:=f2
   rw[e1]at f1
   have:=dB f1
   unfold hv at this
   injection this with this
   injection this with this _
   exact(V.ref.inj this).symm
  subst el
  exact⟨ns,o',ak,ho,by rw[ay ap];exact e3⟩
theorem xZ{α:Type}(f:α->V)(xs:List α)(lo hi:Option Int):gF (xs.map f) lo hi=((xs.drop (HT.cy xs.length 0 lo)).take (HT.cy xs.length xs.length hi-HT.cy xs.length 0 lo)).map f:=by
 unfold gF;rw[bN,List.map_take,List.map_drop]
def Nj(K:PySem.W.Frag):Sp:=λvs H Q _=>∃a ns,vs=[.ref a]/\lU K H a (List.map V.int ns)/\∀h H',bB H H'->H h=none->dQ H' h->Q (.ref h) H'
def nI(x:List Int):Prop:=x.Pairwise (· < ·)
theorem u5:∀{x y:List Int},nI x->nI y->(∀m,m∈x↔m∈y)->x=y
 | [],[],_,_,_=>rfl
 | [],b::y,_,_,h=>absurd ((h b).mpr dF) (by simp)
 | a::x,[],_,_,h=>absurd ((h a).mp dF) (by simp)
 | a::x,b::y,hx,hy,h=>by
  have HJ:=yz.mp hx
  have Wq:=yz.mp hy
  have Xe:a=b:=by
   rcases ck.mp ((h a).mp dF) with e | e
   ·exact e
   ·rcases ck.mp ((h b).mpr dF) with e' | e'
    ·exact e'.symm
    ·have:=Wq.1 a e
     have:=HJ.1 b e'
     lia
  subst Xe
  rw[u5 HJ.2 Wq.2 λm=>⟨λhm=>?_,λhm=>?_⟩]
  ·rcases ck.mp ((h m).mp (dR _ hm)) with e | e
   ·have:=HJ.1 m hm;lia
   ·exact e
  ·rcases ck.mp ((h m).mpr (dR _ hm)) with e | e
   ·have:=Wq.1 m hm;lia
   ·exact e
def cC(x y:List Int):List Int:=x.filter λm=>decide (m∉y)
def Ni:Sp:=λvs H Q _=>∃a b,vs=[.ref a,.ref b]/\∃x y:List Int,H a=some (.tup (List.map V.int x))/\H b=some (.tup (List.map V.int y))/\x.length<=900/\∀p H',bB H H'->H p=none->H' p=some (.tup (List.map V.int (cC x y)))->Q (.ref p) H'
def JP:Sp:=λvs H Q _=>∃i:Int,vs=[.int i]/\Q (.bl true) H
def JT:Sp:=λvs H Q _=>∃a,vs=[.ref a]/\∃x:List Int,H a=some (.tup (List.map V.int x))/\x.length<=900/\nI x/\∀H',bB H H'->Q (.bl true) H'
theorem all_true:∀(n:Nat),(List.replicate n true).all id=true
 | 0=>rfl
 | n+1=>by rw[List.replicate_succ,pG,all_true n];rfl
theorem K8{a b c d r:Int}(h0:0<=r)(h1:r<4):∃v,rG [V.int a,V.int b,V.int c,V.int d] r=some (.int v)/\(v=a\/v=b\/v=c\/v=d):=by
 have:r=0\/r=1\/r=2\/r=3:=by lia
 rcases this with e | e | e | e <;> subst e
 ·exact⟨a,Cz ..,by simp⟩
 ·exact⟨b,Cy ..,by simp⟩
 ·exact⟨c,Cw ..,by simp⟩
 ·exact⟨d,Cv ..,by simp⟩
theorem Dr.on{h:Addr}{H H1 H2:Hp}(a:Dr h H H1)(s:bB H1 H2):Dr h H H2:=⟨λc o hc e=>s _ _ (a.keep c o hc e),λl x=>by
 obtain⟨ns,oh,e1,e2,e3⟩:=a.hand l x
 exact⟨ns,oh,s _ _ e1,e2,s _ _ e3⟩⟩
theorem dQ.lE{h b:Addr}{H:Hp}{xs:List V}(x:dQ H h)(e:H b=some (.tup xs)):b≠h:=by
 obtain⟨l,ns,o,e1,⟨_,_,_,_,_,rfl,_⟩,_⟩:=x
 exact qB e e1 (by intro z;cases z)
theorem Dr.sets{h:Addr}{H H':Hp}{bs:List Addr}{ts:List (List Int)}(hd:dQ H h)(d:Dr h H H')(s:bM H bs ts):bM H' bs ts:=s.mono λb xs e=>d.keep _ _ (hd.lE e) e
abbrev cut(n:Int)(s:List Int):List Int:=s.filter λm=>decide (m≠n)
end L2
end
section
namespace L2
structure Nx(P R:St->Hp->Prop):Prop where
 to:∀σ H,P σ H->R σ H
theorem fL{t u:TS}{D:Ends}{σ:St}{H:Hp}(h:∀R:St->Hp->Prop,Nx (u D) R->t { D with nx:=R } σ H):tSeq t u D σ H:=h (u D) ⟨λ_ _ z=>z⟩
end L2
end
section
namespace L2
open PySem PySem.Spec PyProof.Rows
section
variable {X:Cx}{o e value:Expr}{f:Str}{pos pos':Pos}{ta tv:TE}
end
section
variable {X:Cx}{CX:CQ}{k:Nat}{f C:Addr}{fd:FuncData}{ps:List Str}{sp:Sp}{yt:List V}{ds:List Value}{E:XK}{x m:Str}{p pos apos:Pos}{e o:Expr}{es:List Expr}{ta:TE}{t:TA}
end
def Jo(H:Hp)(ps:List Addr)(fs:List (List (List Int))):Prop:=ps.length=fs.length/\∀(i:Nat) p f,ps[i]?=some p->fs[i]?=some f->∃bs,H p=some (.lst (List.map V.ref bs))/\bM H bs f
section
variable {X:Cx}{pins:List (Addr×Obj)}{s:Shared}{σ:St}{H:Hp}{A:Around}
def Mb(neg:Bool):R2:=λx y H Q=>∃a b,x=.ref a/\y=.ref b/\∃ps qs cl dl,H a=some (.lst (List.map V.ref ps))/\H b=some (.lst (List.map V.ref qs))/\Jo H ps cl/\Jo H qs dl/\Q (.bl (if neg then !decide (cl=dl) else decide (cl=dl))) H
end
end L2
end
section
namespace L2
open PySem PySem.Spec PyProof.Rows
open PySem.W (Frag Looks)
abbrev QF:List Value:=[.type "ValueError",.type "Exception",.type "BaseException",.type "object"]
def JH(K:Frag)(n:Addr):Bool:=match K.lookup n with
 | some o=>(match o.data with | .dict es _=>es.toList.all λe=>(match e.key with | .str _ _=>true | _=>false) | _=>false)
 | none=>false
theorem Ly{K:Frag}{h:Heap}{n:Addr}(X:K.In h)(q:JH K n=true):∃m,h.Ns n m:=by
 unfold JH at q
 cases e:K.lookup n with
 | none=>rw[e]at q;cases q
 | some o=>
  rw[e]at q
  dsimp only at q
  cases d:o.data with
  | dict es ep=>
   rw[d]at q
   dsimp only at q
   refine⟨nsFind es,o,es,ep,X _ _ e,d,λx hx=>?_,λ_=>rfl⟩
   have:=nV.mp q x (Array.mem_toList_iff.mpr hx)
   cases k:x.key with
   | str y t=>exact⟨y,t,rfl⟩
   | _=>rw[k]at this;cases this
  | _=>rw[d]at q;cases q
def JG(K:Frag):List Value->Bool
 | .ref a::tl=>(match K.lookup a with
  | some o=>(match o.data with | .cls cd=>JH K cd.ns&&(PySem.W.nsIn K cd.ns "__init__" == some none) | _=>false)
  | none=>false)&&JG K tl
 | l=>l==QF
theorem Lx{K:Frag}{h:Heap}(X:K.In h):∀{l:List Value},JG K l=true->OwnTail h QF l
 | .ref a::tl,q=>by
  simp only[JG,eJ]at q
  obtain⟨q,r⟩:=q
  cases e:K.lookup a with
  | none=>rw[e]at q;cases q
  | some o=>
   rw[e]at q
   obtain⟨oc,od,da,sl⟩:=o
   cases da with
   | cls cd=>
    simp only[eJ,beq_iff_eq]at q
    obtain⟨m,hm⟩:=Ly X q.1
    exact .own (X _ _ e) hm (PySem.W.ns_none_of X hm q.2) (Lx X r)
   | _=>cases q
 | [],q=>by cases eq_of_beq q
 | .type n::tl,q=>by rw[show Value.type n::tl=QF from eq_of_beq q];exact .base
 | .none::tl,q=>by cases eq_of_beq q
 | .bool _::tl,q=>by cases eq_of_beq q
 | .int _ _::tl,q=>by cases eq_of_beq q
 | .str _ _::tl,q=>by cases eq_of_beq q
 | .builtin _::tl,q=>by cases eq_of_beq q
 | .float _ _::tl,q=>by cases eq_of_beq q
 | .bytes _ _::tl,q=>by cases eq_of_beq q
 | .ellipsis::tl,q=>by cases eq_of_beq q
 | .notImplemented::tl,q=>by cases eq_of_beq q
def gQ(K:Frag)(C:Addr):Bool:=match K.lookup C with
 | some o=>o.cls == .type "type" && (match o.data with
  | .cls cd=>!cd.hasDel&&cd.hasDict&&JH K cd.ns&&(match cd.mro with | v::tl=>v == .ref C&&JG K tl | []=>false) | _=>false)&&(match o.slots.toList with | [_,_,_,_,some v,_]=>v == .builtin "ValueError.__new__" | _=>false)
 | none=>false
theorem jx{K:Frag}{h:Heap}{C:Addr}(X:K.In h)(q:gQ K C=true):∃nm qn N bs bm sn sub ab col dd k0 k1 k2 k3 k5 mN,h.get? C=some (excClassObj nm qn C N bs bm true sn sub ab col dd k0 k1 k2 k3 k5 "ValueError.__new__")/\h.Ns N mN/\OwnTail h QF bm:=by
 unfold gQ at q
 cases e:K.lookup C with
 | none=>rw[e]at q;cases q
 | some o=>
  rw[e]at q
  obtain⟨oc,od,da,sl⟩:=o
  simp only[eJ,beq_iff_eq]at q
  obtain⟨⟨rfl,q1⟩,q2⟩:=q
  cases da with
  | cls cd=>
   obtain⟨nm,bs,mro,ns,qn,hd,sn,sub,ab,col,del⟩:=cd
   simp only[eJ,Bool.not_eq_true']at q1
   obtain⟨⟨⟨rfl,rfl⟩,n1⟩,q1⟩:=q1
   cases mro with
   | nil=>cases q1
   | cons v tl=>
    simp only[eJ,beq_iff_eq]at q1
    obtain⟨rfl,q1⟩:=q1
    obtain⟨l⟩:=sl
    match l,q2 with
    | [k0,k1,k2,k3,some v,k5],q2=>
     obtain⟨m,hm⟩:=Ly X n1
     have ev:v=.builtin "ValueError.__new__":=eq_of_beq q2
     subst ev
     exact⟨nm,qn,ns,bs,tl,sn,sub,ab,col,od,k0,k1,k2,k3,k5,m,X _ _ e,hm,Lx X q1⟩
  | _=>cases q1
section
variable {prog:Program}{w:World}{A:Around}{E:Value->Shared->Prop}{s:Shared}{K:Frag}{C fI:Addr}
theorem rH{rest:List Value}{Q:PySem.Fin->Shared->Prop}(X:K.In s.heap)(q:gQ K C=true)(hi:PySem.W.findIn K (.ref C) "__init__" = some (some (.ref fI)))(hf:PySem.W.typeIn K (.ref fI)=some (.type "function"))
  (hq:∀h',Heap.MadeExcOf s.heap h' (s.heap.objs.size+1) (.ref C) rest->wpAny (model prog w) A (call (.ref fI) (.ref (s.heap.objs.size+1)::rest)) (λr s'=>r=.none/\Q (.done (.ret (.ref (s.heap.objs.size+1)))) s') E { s with heap:=h' }) (BW:rest.length<=sizeLine) :
  wpAny (model prog w) A (Builtin.«type.__call__» ⟨.ref C::rest,[]⟩) Q E s:=by
 obtain⟨nm,qn,N,bs,bm,sn,sub,ab,col,dd,k0,k1,k2,k3,k5,mN,hC,hN,T⟩:=jx X q
 obtain⟨h,g,d,t,os⟩:=s
 dsimp only at X hC hN T hq
 repeat (first | with_reducible refine sA hC ?_ | with_reducible refine wpAny_madeBy_exc hC ?_ | wp_step)
 have FF:=PySem.F.excBase_ValueError
 refine codeAny_call_builtin_code (uy _ FF.quiet) (wpAny_check_new_subU FF (by decide +kernel) T hC (codeAny_exc_new_subU FF (by decide +kernel) FF T hC ?_ BW))
 show wpAny _ _ _ _ _ _
 have kp:∀b o,h.get? b=some o->((h.push { cls:=.type "tuple",data:=.seq rest.toArray }).push { cls:=.ref C,data:=.fields #[.ref h.objs.size,.none,.none,.none,.bool false,.none] }).get? b=some o:=λb o e=>bC _ (bC _ e)
 have e1:((h.push { cls:=.type "tuple",data:=.seq rest.toArray }).push { cls:=.ref C,data:=.fields #[.ref h.objs.size,.none,.none,.none,.bool false,.none] }).get? (h.objs.size+1)=some { cls:=.ref C,data:=.fields #[.ref h.objs.size,.none,.none,.none,.bool false,.none] }:=by heap_get
 have mk:Heap.MadeExcOf h ((h.push { cls:=.type "tuple",data:=.seq rest.toArray }).push { cls:=.ref C,data:=.fields #[.ref h.objs.size,.none,.none,.none,.bool false,.none] }) (h.objs.size+1) (.ref C) rest:=⟨kp,pw (jq _),h.objs.size,e1,pw (bu _),bC _ (Heap.get?_push_at rfl rfl)⟩
 generalize ((h.push { cls:=.type "tuple",data:=.seq rest.toArray }).push { cls:=.ref C,data:=.fields #[.ref h.objs.size,.none,.none,.none,.bool false,.none] })=h2 at kp e1 mk ⊢
 have hC2:=kp _ _ hC
 have X2:K.In h2:=X.keeps kp
 have hcC:(Value.ref C::bm).contains (.ref C)=true:=by simp
 unfold isInstance
 repeat (first | with_reducible refine sA e1 ?_ | (with_reducible refine sF hC2 ?_;rw[hcC]) | wp_step)
 show wpAny _ _ (typeLookup (.ref C) _) _ _ _
 refine(sJ (M:=model prog w) (h:=h2) X2 hi) _ _ _ _ (λ_ _ e=>e) (eT (aj ((PySem.W.bind_fn (M:=model prog w) (h:=h2) X2 (.ref (h.objs.size+1)) hf) _ _ _ _ (λ_ _ e=>e) ?_)))
 refine aj (bV (hq h2 mk) (λr s' hr=>?_) λ_ _ z=>z)
 obtain⟨rfl,z⟩:=hr
 wp_walk
 exact z
theorem IV{rest:List Value}{Q:Value->Shared->Prop}(X:K.In s.heap)(q:gQ K C=true)(hi:PySem.W.findIn K (.ref C) "__init__" = some (some (.ref fI)))(hf:PySem.W.typeIn K (.ref fI)=some (.type "function"))
  (hq:∀h',Heap.MadeExcOf s.heap h' (s.heap.objs.size+1) (.ref C) rest->wpAny (model prog w) (A.under (.builtin "type.__call__" ⟨.ref C::rest,[]⟩)) (call (.ref fI) (.ref (s.heap.objs.size+1)::rest)) (λr s'=>r=.none/\Q (.ref (s.heap.objs.size+1)) s') E { s with heap:=h' }) (BW:rest.length<=sizeLine) :
  wpAny (model prog w) A (call (.ref C) rest) Q E s:=by
 obtain⟨nm,qn,N,bs,bm,sn,sub,ab,col,dd,k0,k1,k2,k3,k5,mN,hC,hN,T⟩:=jx X q
 obtain⟨h,g,d,t,os⟩:=s
 dsimp only at X hC hN T hq
 have f1:=tc_lookup
 have f2:=tc_bind (.ref C)
 have hT:(⟨h,g,d,t,os⟩:Shared).TypeIs (.ref C) "type":=⟨_,hC,rfl⟩
 refine gH (uv (show wpAny _ _ (callAny (.ref C) _) _ _ _ from ?_))
 repeat (any_goals (first | assumption | with_reducible refine sA hC ?_ | wp_step))
 refine⟨rfl,codeAny_call_builtin_at (uy _ (by decide +kernel)) entry_typeCall (wpAny_check_type_call_sub hC (rH (s:=⟨h,g,d,t,os⟩) X q hi hf (λh' hm=>?_) BW))⟩
 exact hq h' hm
end
section
variable {prog:Program}{w:World}{A:Around}{E:Value->Shared->Prop}{s:Shared}{K:Frag}{C e:Addr}{oe:Obj}{vs:Array Value}
theorem Et{t0:Addr}{rest:List Value}{Q:Value->Shared->Prop}(X:K.In s.heap)(q:gQ K C=true)(he:s.heap.get? e=some { cls:=.ref C,data:=.fields #[.ref t0,.none,.none,.none,.bool false,.none] })
  (hq:Q .none { s with heap:=(s.heap.push { cls:=.type "tuple",data:=.seq rest.toArray }).update e (Obj.mapFields (·.setIfInBounds 0 (Value.ref s.heap.objs.size))) }) (BW:rest.length<=sizeLine) :
  wpAny (model prog w) A (call (.builtin "ValueError.__init__") (.ref e::rest)) Q E s:=by
 obtain⟨nm,qn,N,bs,bm,sn,sub,ab,col,dd,k0,k1,k2,k3,k5,mN,hC,hN,T⟩:=jx X q
 have FF:=PySem.F.excBase_ValueError
 obtain⟨h,g,d,t,os⟩:=s
 dsimp only at X hC hN T hq he
 have Qo:(h.push { cls:=.type "tuple",data:=.seq rest.toArray }).get? e=some { cls:=.ref C,data:=.fields #[.ref t0,.none,.none,.none,.bool false,.none] }:=bC _ he
 refine gH (sI FF.init.plain FF.initEntry (wpAny_check_init_subU FF T hC he rfl ?_))
 wp_walk
 exact hq
theorem wN(self:Value){h:Heap}{l:List Value}(T:OwnTail h QF l):refuseLoop self "__setattr__" l=pure ():=by
 induction T with
 | base=>exact PySem.F.store_ValueError.passes self
 | own _ _ _ _ ih=>rw[refuseLoop_ref];exact ih
theorem Dd{name:Str}{tk:Tok}{v:Value}{R:Result->Shared->Prop}(X:K.In s.heap)(q:gQ K C=true)(he:s.heap.get? e=some oe)(hc:oe.cls=.ref C)(ht:PySem.W.takerIn K C name=some none)
  (h:∀b,wpAny (model prog w) A.in1 (Builtin.ObjectAttr.storeInOwnDict (.ref e) (.ref C) (.str name tk) name v b) (λfin s'=>match fin with | .done f=>R (.ok f) s' | .again c'=>c'.quiet=true/\codeAny (model prog w) A c' R s') (λx s'=>R (.error x) s') s) :
  codeAny (model prog w) A (.call (.builtin "object.__setattr__") ⟨[.ref e,.str name tk,v],[]⟩) R s:=by
 obtain⟨nm,qn,N,bs,bm,sn,sub,ab,col,dd,k0,k1,k2,k3,k5,mN,hC,hN,T⟩:=jx X q
 have SF:=PySem.F.store_object
 have ty:Looks (model prog w) s.heap (typeOf (.ref e)) (.ref C):=hc ▸ (Looks.ld he).andThen .now
 have sub:Looks (model prog w) s.heap (isInstance (.ref e) (.type "object")) true:=ty.andThen (λA Q E s k z=>by
  obtain⟨h,g,d,t,os⟩:=s
  refine sF (k _ _ hC) ?_
  rw[vY,T.hasType (X:="object") (b:=true) (by decide +kernel),pD]
  exact z)
 refine sI SF.slot.plain SF.entry (@yA (model prog w) _ _ s "object.__setattr__" "object" "__setattr__" (.ref e) [.str name tk,v] [] _ SF.kind SF.split sub (SF.args (.ref e) (.str name tk) v) ?_)
 obtain⟨attr,ha,hr⟩:=Option.bind_eq_some_iff.mp ht
 have hm:Looks (model prog w) s.heap (mroOf (.ref C)) (.ref C::bm):=λA Q E s k z=>by
  obtain⟨h,g,d,t,os⟩:=s
  exact wpAny_mroOf_exc (k _ _ hC) z
 have L3:Looks (model prog w) s.heap (Builtin.ObjectAttr.storeTaker? attr) none:=by
  cases attr with
  | none=>exact .now
  | some a=>
   obtain⟨b,hb,z⟩:=Option.map_eq_some_iff.mp hr
   cases b with
   | true=>cases z
   | false=>exact(PySem.W.looks_takesIn X hb).andThen .now
 rw[PySem.W.osa_eq,refuse_eq]
 refine aj (aj (ty.here (aj (hm.here ?_))))
 rw[refuseLoop_ref,wN _ T]
 exact aE (aj (ty.here (aj ((sJ X ha).here (aj (L3.here (h _)))))))
theorem Um{name:Str}{v:Value}{Q:Unit->Shared->Prop}(X:K.In s.heap)(q:gQ K C=true)(he:s.heap.get? e=some oe)(hc:oe.cls=.ref C)(hd:oe.dict=none)(Jw:oe.data=.fields vs)
  (hs:PySem.W.findIn K (.ref C) "__setattr__" = some (some (.builtin "object.__setattr__"))) (ht:PySem.W.takerIn K C name=some none)
  (h:∀h' tk,h'.get? e=some { oe with dict:=some s.heap.objs.size }->h'.Ns1 s.heap.objs.size (λy=>if y=name then some v else none)->(∀b o,b≠e->s.heap.get? b=some o->h'.get? b=some o)->Q () { s with heap:=h',toks:=tk }) :
  wpAny (model prog w) A (setAttr (.ref e) name v) Q E s:=by
 obtain⟨oc,od,Za,rO⟩:=oe
 dsimp only at hc hd Jw
 subst hc hd Jw
 have J:PySem.W.InstAt s.heap e ⟨.ref C,none,.fields vs,rO⟩ C none:=⟨he,rfl,rfl,True.intro⟩
 refine PySem.W.set_plain X J hs (Dd (s:={ s with toks:=s.toks+1 }) X q he rfl ht λb=>?_)
 obtain⟨nm,qn,N,bs,bm,sn,sub,ab,col,dd,k0,k1,k2,k3,k5,mN,hC,hN,T⟩:=jx X q
 have nA:Looks (model prog w) s.heap (classData C) _:=(Looks.ld (part:=none) hC).andThen .now
 refine aj (aE (aj (aj (wpAny_loadPart he (aj (Looks.here (s:={ s with toks:=s.toks+1 }) nA ?_))))))
 rw[aB (by simp)]
 dsimp only
 rw[aB (by simp[typeHasDict])]
 have Qo:(s.heap.push { cls:=.type "dict",data:=.dict #[] }).get? e=some ⟨.ref C,none,.fields vs,rO⟩:=bC _ he
 have o6:e≠s.heap.objs.size:=bj (bf he)
 refine aj (wpAny_alloc' (aj (wpAny_update' Qo ?_)))
 refine aE ?_
 have ZX:=jt (λo:Obj=>{ cls:=o.cls,dict:=some s.heap.objs.size,data:=o.data,slots:=o.slots }) Qo rfl
 have ZD:∀b o,b≠e->(s.heap.push { cls:=.type "dict",data:=.dict #[] }).get? b=some o->((s.heap.push { cls:=.type "dict",data:=.dict #[] }).update e λo=>{ cls:=o.cls,dict:=some s.heap.objs.size,data:=o.data,slots:=o.slots }).get? b=some o:=λb o hb z=>(Heap.get?_update_ne _ _ _ _ hb).trans z
 have Z':=ZD _ _ o6.symm (Heap.get?_push_at (h:=s.heap) (o:={ cls:=.type "dict",data:=.dict #[] }) rfl rfl)
 have ZC:∀b o,b≠e->s.heap.get? b=some o->((s.heap.push { cls:=.type "dict",data:=.dict #[] }).update e λo=>{ cls:=o.cls,dict:=some s.heap.objs.size,data:=o.data,slots:=o.slots }).get? b=some o:=λb o hb z=>ZD b o hb (bC _ z)
 generalize ((s.heap.push { cls:=.type "dict",data:=.dict #[] }).update e λo=>{ cls:=o.cls,dict:=some s.heap.objs.size,data:=o.data,slots:=o.slots })=h2 at ZX Z' ZC ⊢
 have hnd:h2.Ns s.heap.objs.size (λ_=>none):=⟨_,#[],_,Z',rfl,λx hx=>absurd hx (by simp),λ_=>rfl⟩
 refine aj (aE (aj ?_))
 refine wpAny_nsSet1 (s:={ s with heap:=h2,toks:=s.toks+1 }) (Heap.Ns1.of_empty hnd) λh' Mq sb=>?_
 obtain⟨oD,esD,epD,hoD,hdD,hcD⟩:=Mq.count (Within.cons name v Within.nil)
 refine aj (wpAny_lookBehind hoD (by rw[hdD];exact pastItsLine_dict (fz hcD (by rw[pK,List.length_nil,sizeLine_eq];omega))) ?_)
 exact aE (h h' _ ((sb.2 _ o6).trans ZX) Mq λb o hb z=>(sb.2 b (bj (bf z))).trans (ZC b o hb z))
theorem Uo{od:Option Obj}{name:Str}{v:Value}{expr:Bool}{Q:Value->Shared->Prop}(X:K.In s.heap)(q:gQ K C=true)(I:PySem.W.InstAt s.heap e oe C od)
  (hga:PySem.W.findIn K (.ref C) "__getattribute__" = some (some (.builtin "BaseException.__getattribute__"))) (hgb:PySem.W.findIn K (.ref C) "__getattr__" = some none)
  (hf:PySem.W.findObj K C od name=some (.value v)) (hh:PySem.W.handedIn v=true) (h:Q v { s with toks:=s.toks+1 }):wpAny (model prog w) A (getAttr (.ref e) name expr) Q E s:=by
 obtain⟨nm,qn,N,bs,bm,sn,sub,ab,col,dd,k0,k1,k2,k3,k5,mN,hC,hN,T⟩:=jx X q
 obtain⟨hp,g,d,t,os⟩:=s
 dsimp only at X I hC
 have ty:=I.type (M:=model prog w)
 have L1:=sJ (M:=model prog w) X hga
 have L2:=sJ (M:=model prog w) X hgb
 have L3:=PySem.W.looks_find (M:=model prog w) X I hf
 have FA:=PySem.F.attr_ValueError
 unfold getAttr getAttrBy
 refine aj (wpAny_mkText (eT (aj (ty.at (aj (L1.at ?_))))))
 dsimp only
 rw[show(onTheHeap (Value.ref C)&&Value.builtin "BaseException.__getattribute__" == Value.builtin "object.__getattribute__")=false from by rw[show(Value.builtin "BaseException.__getattribute__" == Value.builtin "object.__getattribute__")=false from by decide +kernel];rfl,aB (by decide)]
 refine aj (L2.at (aj (nO (eT ?_))))
 unfold callGetattribute
 rw[show(expr&&onTheHeap (Value.builtin "BaseException.__getattribute__"))=false from Bool.and_false _,aB (by decide)]
 unfold boundAndCalled
 rw[FA.ga.bind]
 refine aj (aE (gH (sI FA.ga.plain PySem.F.entry_bexc_ga ?_)))
 have sub:Looks (model prog w) hp (isInstance (.ref e) (.type "BaseException")) true:=ty.andThen (λA Q E s k z=>by
  obtain⟨h,g,d,t,os⟩:=s
  refine sF (k _ _ hC) ?_
  rw[vY,T.hasType (X:="BaseException") (b:=true) (by decide +kernel),pD]
  exact z)
 refine @yA (model prog w) _ _ ⟨hp,g,d,t+1,os⟩ "BaseException.__getattribute__" "BaseException" "__getattribute__" (.ref e) [.str name t] [] _ (by decide +kernel) (by decide +kernel) sub (PySem.F.args_bexc_ga (.ref e) (.str name t)) ?_
 refine aj (aE (aj (aE (aj (ty.at (aj (L3.at ?_)))))))
 refine aE ?_
 show wpAny _ _ (handedOut v) _ _ _
 rw[PySem.W.handedOut_of hh]
 exact aE h
end
abbrev M3(C:Addr)(dx:Option Addr)(t:Addr):Obj:={ cls:=.ref C,dict:=dx,data:=.fields #[.ref t,.none,.none,.none,.bool false,.none] }
section
variable {M:Model}{A:Around}{E:Value->Shared->Prop}{s:Shared}{K:Frag}{C:Addr}{env:Env}
theorem M0{x:Sem Value}{Q:Flow->Shared->Prop}(q:gQ K C=true)(hh:A.handled=none)(h:wpAny M A x (λv s₁=>∃e dx t,v=.ref e/\K.In s₁.heap/\s₁.heap.get? e=some (M3 C dx t)/\E (.ref e) s₁) E s) :
  wpAny M A (raiseStmt env (some x) none) Q E s:=by
 unfold raiseStmt
 refine aj (bV h (λv s₁ h₁=>?_) λ_ _ z=>z)
 obtain⟨e,dx,t,rfl,X,he,hE⟩:=h₁
 obtain⟨nm,qn,N,bs,bm,sn,sub,ab,col,dd,k0,k1,k2,k3,k5,mN,hC,hN,T⟩:=jx X q
 have hb:(Value.ref C::bm).contains (.type "BaseException")=true:=by rw[vY,T.hasType (X:="BaseException") (b:=true) (by decide +kernel),pD]
 obtain⟨hp,g,d,tk,os⟩:=s₁
 dsimp only at hC he
 repeat (first | with_reducible refine sA he ?_ | (with_reducible refine sF hC ?_;rw[hb]) | wp_step)
 exact yu hh hE
end
def yi(N:Addr->Prop)(h:Heap)(e C:Addr)(dx:Option Addr):Prop:=N e/\∃vs sl,h.get? e=some ⟨.ref C,dx,.fields vs,sl⟩/\vs[2]?=some .none/\(vs[1]?=some .none\/∃T oT ts,N T/\T≠e/\vs[1]?=some (.ref T)/\h.get? T=some oT/\oT.data=.fields ts/\ts[3]?=some .none)
structure Lv(fs ch:List Addr)(h h':Heap):Prop where
 keep:∀b o,b∉fs->b∉ch->h.get? b=some o->h'.get? b=some o
 slot:∀b o,b∈fs->h.get? b=some o->∃sl,h'.get? b=some { o with slots:=sl }
section
variable {M:Model}{A:Around}{E:Value->Shared->Prop}{s:Shared}{env:Env}{outer:List Env}{base:Heap}{N:Addr->Prop}{e C L:Addr}{dx:Option Addr}
theorem Fs{oe:Obj}{vs:Array Value}{head:Value}{K4:Bool}{Q:Unit->Shared->Prop}(o7:A.frames=some (env::outer))(hl:s.heap.FunFrames base (env::outer))(hf:env.frame=some L)
  (he:s.heap.get? e=some oe) (hd:oe.data=.fields vs) (hz:1<vs.size)
  (h:∀h' T oT ts,s.heap.objs.size<=T->T≠e->h'.get? e=some { oe with data:=.fields (vs.setIfInBounds 1 (.ref T)) }->h'.get? T=some oT->oT.data=.fields ts->ts[3]?=some (rawInt L)->
   (∀b o,b≠e->b∉ke (env::outer)->s.heap.get? b=some o->h'.get? b=some o)->(∀b o,b∈ke (env::outer)->s.heap.get? b=some o->∃sl,h'.get? b=some { o with slots:=sl })->h'.FunFrames base (env::outer)->Q () { s with heap:=h' }) :
  wpAny M A (do let a <-frameOf env;let pl <-entryPlaceOf L K4;let b <-EntryCells.newEntry head a .none (rawInt L) .none pl;setField (.ref e) 1 b) Q E s:=by
 have nf:∀b,b∈ke (env::outer)->b≠e:=λb hb z=>by
  obtain⟨_,o,ho,nd⟩:=hl.mem hb
  rw[z,he]at ho;cases ho;exact nd vs hd
 refine aj (wpAny_frameOf_fun o7 hl hf λh₁ so=>aj (wpAny_entryPlaceOf λpl jo=>?_))
 unfold EntryCells.newEntry newFields
 refine aj (eK ?_ (jo.sizeOk5 _ _ _ _ _))
 have Qo:h₁.get? e=some oe:=(so.2.1 e λz=>nf e z rfl).trans he
 have k2:∀b o,h₁.get? b=some o->(h₁.push { cls:=.type "traceback",dict:=none,data:=.fields ([head,.ref L,.none,rawInt L,.none]++(if pl.isEmpty then List.replicate 6 Value.none else pl)).toArray }).get? b=some o:=λb o z=>bC _ z
 have t2:=eG h₁ (o:={ cls:=.type "traceback",dict:=none,data:=.fields ([head,.ref L,.none,rawInt L,.none]++(if pl.isEmpty then List.replicate 6 Value.none else pl)).toArray }) rfl
 have t3:([head,.ref L,.none,rawInt L,.none]++(if pl.isEmpty then List.replicate 6 Value.none else pl)).toArray[3]?=some (rawInt L):=by simp
 generalize ([head,.ref L,.none,rawInt L,.none]++(if pl.isEmpty then List.replicate 6 Value.none else pl)).toArray=ts at k2 t2 t3 ⊢
 generalize h₁.push { cls:=.type "traceback",dict:=none,data:=.fields ts }=h₂ at k2 t2 ⊢
 have oN:=k2 _ _ Qo
 have Jx:h₁.objs.size≠e:=js (bf Qo)
 refine pF oN hd hz ?_
 have Oa:∀b o,b≠e->h₂.get? b=some o->(h₂.update e (Obj.mapFields (·.setIfInBounds 1 (Value.ref h₁.objs.size)))).get? b=some o:=λb o hb z=>(jl _ _ hb.symm).trans z
 have d3:=sD hd (·.setIfInBounds 1 (Value.ref h₁.objs.size))
 have he3:=jt (Obj.mapFields (·.setIfInBounds 1 (Value.ref h₁.objs.size))) oN (uE d3)
 have Uz:∀b o,b∈ke (env::outer)->s.heap.get? b=some o->∃sl,(h₂.update e (Obj.mapFields (·.setIfInBounds 1 (Value.ref h₁.objs.size)))).get? b=some { o with slots:=sl }:=λb o hb z=>by
  obtain⟨sl,e1⟩:=so.2.2 b o z
  exact⟨sl,Oa _ _ (nf b hb) (k2 _ _ e1)⟩
 refine h _ h₁.objs.size _ ts (Nat.le_of_eq so.1.symm) Jx ?_ (Oa _ _ Jx t2) rfl t3 (λb o hb hf z=>Oa b o hb (k2 _ _ ((so.2.1 b hf).trans z))) Uz ?_
 ·rw[he3]
  obtain⟨oc,od,Za,rO⟩:=oe
  dsimp only at hd
  subst hd
  rfl
 ·refine hl.of_keeps λb o hb nd=>?_
  obtain⟨sl,e1⟩:=so.2.2 b o hb
  refine⟨_,Oa b _ (λz=>?_) (k2 _ _ e1),rfl⟩
  rw[z,he]at hb;cases hb;exact nd vs hd
theorem Lz{T:Addr}{oe oT:Obj}{vs ts:Array Value}{Q:Unit->Shared->Prop}(he:s.heap.get? e=some oe)(hd:oe.data=.fields vs)(h1:vs[1]?=some (.ref T))(hT:s.heap.get? T=some oT)(hdT:oT.data=.fields ts)(hz:3<ts.size)
  (h:Q () { s with heap:=s.heap.update T (Obj.mapFields (·.setIfInBounds 3 Value.none)) }):wpAny M A (setFlight (.ref e) none) Q E s:=by
 unfold setFlight
 refine aj (fO he hd h1 ?_)
 rw[aC (show(Value.ref T != Value.none)=true from by simp)]
 exact pF hT hdT hz h
theorem Fq{Q:Unit->Shared->Prop}(o7:A.frames=some (env::outer))(hl:s.heap.FunFrames base (env::outer))(hf:env.frame=some L)(hN:∀b,s.heap.objs.size<=b->N b)(x:yi N s.heap e C dx)
  (h:∀h' ch,(∀b∈ch,N b/\∃o vs,s.heap.get? b=some o/\o.data=.fields vs)->yi N h' e C dx->Lv (ke (env::outer)) ch s.heap h'->Q () { s with heap:=h' }):wpAny M A (noteFrame (.ref e) env) (λ_ s'=>wpAny M A (setFlight (.ref e) none) Q E s') E s:=by
 obtain⟨ne,vs,sl,he,c2,tb⟩:=x
 have fin:∀(ch:List Addr) (rZ:∀b∈ch,N b/\∃o vs,s.heap.get? b=some o/\o.data=.fields vs) (s1:Shared) (h':Heap) (T:Addr) (oT:Obj) (ts:Array Value),s1.heap.objs.size=s.heap.objs.size->s1.heap.objs.size<=T->T≠e->h'.get? e=some ⟨.ref C,dx,.fields (vs.setIfInBounds 1 (.ref T)),sl⟩->1<vs.size->h'.get? T=some oT->oT.data=.fields ts->ts[3]?=some (rawInt L)->
   (∀b o,b∉ke (env::outer)->b∉ch->s.heap.get? b=some o->h'.get? b=some o)->(∀b o,b∈ke (env::outer)->s.heap.get? b=some o->∃sl,h'.get? b=some { o with slots:=sl })->s1={ s with heap:=s1.heap }->
   wpAny M A (setFlight (.ref e) none) Q E { s1 with heap:=h' }:=λch rZ s1 h' T oT ts hs hT Jx e1 hz t1 t2 t3 k1 k2 es=>by
  have v1:(vs.setIfInBounds 1 (Value.ref T))[1]?=some (.ref T):=by simp[hz]
  have z3:=(v7.mp t3).1
  refine Lz (s:={ s1 with heap:=h' }) e1 rfl v1 t1 t2 z3 ?_
  have nT:N T:=hN T (by omega)
  have ot:∀b o,b≠T->h'.get? b=some o->(h'.update T (Obj.mapFields (·.setIfInBounds 3 Value.none))).get? b=some o:=λb o hb z=>(jl _ _ hb.symm).trans z
  have t4:=jt (Obj.mapFields (·.setIfInBounds 3 Value.none)) t1 (uE (sD t2 _))
  have g:=h (h'.update T (Obj.mapFields (·.setIfInBounds 3 Value.none))) ch rZ ⟨ne,_,sl,ot _ _ Jx.symm e1,(by simpa [Array.getElem?_setIfInBounds]using c2),.inr ⟨T,_,_,nT,Jx,v1,t4,sD t2 _,by simp[z3]⟩⟩ ⟨λb o hb nb z=>ot b o (λy=>?_) (k1 b o hb nb z),λb o hb z=>?_⟩
  ·rw[es];exact g
  ·have:=bf z
   rw[y]at this
   exact absurd this (lX.mpr (by rw[<-hs];exact hT))
  ·obtain⟨U6,e2⟩:=k2 b o hb z
   refine⟨U6,ot b _ (λy=>?_) e2⟩
   obtain⟨_,o',BX,nd⟩:=hl.mem hb
   have:=bf BX
   rw[y]at this
   exact absurd this (lX.mpr (by rw[<-hs];exact hT))
 unfold noteFrame
 simp only[hf]
 rcases tb with h1 | ⟨T,oT,ts,nT,Jx,h1,hT,dT,h3⟩
 ·have hz:=(v7.mp h1).1
  refine aj (fO he rfl h1 ?_)
  rw[aB (by decide)]
  exact Fs o7 hl hf he rfl hz λh' T oT ts a1 a2 a3 a4 a5 a6 a7 a8 _=>fin [e] (λb hb=>by rw[di.mp hb];exact⟨ne,_,_,he,rfl⟩) s h' T oT ts rfl a1 a2 a3 hz a4 a5 a6 (λb o hb nb z=>a7 b o (λy=>nb (by rw[y];simp)) hb z) a8 rfl
 ·have hz:=(v7.mp h1).1
  refine aj (fO he rfl h1 ?_)
  rw[aC (show(Value.ref T != Value.none)=true by simp)]
  refine aj (fO hT dT h3 ?_)
  rw[aB (show ¬((Value.none==rawInt L)=true) by simp[rawInt])]
  refine aj (pF hT dT (v7.mp h3).1 ?_)
  have ot:∀b o,b≠T->s.heap.get? b=some o->(s.heap.update T (Obj.mapFields (·.setIfInBounds 3 Value.none))).get? b=some o:=λb o hb z=>(jl _ _ hb.symm).trans z
  have Zc:∀b o,s.heap.get? b=some o->(∀vs,o.data≠.fields vs)->b≠T:=λb o z nd y=>by rw[y,hT]at z;cases z;exact nd ts dT
  have WX:(s.heap.update T (Obj.mapFields (·.setIfInBounds 3 Value.none))).FunFrames base (env::outer):=hl.of_keeps λb o z nd=>⟨o,ot b o (Zc b o z nd) z,rfl⟩
  have sz:(s.heap.update T (Obj.mapFields (·.setIfInBounds 3 Value.none))).objs.size=s.heap.objs.size:=by simp
  have oN:=ot _ _ Jx.symm he
  generalize s.heap.update T (Obj.mapFields (·.setIfInBounds 3 Value.none))=hq at ot WX sz oN ⊢
  refine Fs (s:={ s with heap:=hq }) o7 WX hf oN rfl hz λh' T' oT' ts' a1 a2 a3 a4 a5 a6 a7 a8 _=>fin [e,T] (λb hb=>?_) { s with heap:=hq } h' T' oT' ts' sz a1 a2 a3 hz a4 a5 a6 (λb o hb nb z=>a7 b o (λy=>nb (by rw[y];simp)) hb (ot b o (λy=>nb (by rw[y];simp)) z)) (λb o hb z=>a8 b o hb (ot b o ?_ z)) rfl
  ·have:b=e\/b=T:=by simpa using hb
   rcases this with rfl | rfl
   ·exact⟨ne,_,_,he,rfl⟩
   ·exact⟨nT,_,_,hT,dT⟩
  ·obtain⟨_,o',BX,nd⟩:=hl.mem hb
   exact Zc b o' BX nd
theorem Fp{Q:Unit->Shared->Prop}(o7:A.frames=some (env::outer))(hl:s.heap.FunFrames base (env::outer))(hf:env.frame=some L)(hN:∀b,s.heap.objs.size<=b->N b)(x:yi N s.heap e C dx)
  (h:∀h' ch,(∀b∈ch,N b/\∃o vs,s.heap.get? b=some o/\o.data=.fields vs)->yi N h' e C dx->Lv (ke (env::outer)) ch s.heap h'->Q () { s with heap:=h' }):wpAny M A (leaving env (.ref e)) Q E s:=aj (Fq o7 hl hf hN x h)
end
structure XC(K:Frag)(C:Addr):Prop where
 is:gQ K C=true
 hd:PySem.W.hasDictIn K C=true
 sa:PySem.W.findIn K (.ref C) "__setattr__" = some (some (.builtin "object.__setattr__"))
 ga:PySem.W.findIn K (.ref C) "__getattribute__" = some (some (.builtin "BaseException.__getattribute__"))
 gn:PySem.W.findIn K (.ref C) "__getattr__" = some none
 ca:PySem.W.findIn K (.ref C) "__class__" = some (some (.builtin "object.__class__"))
 cn:PySem.W.specialIn K (.builtin "object.__class__") "__get__" = some (some (.builtin "getset_descriptor.__get__"))
 ct:PySem.W.takesIn K (.builtin "object.__class__")=some true
 cm:PySem.W.mroIn K C (.type "object")=some true
section
variable {prog:Program}{w:World}{A:Around}{E:Value->Shared->Prop}{s:Shared}{K:Frag}{C e:Addr}{oe:Obj}{od:Option Obj}
theorem M5{Q:Option Value->Shared->Prop}(c:XC K C)(X:K.In s.heap)(I:PySem.W.InstAt s.heap e oe C od)(h:Q (some (.ref C)) { s with toks:=s.toks+1 }):wpAny (model prog w) A (getAttr? (.ref e) "__class__") Q E s:=by
 have hf:PySem.W.findObj K C od "__class__" = some (.bind (.builtin "getset_descriptor.__get__") (.builtin "object.__class__")):=by
  obtain⟨cd,hc,_⟩:=PySem.W.any_some c.hd
  unfold PySem.W.findObj
  rw[hc,uz,c.ca,uz]
  dsimp only
  rw[c.cn,uz]
  dsimp only
  rw[c.ct,uz]
 obtain⟨nm,qn,N,bs,bm,sn,sub,ab,col,dd,k0,k1,k2,k3,k5,mN,hC,hN,T⟩:=jx X c.is
 obtain⟨hp,g,d,t,os⟩:=s
 dsimp only at X I hC
 have ty:=I.type (M:=model prog w)
 have L1:=sJ (M:=model prog w) X c.ga
 have L2:=sJ (M:=model prog w) X c.gn
 have L3:=PySem.W.looks_find (M:=model prog w) X I hf
 have FA:=PySem.F.attr_ValueError
 unfold getAttr? getAttrBy? getAttrBy
 refine aj (wpAny_mkText (aj (nO (eT (aj (ty.at (aj (L1.at ?_))))))))
 dsimp only
 rw[show(onTheHeap (Value.ref C)&&Value.builtin "BaseException.__getattribute__" == Value.builtin "object.__getattribute__")=false from by rw[show(Value.builtin "BaseException.__getattribute__" == Value.builtin "object.__getattribute__")=false from by decide +kernel];rfl,aB (by decide)]
 refine aj (L2.at (aj (nO (eT ?_))))
 unfold callGetattribute
 rw[show(false&&onTheHeap (Value.builtin "BaseException.__getattribute__"))=false from rfl,aB (by decide)]
 unfold boundAndCalled
 rw[FA.ga.bind]
 refine aj (aE (gH (sI FA.ga.plain PySem.F.entry_bexc_ga ?_)))
 have sub:Looks (model prog w) hp (isInstance (.ref e) (.type "BaseException")) true:=ty.andThen (λA Q E s k z=>by
  obtain⟨h,g,d,t,os⟩:=s
  refine sF (k _ _ hC) ?_
  rw[vY,T.hasType (X:="BaseException") (b:=true) (by decide +kernel),pD]
  exact z)
 refine @yA (model prog w) _ _ ⟨hp,g,d,t+1,os⟩ "BaseException.__getattribute__" "BaseException" "__getattribute__" (.ref e) [.str "__class__" t] [] _ (by decide +kernel) (by decide +kernel) sub (PySem.F.args_bexc_ga (.ref e) (.str "__class__" t)) ?_
 refine aj (aE (aj (aE (aj (ty.at (aj (L3.at ?_)))))))
 refine aj (eT (gH (PySem.W.class_get (s:=⟨hp,g,d,t+1,os⟩) (ox:=oe) (od:=od) X I c.cm ?_)))
 refine aE ?_
 show wpAny _ _ (handedOut (.ref C)) _ _ _
 rw[PySem.W.handedOut_of rfl]
 exact aE (aE h)
theorem xl(c:XC K C):PySem.W.KitX K (.ref e) (.ref C) (λh=>∃oe od,PySem.W.InstAt h e oe C od) where
 ty:=λ_ _ _ ⟨_,_,I⟩=>I.type
 it:=λM h X _=>by
  obtain⟨nm,qn,N,bs,bm,sn,sub,ab,col,dd,k0,k1,k2,k3,k5,mN,hC,hN,T⟩:=jx X c.is
  intro A' Q' E' s' k q
  unfold isType loadHead
  exact aj (wpAny_loadPart (k _ _ hC) (aE q))
 ne:=λh tp dd its n sl X Z1=>by
  obtain⟨nm,qn,N,bs,bm,sn,sub,ab,col,dd,k0,k1,k2,k3,k5,mN,hC,hN,T⟩:=jx X c.is
  refine Bool.eq_false_iff.mpr λq=>?_
  have e:C=tp:=Value.ref.inj (beq_iff_eq.mp q)
  subst e
  rw[hC]at Z1
  exact absurd (g4 (λo:Obj=>o.cls) (dB Z1)) (show ¬Value.type "type" = Value.type "tuple" by decide)
 ca:=λX ⟨_,_,I⟩ k=>M5 c X I k
end
def vX(P:Program)(w:World):CQ:=λouter H s E x s'=>∃e C dx H',x=.ref e/\s'.os=s.os/\AllBare s'.gens/\Un (ke outer) [] H H' s.heap s'.heap/\gb P w H' s'.heap/\yi (λb=>s.heap.objs.size<=b/\H' b=none) s'.heap e C dx/\E (.ref C) dx H'
def XN(X:Cx)(pins:List (Addr×Obj))(H:Hp)(b:Addr):Prop:=X.s₀.heap.objs.size<=b/\H b=none/\b≠X.env.locals/\(∀x c,X.env.cells.lookup x=some c->c≠b)/\∀p∈X.pn++pins,p.1≠b
theorem XN.new{X:Cx}{pins:List (Addr×Obj)}{σ:St}{H H':Hp}{s:Shared}(I:Inv X pins σ H s){b:Addr}(hb:s.heap.objs.size<=b)(hn:H' b=none):XN X pins H' b:=by
 have nb:∀{c:Addr} {o:Obj},s.heap.get? c=some o->c≠b:=λz y=>absurd (bf z) (by rw[y];exact lX.mpr hb)
 refine⟨fz I.sz hb,hn,λy=>?_,λx c e=>?_,λp hp=>nb (I.pin p hp).1⟩
 ·obtain⟨m,⟨o,_,_,ho,_⟩,_⟩:=I.loc
  exact nb ho y.symm
 ·obtain⟨v,o,ho,_⟩:=I.cell x c e
  exact nb ho
def fH(X:Cx)(EH:St->XK):Prop:=∀(pins:List (Addr×Obj)) (σ:St) (H:Hp) (s:Shared) (e C:Addr) (dx:Option Addr),Inv X pins σ H s->yi (XN X pins H) s.heap e C dx->EH σ (.ref C) dx H->X.xe (.ref e) s
theorem yi.mono{N N':Addr->Prop}{h:Heap}{e C:Addr}{dx:Option Addr}(k:∀b,N b->N' b)(x:yi N h e C dx):yi N' h e C dx:=by
 obtain⟨n,vs,sl,he,c2,tb⟩:=x
 refine⟨k _ n,vs,sl,he,c2,tb.imp id ?_⟩
 rintro⟨T,oT,ts,nT,r⟩
 exact⟨T,oT,ts,k _ nT,r⟩
theorem fH.pass{X:Cx}{EH:St->XK}(L:fH X EH){pins:List (Addr×Obj)}{σ:St}{H:Hp}{s s':Shared}{x:Value}(I:Inv X pins σ H s)(h:vX X.prog X.w X.stack H s (EH σ) x s'):X.xe x s':=by
 obtain⟨e,C,dx,H',rfl,os,bare,un,bp,xa,q⟩:=h
 have I':Inv X pins σ H' s':=I.call' os un bp bare (λb z=>absurd z (by simp))
 exact L pins σ H' s' e C dx I' (xa.mono λb hb=>.new I hb.1 hb.2) q
section
variable {P:Program}{w:World}{K:Frag}{mg:Str->Option Value}{base:Heap}
theorem Hv{N:List Str}{qual:Str}{scope:Scope}{f:Addr}{cd:Value}{A:Around}{outer:List Env}{s:Shared}{H:Hp}{E:XK}:fH (cM (vX P w) P w K mg base N qual scope f cd A outer s H E) (λ_=>E):=by
 intro pins σ H1 s1 e C dx I xa hE
 have hsz:s.heap.objs.size<=s1.heap.objs.size:=I.sz
 refine Fp (L:=s.heap.objs.size) (N:=λb=>s.heap.objs.size<=b/\H1 b=none) (base:=base) I.ok.frames I.stack rfl (λb hb=>⟨fz hsz hb,I.bp.fresh hb⟩) (xa.mono λb hb=>⟨hb.1,hb.2.1⟩) λh' ch rZ QB lv=>?_
 have nn:∀b o,s.heap.get? b=some o->b∉ch:=λb o z y=>absurd (bf z) (lX.mpr (rZ b y).1.1)
 have nf:∀b o,s.heap.get? b=some o->b∉ke outer->b∉ke (envOfC qual scope s.heap.objs.size f cd::outer):=λb o z hb y=>by
  rcases ck.mp (show b∈s.heap.objs.size::ke outer from y) with y | y
  ·have:=bf z
   rw[y]at this
   exact gJ _ this
  ·exact hb y
 have sub:∀b,b∈ke outer->b∈ke (envOfC qual scope s.heap.objs.size f cd::outer):=λb hb=>dR (a:=b) s.heap.objs.size hb
 have un:Un (ke outer) [] H H1 s.heap s1.heap:=I.base
 refine⟨e,C,dx,H1,rfl,I.os,I.bare,⟨λb o z n hb hx=>lv.keep b o (nf b o z hb) (nn b o z) (un.keep b o z n hb hx),λb o z n hb hx=>?_,un.free,λb o z hx=>?_,un.tups,un.frzs,un.tbls⟩,λa u z=>?_,QB,hE⟩
 ·obtain⟨sl,z1⟩:=un.slot b o z n hb hx
  obtain⟨Gg,z2⟩:=lv.slot b _ (sub b hb) z1
  exact⟨Gg,z2⟩
 ·obtain⟨o',z1⟩:=un.there b o z hx
  by_cases hb:b∈ke (envOfC qual scope s.heap.objs.size f cd::outer)
  ·obtain⟨Gg,z2⟩:=lv.slot b _ hb z1
   exact⟨_,z2⟩
  ·exact⟨o',lv.keep b o' hb (nn b o z) z1⟩
 ·refine(I.bp a u z).stay (λb v hb y=>?_) (λ_ q=>q) λ_ _ q=>q
  have hn:¬H1 b=none:=λy=>by
   rcases hb with rfl | hb
   ·rw[z]at y;cases y
   ·rw[hb]at y;cases y
  exact lv.keep b v (λy=>hn (I.mF b y)) (λy=>hn (rZ b y).1.2) y
theorem ji.Y8{x qual:Str}{st:Stmt}{f:Addr}{fd:FuncData}{N ps:List Str}{k:Nat}{sp:Sp}(F:ji K x qual st f fd)(S:aL N ps (ag st))(len:∀vs H Q E,sp vs H Q E->vs.length=ps.length)
  (dm:∀(bE:Value) (A:Around) (outer:List Env) (s:Shared) (H:Hp) (vs:List V) (Q:VK) (E:XK),cB k (A.deeper (envOfC qual (ag st) s.heap.objs.size f bE))->sp vs H Q E->
   HC (cM (vX P w) P w K mg base N qual (ag st) f bE A outer s H E) N (ag st)->(∀x,(cM (vX P w) P w K mg base N qual (ag st) f bE A outer s H E).fn x=true)->
   fH (cM (vX P w) P w K mg base N qual (ag st) f bE A outer s H E) (λ_=>E)->PassesOwn (model P w) (cM (vX P w) P w K mg base N qual (ag st) f bE A outer s H E).A (cM (vX P w) P w K mg base N qual (ag st) f bE A outer s H E).env (cM (vX P w) P w K mg base N qual (ag st) f bE A outer s H E).xe->
   ∃t,uh (cM (vX P w) P w K mg base N qual (ag st) f bE A outer s H E) (aI st) t/\t { nx:=λ_ H'=>Q .non H',rt:=Q } (start N vs) H):cw P w K mg base (vX P w) (k+1) f fd ps sp:=by
 obtain⟨oc,od,kV,doc,pm,an,bE,ct,rO,rfl,lk,nA⟩:=F.ex
 refine Ii lk nA S len λA outer s H vs Q E hr o4=>?_
 obtain⟨t,h,q⟩:=dm bE A outer s H vs Q E hr o4 ⟨rfl,rfl⟩ (λ_=>rfl) Hv PassesOwn.leaving
 exact⟨t,h.to,q⟩
end
section
variable {X:Cx}{k:Nat}{f C:Addr}{fd:FuncData}{ps:List Str}{sp:Sp}{EH:St->XK}{x:Str}{p pos:Pos}{e:Expr}{es:List Expr}{t:TA}
def uV(sp:Sp)(EH:St->XK)(t:TA):TE:=λσ H Q=>t σ H λvs H1=>sp vs H1 Q (EH σ)
theorem JX{pins:List (Addr×Obj)}{σ:St}{H:Hp}{s:Shared}{Q:VK}{us:List Value}{vs:List V}(F:cw X.prog X.w X.K X.mg X.base (vX X.prog X.w) k f fd ps sp)(hr:cB k X.A)(hb:Binds X.K fd ps [])(hx:fH X EH)
  (I:Inv X pins σ H s) (r:Vals vs us) (h:sp vs H Q (EH σ)):wpAny (model X.prog X.w) X.A (call (.ref f) us) (EP X pins σ Q) X.xe s:=by
 have hl:us.length=ps.length:=by rw[<-r.length];exact F.len _ _ _ _ h
 have b:=hb s us I.jn (by rw[gh];exact hl)
 rw[gh]at b
 refine gH (gI (F.run X.A X.stack s H ⟨us,[]⟩ us vs Q (EH σ) hr I.z5 b r h) λr s' hq=>?_)
 cases r with
 | error e=>exact hx.pass I hq
 | ok fl=>
  cases fl with
  | ret u=>exact I.after hq
  | _=>exact False.elim hq
theorem Hc(F:cw X.prog X.w X.K X.mg X.base (vX X.prog X.w) k f fd ps sp)(hr:cB k X.A)(hg:Gl X x)(hm:X.mg x=some (.ref f))(hk:PySem.W.keepIn X.K (.ref f)=true)(hb:Binds X.K fd ps [])(hx:fH X EH)
  (ha:PA X (e::es) t) (jI:(x==("__debug__" : Str))=false:=by decide) (he:starEach (e::es) X.env=(false,eval e X.env)::starEach es X.env:=by rfl) (jo:(backTo pos (starEach es X.env)).any (·.1)=false:=by rfl) :
  PE X (.Call (.Name x p) (e::es) [] pos) (uV sp EH t):=by
 intro pins s σ H Q I h
 refine lZ (fW I hg hm ?_ jI)
 exact sH (h₀:=X.base) I.ok.mod.Jt hk (cp (ha pos pins s σ H _ I h) λus s1 ⟨vs,H1,I1,r,q⟩=>⟨I1.jn,JX F hr hb hx I1 r q⟩) he jo
theorem j3(F:cw X.prog X.w X.K X.mg X.base (vX X.prog X.w) k f fd ps sp)(hr:cB k X.A)(hg:Gl X x)(hm:X.mg x=some (.ref f))(hk:PySem.W.keepIn X.K (.ref f)=true)(hb:Binds X.K fd ps [])(hx:fH X EH)
  (ha:ZA X (e::es) t) (jI:(x==("__debug__" : Str))=false:=by decide) (he:starEach (e::es) X.env=(false,eval e X.env)::starEach es X.env:=by rfl) (jo:(backTo pos (starEach es X.env)).any (·.1)=false:=by rfl) :
  ZE X (.Call (.Name x p) (e::es) [] pos) (uV sp EH t):=⟨Hc F hr hg hm hk hb hx ha.to jI he jo⟩
end
section
variable {X:Cx}{k:Nat}{fI C:Addr}{fd:FuncData}{ps:List Str}{sp:Sp}{EH:St->XK}{x:Str}{np cE pos:Pos}{a:Expr}{t:TA}
def Bb(C:Addr)(t:TA)(EH:St->XK):TS:=λ_ σ H=>t σ H λvs H1=>vs.length<=sizeLine/\EH σ (.ref C) none H1
def gC(e C:Addr)(dx:Option Addr)(t:Addr):Heap->Prop:=λh=>h.get? e=some (M3 C dx t)
theorem uM{P:Program}{w:World}{H:Hp}{h:Heap}{e C t:Addr}{dx:Option Addr}(z:h.get? e=some (M3 C dx t)):bW P w H h e (.ext (gC e C dx t)):=⟨z,⟨_,z⟩,λh1 h2 a b=>b _ a⟩
def qq(C:Addr)(fld:Str):Sp:=λvs H Q _=>∃e v t,vs=[.ref e,v]/\H e=some (.ext (gC e C none t))/\∀dx t',H dx=none->dx≠e->Q .non (upd (upd H e (.ext (gC e C (some dx) t'))) dx (.xd [(fld,v)]))
def fD(H:Hp)(e:Addr):Hp:=λb=>if b=e then none else H b
theorem cL{H:Hp}{e:Addr}:fD H e e=none:=aC rfl
theorem cj{H:Hp}{e b:Addr}(h:b≠e):fD H e b=H b:=aB h
theorem kf{H:Hp}{e b:Addr}(h:H b=none):fD H e b=none:=by
 by_cases hb:b=e
 ·rw[hb];exact cL
 ·rw[cj hb];exact h
theorem Inv.forget{pins:List (Addr×Obj)}{σ:St}{H:Hp}{s:Shared}{e:Addr}{φ:Heap->Prop}(I:Inv X pins σ H s)(he:H e=some (.ext φ)):Inv X pins σ (fD H e) s:=by
 have ne:∀{b:Addr} {u:HO},H b=some u->(HO.ext φ≠u)->b≠e:=λz n=>(qB he z n).symm
 have ok:gb X.prog X.w (fD H e) s.heap:=λb u z=>by
  by_cases hb:b=e
  ·rw[hb,cL]at z;cases z
  ·rw[cj hb]at z
   refine(I.bp b u z).stay (λ_ _ _ q=>q) (λc q=>?_) λc xs q=>?_
   ·rw[cj (ne q (by intro z;cases z))];exact q
   ·rw[cj (ne q (by intro z;cases z))];exact q
 refine⟨I.ok,I.os,I.bare,⟨I.base.keep,I.base.slot,λb ob z n hx=>kf (I.base.free b ob z n hx),I.base.there,λb xs z=>?_,λb ob u z=>?_,λb ps z=>?_⟩,I.loc,I.cell,kf I.free,λx c z=>kf (I.dC x c z),λp hp=>?_,ok,I.len⟩
 ·have e1:=I.base.tups b xs z
  rw[cj (ne e1 (by intro z;cases z))];exact e1
 ·have e1:=I.base.frzs b ob u z
  rw[cj (ne e1 (by intro z;cases z))];exact e1
 ·obtain⟨m,e1⟩:=I.base.tbls b ps z
  exact⟨m,by rw[cj (ne e1 (by intro z;cases z))];exact e1⟩
 ·obtain⟨p1,p2,p3⟩:=I.pin p hp
  exact⟨p1,kf p2,p3⟩
def oW(C:Addr)(fld:Str)(t:TE)(EH:St->XK):TS:=λ_ σ H=>t σ H λv H1=>∀dx,H1 dx=none->EH σ (.ref C) (some dx) (upd H1 dx (.xd [(fld,v)]))
theorem Dv{fld:Str}{te:TE}(c:XC X.K C)(hi:PySem.W.findIn X.K (.ref C) "__init__" = some (some (.ref fI)))(hf:PySem.W.typeIn X.K (.ref fI)=some (.type "function"))(hk:PySem.W.keepIn X.K (.ref C)=true)
  (F:cw X.prog X.w X.K X.mg X.base eB k fI fd ps (qq C fld)) (hb:Binds X.K fd ps []) (hr:cB (k+1) X.A) (hg:Gl X x) (hm:X.mg x=some (.ref C)) (hc:X.calm=true) (L:fH X EH) (ha:PE X a te)
  (jI:(x==("__debug__" : Str))=false:=by decide) (he:starEach [a] X.env=(false,eval a X.env)::starEach [] X.env:=by rfl) (jo:(backTo cE (starEach [] X.env)).any (·.1)=false:=by rfl) :
  PS X (.Raise (some (.Call (.Name x np) [a] [] cE)) none pos) (oW C fld te EH):=by
 intro pins s σ H D I h
 rw[arm_exec_Raise]
 refine aj (pC (M0 c.is (I.ok.hd hc) ?_))
 refine aj (lZ (fW I hg hm ?_ jI))
 refine sH (h₀:=X.base) I.ok.mod.Jt hk (cp (vm ha He he cE pins s σ H (λvs H1=>match vs with | [v]=>(∀dx,H1 dx=none->EH σ (.ref C) (some dx) (upd H1 dx (.xd [(fld,v)]))) | _=>False) I h) λus s1 ⟨vs,H1,I1,r,q⟩=>⟨I1.jn,?_⟩) he jo
 match vs,q,r with
 | [v],q,r=>
  have ul:us.length<=sizeLine:=by rw[<-r.length];show 1<=sizeLine;decide
  refine IV I1.jn c.is hi hf (λh' mk=>?_) ul
  obtain⟨t,e1,_,_⟩:=mk.there
  have fe:H1 (s1.heap.objs.size+1)=none:=I1.bp.fresh (jq _)
  have I2:=I1.laid (a:=s1.heap.objs.size+1) (o:=.ext (gC (s1.heap.objs.size+1) C none t)) (t':=s1.toks) mk.keeps (jq _) (uM e1)
  have fe2:∀H':Hp,H' (s1.heap.objs.size+1)=none->XN X pins H' (s1.heap.objs.size+1):=λH' z=>.new I1 (jq _) z
  generalize s1.heap.objs.size+1=e at e1 fe I2 fe2
  have hq:qq C fld [.ref e,v] (upd H1 e (.ext (gC e C none t))) (λu H2=>u=.non/\∃dx t',H1 dx=none/\dx≠e/\H2=upd (upd (upd H1 e (.ext (gC e C none t))) e (.ext (gC e C (some dx) t'))) dx (.xd [(fld,v)])) E0:=⟨e,v,t,rfl,ak,λdx t' hd o6=>⟨rfl,dx,t',by rwa [ay o6]at hd,o6,rfl⟩⟩
  have r2:Vals [V.ref e,v] (Value.ref e::us):=.cons rfl r
  have hl:(Value.ref e::us).length=ps.length:=by rw[<-r2.length];exact F.len _ _ _ _ hq
  have b:=hb _ (Value.ref e::us) I2.jn (by rw[gh];exact hl)
  rw[gh]at b
  refine gH (gI (F.run _ X.stack _ _ ⟨Value.ref e::us,[]⟩ (Value.ref e::us) _ _ E0 (hr.make C us []) (I2.z5.make C us []) b r2 hq) λr s' O2=>?_)
  cases r with
  | error e=>exact False.elim O2
  | ok fl=>
   cases fl with
   | ret u=>
    obtain⟨v',H3,I3,rv,rfl,dx,t',K1,o6,rfl⟩:=I2.after O2
    have e3:upd (upd (upd H1 e (.ext (gC e C none t))) e (.ext (gC e C (some dx) t'))) dx (.xd [(fld,v)]) e=some (.ext (gC e C (some dx) t')):=by rw[ay o6.symm,ak]
    have o3:gC e C (some dx) t' s'.heap:=(I3.bp e _ e3).1
    have I4:=Inv.forget I3 e3
    have eh:fD (upd (upd (upd H1 e (.ext (gC e C none t))) e (.ext (gC e C (some dx) t'))) dx (.xd [(fld,v)])) e=upd H1 dx (.xd [(fld,v)]):=by
     funext b
     by_cases hb:b=e
     ·rw[hb,cL,ay o6.symm,fe]
     ·rw[cj hb]
      by_cases hd:b=dx
      ·rw[hd,ak,ak]
      ·rw[ay hd,ay hd,ay hb,ay hb]
    rw[eh]at I4
    refine⟨rv,aj (pC (aE ⟨e,some dx,t',rfl,I4.jn,o3,L pins σ _ _ e C (some dx) I4 ⟨fe2 _ (by rw[ay o6.symm];exact fe),_,_,o3,rfl,.inl rfl⟩ (q dx K1)⟩))⟩
   | _=>exact False.elim O2
end
section
variable {X:Cx}{B:Addr}{x:Str}{np cE apos pos pos':Pos}{a b o value:Expr}{t:TA}{ta tv:TE}{fld:Str}
def Bf(K:Frag)(t:TA):TE:=λσ H Q=>t σ H λvs H1=>∃e C t0 v,vs=[.ref e,v]/\H1 e=some (.ext (gC e C none t0))/\XC K C/\∀t',Q .non (upd H1 e (.ext (gC e C none t')))
theorem Li{pins:List (Addr×Obj)}{σ:St}{H1:Hp}{s1:Shared}{us:List Value}{vs:List V}{Q:VK}{A:Around}{E:Value->Shared->Prop}(I1:Inv X pins σ H1 s1)(r:Vals vs us)
  (h:∃e C t0 v,vs=[.ref e,v]/\H1 e=some (.ext (gC e C none t0))/\XC X.K C/\∀t',Q .non (upd H1 e (.ext (gC e C none t')))):wpAny (model X.prog X.w) A (call (.builtin "ValueError.__init__") us) (EP X pins σ Q) E s1:=by
 obtain⟨e,C,t0,v,rfl,he,c,q⟩:=h
 obtain⟨u1,u2,rfl,r1,r2⟩:=r.two
 obtain rfl:u1=Value.ref e:=r1
 have o1:s1.heap.get? e=some (M3 C none t0):=(I1.bp e _ he).1
 have e1:(s1.heap.push { cls:=.type "tuple",data:=.seq [u2].toArray }).get? e=some (M3 C none t0):=bC _ o1
 have e2:((s1.heap.push { cls:=.type "tuple",data:=.seq [u2].toArray }).update e (Obj.mapFields (·.setIfInBounds 0 (Value.ref s1.heap.objs.size)))).get? e=some (M3 C none s1.heap.objs.size):=(jt _ e1 rfl).trans rfl
 have k2:∀b ob,b≠e->s1.heap.get? b=some ob->((s1.heap.push { cls:=.type "tuple",data:=.seq [u2].toArray }).update e (Obj.mapFields (·.setIfInBounds 0 (Value.ref s1.heap.objs.size)))).get? b=some ob:=λb ob hb z=>(jl _ _ hb.symm).trans (bC _ z)
 refine Et I1.jn c.is o1 ?_ (show 1<=sizeLine by decide)
 generalize ((s1.heap.push { cls:=.type "tuple",data:=.seq [u2].toArray }).update e (Obj.mapFields (·.setIfInBounds 0 (Value.ref s1.heap.objs.size))))=h2 at e2 k2 ⊢
 exact⟨.non,_,I1.write (x:=e) (e:=e) (o:=.ext (gC e C none s1.heap.objs.size)) (t':=s1.toks) (by rw[he];trivial) (.inl rfl) (λb ob hb z=>k2 b ob hb z) ⟨_,e2⟩ (uM e2),rfl,q _⟩
theorem Ku{pl:Sem Bool}(hr:PySem.W.readsIn X.K B (.type "type")=true)(hf:PySem.W.findCls X.K (.ref B) (.type "type") "__init__" = some (.val (.builtin "ValueError.__init__")))
  (hs:PySem.W.specialIn X.K (.ref B) "__getattribute__" = some (some (.builtin "type.__getattribute__"))) (hg:Gl X x) (hm:X.mg x=some (.ref B)) (ha:PA X [a,b] t)
  (jI:(x==("__debug__" : Str))=false:=by decide) (BV:starEach [a,b] X.env=(false,eval a X.env)::starEach [b] X.env:=by rfl) (jo:(backTo cE (starEach [b] X.env)).any (·.1)=false:=by rfl)
  (ht:eval (.Call (.Attribute (.Name x np) "__init__" apos) [a,b] [] cE) X.env=(do
   let ov <-eval (.Name x np) X.env
   standAt apos.atName
   let (f,first) <-holding [ov] (getMethod ov "__init__" pl)
   callWith cE f first (backTo cE (starEach [a,b] X.env)) (backToKw cE (keywordEach [] X.env))):=by rfl) :
  PE X (.Call (.Attribute (.Name x np) "__init__" apos) [a,b] [] cE) (Bf X.K t):=by
 intro pins s σ H Q I h
 refine PySem.W.methodCall_KW (pl:=pl) (fW I hg hm ?_ jI) ht
 refine PySem.W.method_cls I.jn hs (PySem.W.cls_value I.jn hr hf rfl ?_)
 have I0:Inv X pins σ H { s with toks:=s.toks+1 }:=I.tok _
 show wpAny _ _ (callWith cE (.builtin "ValueError.__init__") [] (backTo cE (starEach [a,b] X.env)) []) _ _ _
 exact Ff (cp (ha cE pins _ σ H _ I0 h) λus s1 ⟨vs,H1,I1,r,q⟩=>Li I1 r q) BV jo
def Bk(K:Frag)(ta tv:TE)(fld:Str):TS:=λD σ H=>tv σ H λy H1=>ta σ H1 λx H2=>∃e C t,x=.ref e/\H2 e=some (.ext (gC e C none t))/\XC K C/\PySem.W.takerIn K C fld=some none/\
 ∀dx,H2 dx=none->dx≠e->D.nx σ (upd (upd H2 e (.ext (gC e C (some dx) t))) dx (.xd [(fld,y)]))
theorem Kg(ha:PE X o ta)(hv:PE X value tv)(hs:swapsWith value (some (.Attribute o fld pos')) pos.line X.env=pure false):PS X (.Assign [.Attribute o fld pos'] value pos) (Bk X.K ta tv fld):=by
 intro pins s σ H D I h
 refine plainObj_wpAny_Assign_Attribute (cp (hv pins s σ H _ I h) λu s1 ⟨y,H1,I1,ry,q⟩=>cp (ha pins s1 σ H1 _ I1 q) λov s2 ⟨x,H2,I2,rx,e,C,t,ex,he,c,tk,q2⟩=>?_) hs
 subst ex
 obtain rfl:ov=Value.ref e:=rx
 have o2:s2.heap.get? e=some (M3 C none t):=(I2.bp e _ he).1
 refine Um I2.jn c.is o2 rfl rfl rfl c.sa tk λh' QG e3 n3 k3=>?_
 have hd:H2 s2.heap.objs.size=none:=I2.bp.fresh (bu _)
 have hde:s2.heap.objs.size≠e:=js (bf o2)
 have hdn:s2.heap.get? s2.heap.objs.size=none:=pw (bu _)
 generalize s2.heap.objs.size=dx at e3 n3 hd hde hdn
 have U:∀{b:Addr},b≠e->b≠dx->upd (upd H2 e (.ext (gC e C (some dx) t))) dx (.xd [(fld,y)]) b=H2 b:=λh1 h2=>by rw[ay h2,ay h1]
 have ne:∀{b:Addr} {z:HO},H2 b=some z->(HO.ext (gC e C none t)≠z)->b≠e:=λz n=>(qB he z n).symm
 have nd:∀{b:Addr} {z:HO},H2 b=some z->b≠dx:=λz y=>by rw[y,hd]at z;cases z
 have nb:∀{b:Addr} {z:Obj},s2.heap.get? b=some z->b≠dx:=λz y=>by rw[y,hdn]at z;cases z
 have nn:∀{b:Addr},H2 b=none->b≠e:=λz y=>by rw[y,he]at z;cases z
 refine⟨σ,_,I2.un (H':=upd (upd H2 e (.ext (gC e C (some dx) t))) dx (.xd [(fld,y)])) (t':=QG) ⟨λb ob z n _ _=>k3 b ob (nn n) z,λb ob z n _ _=>⟨ob.slots,k3 b ob (nn n) z⟩,λb ob z n _=>by rw[U (nn n) (nb z)];exact n,λb ob z _=>?_,λb xs z=>?_,λb ob z' z=>?_,λb ps z=>⟨#[],?_⟩⟩ λb z hz=>?_,q2 dx hd hde⟩
 ·by_cases hb:b=e
  ·rw[hb];exact⟨_,e3⟩
  ·exact⟨ob,k3 b ob hb z⟩
 ·rw[U (ne z (by intro z;cases z)) (nd z)];exact z
 ·rw[U (ne z (by intro z;cases z)) (nd z)];exact z
 ·rw[U (ne z (by intro z;cases z)) (nd z),z];simp
 ·by_cases hb:b=dx
  ·rw[hb,ak]at hz
   cases hz
   rw[hb]
   refine⟨_,n3,λf=>?_⟩
   by_cases hf:f=fld
   ·rw[hf,aC rfl]
    simp only[List.lookup,g8]
    exact ry
   ·rw[aB hf]
    have:(f==fld)=false:=yF.mpr hf
    simp only[List.lookup,this]
    trivial
  ·rw[ay hb]at hz
   by_cases T5:b=e
   ·rw[T5,ak]at hz
    cases hz
    rw[T5]
    exact uM e3
   ·rw[ay T5]at hz
    refine(I2.bp b z hz).stay (λc v hc y=>k3 c v ?_ y) (λc y=>?_) λc xs y=>?_
    ·rcases hc with rfl | hc
     ·exact T5
     ·exact ne hc (by intro z;cases z)
    ·rw[U (ne y (by intro z;cases z)) (nd y)];exact y
    ·rw[U (ne y (by intro z;cases z)) (nd y)];exact y
end
def kx(e C:Addr)(dx:Option Addr):Heap->Prop:=λh=>∃vs sl,h.get? e=some ⟨.ref C,dx,.fields vs,sl⟩/\vs[2]?=some .none
section
variable {X:Cx}{pins:List (Addr×Obj)}{σ:St}{H:Hp}{s:Shared}{e C:Addr}{dx:Option Addr}
theorem Inv.left{ch:List Addr}{h':Heap}(I:Inv X pins σ H s)(rZ:∀b∈ch,XN X pins H b)(lv:Lv (ke X.stack) ch s.heap h'):Inv X pins σ H { s with heap:=h' }:=by
 refine I.call (H':=H) (g':=s.gens) (t':=s.toks) (d':=s.drawn) (ch:=ch) ⟨λb o z n hb hc=>lv.keep b o hb hc z,λb o z n hb hc=>lv.slot b o hb z,λ_ _ _ n _=>n,λb o z hc=>?_,λ_ _ z=>z,λ_ _ _ z=>z,λb ps z=>⟨#[],by rw[z];simp⟩⟩ (λa u z=>?_) I.bare λb hb=>?_
 ·by_cases hb:b∈ke X.stack
  ·obtain⟨sl,q⟩:=lv.slot b o hb z
   exact⟨_,q⟩
  ·exact⟨o,lv.keep b o hb hc z⟩
 ·refine(I.bp a u z).stay (λb v hb y=>?_) (λ_ q=>q) λ_ _ q=>q
  have hn:¬H b=none:=λy=>by
   rcases hb with rfl | hb
   ·rw[z]at y;cases y
   ·rw[hb]at y;cases y
  exact lv.keep b v (λy=>hn (I.mF b y)) (λy=>hn (rZ b y).2.1) y
 ·obtain⟨a,b,c,d,e⟩:=rZ b hb
  exact⟨.inr a,c,d,e⟩
theorem Inv.adopt{φ:Heap->Prop}(I:Inv X pins σ H s)(n:XN X pins H e)(hφ:bW X.prog X.w (upd H e (.ext φ)) s.heap e (.ext φ)):Inv X pins σ (upd H e (.ext φ)) s:=by
 obtain⟨n1,n2,n3,n4,n5⟩:=n
 have ne:∀{b:Addr} {u:HO},H b=some u->b≠e:=λz y=>by rw[y,n2]at z;cases z
 have n0:∀{b:Addr} {o:Obj},X.s₀.heap.get? b=some o->b≠e:=λz y=>absurd (bf z) (by rw[y];exact lX.mpr n1)
 refine⟨I.ok,I.os,I.bare,⟨I.base.keep,I.base.slot,λb ob z n hx=>by rw[ay (n0 z)];exact I.base.free b ob z n hx,I.base.there,λb xs z=>?_,λb ob u z=>?_,λb ps z=>?_⟩,I.loc,I.cell,by rw[ay n3.symm];exact I.free,λx c z=>by rw[ay (n4 x c z)];exact I.dC x c z,λp hp=>?_,λb u z=>?_,I.len⟩
 ·have e1:=I.base.tups b xs z
  rw[ay (ne e1)];exact e1
 ·have e1:=I.base.frzs b ob u z
  rw[ay (ne e1)];exact e1
 ·obtain⟨m,e1⟩:=I.base.tbls b ps z
  exact⟨m,by rw[ay (ne e1)];exact e1⟩
 ·obtain⟨p1,p2,p3⟩:=I.pin p hp
  exact⟨p1,by rw[ay (n5 p hp)];exact p2,p3⟩
 ·by_cases hb:b=e
  ·subst hb;rw[ak]at z;cases z;exact hφ
  ·rw[ay hb]at z
   exact(I.bp b u z).stay (λ_ _ _ q=>q) (λc q=>by rw[ay (ne q)];exact q) λc xs q=>by rw[ay (ne q)];exact q
theorem Fo{P:Program}{w:World}{H:Hp}{h:Heap}(z:kx e C dx h):bW P w H h e (.ext (kx e C dx)):=⟨z,let ⟨_,_,q,_⟩:=z;⟨_,q⟩,λh1 h2 ⟨vs,sl,a,c⟩ b=>⟨vs,sl,b _ a,c⟩⟩
theorem Inv.unbound{i:Nat}{x:Str}{m:Str->Option Value}{u:Option Value}{h':Heap}(I:Inv X pins σ H s)(hN:X.N.Nodup)(hi:X.N[i]?=some x)(hk:X.env.scope.names.lookup x=some .local)
  (hm:s.heap.Ns X.env.locals m) (hn:h'.Ns X.env.locals (λy=>if y=x then u else m y)) (hs:Heap.SameBut X.env.locals s.heap h'):Inv X pins (σ.set i none) H { s with heap:=h' }:=by
 have Qm:i<σ.length:=by rw[I.len];exact(fQ.mp hi).1
 obtain⟨m0,hn0,hl⟩:=id I.loc
 have nL:∀{b:Addr} {o:Obj},X.s₀.heap.get? b=some o->b≠X.env.locals:=λz=>bj (eF (bf z) I.ok.above)
 have em:∀y,m0 y=m y:=λy=>by
  obtain⟨o,es,ep,ho,hd,_,r⟩:=hn0
  obtain⟨o',es',Uc,BX,Ph,_,r'⟩:=hm
  rw[ho]at BX;cases BX
  rw[hd]at Ph;cases Ph
  rw[<-r y,<-r' y]
 refine⟨I.ok,I.os,I.bare,⟨λb o z n hb hx=>(hs.2 b (nL z)).trans (I.base.keep b o z n hb hx),λb o z n hb hx=>?_,I.base.free,λb o z hx=>?_,I.base.tups,I.base.frzs,I.base.tbls⟩,⟨_,hn,λj y v e1 e2 e3=>?_⟩,λy c z=>?_,I.free,I.dC,λp hp=>?_,λb ob z=>?_,by rw[List.length_set];exact I.len⟩
 ·obtain⟨sl,q⟩:=I.base.slot b o z n hb hx
  exact⟨sl,(hs.2 b (nL z)).trans q⟩
 ·obtain⟨o',q⟩:=I.base.there b o z hx
  exact⟨o',(hs.2 b (nL z)).trans q⟩
 ·by_cases hj:j=i
  ·subst hj
   rw[uG Qm]at e2
   cases e2
  ·rw[yG (eV hj)]at e2
   obtain⟨u',r',q⟩:=hl j y v e1 e2 e3
   refine⟨u',r',?_⟩
   rcases q with ⟨k,z⟩ | ⟨k,c,z,y'⟩
   ·refine .inl ⟨k,?_⟩
    have:y≠x:=λz=>hj (mP hN e1 (z ▸ hi))
    dsimp only
    rw[aB this,<-em];exact z
   ·exact .inr ⟨k,c,z,y'.sameBut hs (I.JB y c z)⟩
 ·obtain⟨w',q⟩:=I.cell y c z
  exact⟨w',q.sameBut hs (I.JB y c z)⟩
 ·obtain⟨p1,p2,p3,p4⟩:=I.pin p hp
  exact⟨(hs.2 _ p3).trans p1,p2,p3,p4⟩
 ·refine(I.bp b ob z).stay (λc v hc q=>(hs.2 c λy=>?_).trans q) (λ_ q=>q) λ_ _ q=>q
  rcases hc with rfl | hc
  ·rw[y,I.free]at z;cases z
  ·rw[y,I.free]at hc;cases hc
theorem M4{prog:Program}{w:World}{A:Around}{E:Value->Shared->Prop}{K:Frag}{B:Addr}{Q:Bool->Shared->Prop}(X:K.In s.heap)(q:gQ K B=true)(hs:PySem.W.subIn K (.ref C) (.ref B)=some true)(he:kx e C dx s.heap)(h:Q true s) :
  wpAny (model prog w) A (excMatches (.ref e) (.ref B)) Q E s:=by
 obtain⟨nm,qn,N,bs,bm,sn,sub,ab,col,dd,k0,k1,k2,k3,k5,mN,hC,hN,T⟩:=jx X q
 have hb:(Value.ref B::bm).contains (.type "BaseException")=true:=by rw[vY,T.hasType (X:="BaseException") (b:=true) (by decide +kernel),pD]
 obtain⟨vs,sl,o1,_⟩:=he
 have L:=PySem.W.looks_subIn (M:=model prog w) X hs
 obtain⟨hp,g,d,tk,os⟩:=s
 dsimp only at hC o1 L
 have f:=tc_notTuple
 unfold excMatches
 repeat (first | with_reducible refine sA o1 ?_ | with_reducible refine sA hC ?_ | (with_reducible refine sF hC ?_;rw[hb]) | with_reducible refine L.at ?_ | wp_step)
 exact h
end
@[reducible] def Cx.tri (X:Cx) (xe:Value->Shared->Prop) (pn:List (Addr×Obj)):Cx:={ X with xe:=xe,pn:=pn }
@[reducible] def Cx.wJ (X:Cx) (e:Addr):Cx:={ X with A:=X.A.mark (some (.ref e)),calm:=false,xe:=λ_ _=>False }
section
variable {X:Cx}{pins wV:List (Addr×Obj)}{σ:St}{H:Hp}{s:Shared}{e:Addr}{xe:Value->Shared->Prop}
theorem Inv.tri(I:Inv X pins σ H s):Inv (X.tri xe (X.pn++pins)) [] σ H s:=
 ⟨⟨I.ok.mod,I.ok.kind,I.ok.glob,I.ok.blt,I.ok.above,I.ok.inj,I.ok.has,I.ok.JC,I.ok.hd,I.ok.frames,I.ok.L7,I.ok.Qv,I.ok.bs,I.ok.yb,I.ok.vq,I.ok.xW,I.ok.il,I.ok.zX⟩,I.os,I.bare,I.base,I.loc,I.cell,I.free,I.dC,λp hp=>I.pin p (by rw[gh]at hp;exact hp),I.bp,I.len⟩
theorem Inv.wx(I:Inv (X.tri xe (X.pn++pins)) wV σ H s):Inv X pins σ H s:=
 ⟨⟨I.ok.mod,I.ok.kind,I.ok.glob,I.ok.blt,I.ok.above,I.ok.inj,I.ok.has,I.ok.JC,I.ok.hd,I.ok.frames,I.ok.L7,I.ok.Qv,I.ok.bs,I.ok.yb,I.ok.vq,I.ok.xW,I.ok.il,I.ok.zX⟩,I.os,I.bare,I.base,I.loc,I.cell,I.free,I.dC,λp hp=>I.pin p (uF _ hp),I.bp,I.len⟩
theorem Inv.wJ(I:Inv X pins σ H s):Inv (X.wJ e) pins σ H s:=
 ⟨⟨I.ok.mod,I.ok.kind,I.ok.glob,I.ok.blt,I.ok.above,I.ok.inj,I.ok.has,I.ok.JC,λz=>Bool.noConfusion z,I.ok.frames,I.ok.L7,I.ok.Qv,I.ok.bs,I.ok.yb,I.ok.vq,I.ok.xW,I.ok.il,I.ok.zX⟩,I.os,I.bare,I.base,I.loc,I.cell,I.free,I.dC,I.pin,I.bp,I.len⟩
theorem Inv.n8(ok:X.Ok)(I:Inv (X.wJ e) pins σ H s):Inv X pins σ H s:=⟨ok,I.os,I.bare,I.base,I.loc,I.cell,I.free,I.dC,I.pin,I.bp,I.len⟩
end
def Ends.Qd(D:Ends)(i:Nat):Ends:={ nx:=λσ H=>D.nx (σ.set i none) H,rt:=D.rt,bk:=λσ H=>D.bk (σ.set i none) H,ct:=λσ H=>D.ct (σ.set i none) H }
def QL(K:Frag)(i:Nat)(B:Addr)(tb:(St->XK)->TS)(ts:TS):TS:=λD σ H=>∃EH:St->XK,tb EH D σ H/\∀σ' C dx H',EH σ' (.ref C) dx H'->PySem.W.subIn K (.ref C) (.ref B)=some true/\∀e,H' e=none->ts (D.Qd i) (σ'.set i (some (.ref e))) (upd H' e (.ext (kx e C dx)))
section
variable {X:Cx}{B:Addr}{x n:Str}{np qR pos:Pos}{body suite:List Stmt}{b₀:Stmt}{tb:(St->XK)->TS}{ts:TS}{i:Nat}
theorem j6{pins:List (Addr×Obj)}{σ:St}{H:Hp}{s:Shared}{M:Model}{A:Around}{E:Value->Shared->Prop}{Q:Unit->Shared->Prop}(I:Inv X pins σ H s)(hN:X.N.Nodup)(hi:X.N[i]?=some n)(hk:X.env.scope.names.lookup n=some .local)
  (h:∀s',Inv X pins (σ.set i none) H s'->Q () s'):wpAny M A (do bindName X.env n .none;unbindBehindTheSuite X.env n qR) Q E s:=by
 have Pj:(X.env.scope.kind == .class||(X.env.scope.kind == .module&&X.env.locals != X.env.globals))=false:=by rw[I.ok.kind];rfl
 unfold bindName
 refine aj (aj (eT (wpAny_point (aj (gi (v:=.non) I hN hi (.inl hk) rfl (λs1 I1=>wpAny_point ?_) (.inr hk))))))
 unfold unbindBehindTheSuite
 refine wpAny_onRaise ?_
 obtain⟨m,hm,hl⟩:=id I1.loc
 have Qm:i<σ.length:=by rw[I.len];exact(fQ.mp hi).1
 obtain⟨u,ru,lk⟩:=hl i n .non hi (by rw[uG Qm]) (.inl hk)
 have hv:∃v,m n=some v:=by
  rcases lk with ⟨_,z⟩ | ⟨k,_⟩
  ·exact⟨_,z⟩
  ·exfalso
   rcases k with k | k
   ·rw[show X.env.kindOf n=X.env.scope.names.lookup n from rfl,hk]at k;cases k
   ·rw[show X.env.kindOf n=X.env.scope.names.lookup n from rfl,hk]at k;cases k
 obtain⟨v,hv⟩:=hv
 refine wpAny_unbindName_local hk hm hv Pj λh' u Mq OJ=>h _ ?_
 have I2:=I1.unbound hN hi hk hm Mq OJ
 rwa [List.set_set]at I2
theorem JK{M:Model}{A:Around}{E:Value->Shared->Prop}{s:Shared}{N:Addr->Prop}{e C:Addr}{dx:Option Addr}{fs:List Addr}{Q:Unit->Shared->Prop}(hfs:∀b∈fs,∀o vs,s.heap.get? b=some o->o.data≠.fields vs)(x:yi N s.heap e C dx)
  (h:∀h' ch,(∀b∈ch,N b)->yi N h' e C dx->Lv fs ch s.heap h'->Q () { s with heap:=h' }):wpAny M A (setFlight (.ref e) none) Q E s:=by
 obtain⟨ne,vs,sl,he,c2,tb⟩:=x
 rcases tb with h1 | ⟨T,oT,ts,nT,Jx,h1,hT,dT,h3⟩
 ·unfold setFlight
  refine aj (fO he rfl h1 ?_)
  rw[aB (by decide)]
  exact aE (h s.heap [] (λb hb=>absurd hb (by simp)) ⟨ne,vs,sl,he,c2,.inl h1⟩ ⟨λb o _ _ z=>z,λb o _ z=>⟨o.slots,z⟩⟩)
 ·have z3:=(v7.mp h3).1
  refine Lz he rfl h1 hT dT z3 ?_
  have ot:∀b o,b≠T->s.heap.get? b=some o->(s.heap.update T (Obj.mapFields (·.setIfInBounds 3 Value.none))).get? b=some o:=λb o hb z=>(jl _ _ hb.symm).trans z
  have t4:=jt (Obj.mapFields (·.setIfInBounds 3 Value.none)) hT (uE (sD dT _))
  refine h _ [T] (λb hb=>by rw[di.mp hb];exact nT) ⟨ne,vs,sl,ot _ _ Jx.symm he,c2,.inr ⟨T,_,_,nT,Jx,h1,t4,sD dT _,by simp[z3]⟩⟩ ⟨λb o _ hb z=>ot b o (λy=>hb (by rw[y];simp)) z,λb o hb z=>⟨o.slots,ot b o (λy=>?_) z⟩⟩
  subst y
  rw[hT]at z
  cases z
  exact hfs b hb oT ts hT dT
end
def ui(H:Hp)(dx:Option Addr):Prop:=∀d,dx=some d->∃fs,H d=some (.xd fs)
section
variable {X:Cx}{pins:List (Addr×Obj)}{σ:St}{H:Hp}{s:Shared}{e C:Addr}{dx:Option Addr}
theorem LC(I:Inv X pins σ H s)(he:H e=some (.ext (kx e C dx)))(hd:ui H dx):∃oe od,PySem.W.InstAt s.heap e oe C od:=by
 obtain⟨vs,sl,o1,_⟩:=(I.bp e _ he).1
 cases dx with
 | none=>exact⟨_,none,o1,rfl,rfl,True.intro⟩
 | some d=>
  obtain⟨fs,hd⟩:=hd d rfl
  obtain⟨mA,n,_⟩:=I.bp d _ hd
  obtain⟨od,ho,_⟩:=ny n
  exact⟨_,some od,o1,rfl,rfl,ho⟩
def vh(K:Frag):List V->Hp->VK->Prop:=λvs H Q=>∃e T,vs=[.ref e,.ty T]/\∃C dx,H e=some (.ext (kx e C dx))/\ui H dx/\XC K C/\∃b,PySem.W.kitOne K (.ref C) (.type T)=some b/\Q (.bl b) H
theorem Ai:cD X (.builtin "isinstance") (vh X.K):=by
 intro pins s σ H vs us Q I r h
 obtain⟨e,T,rfl,C,dx,he,hd,c,b,hb,q⟩:=h
 obtain⟨u1,u2,rfl,r1,r2⟩:=r.two
 obtain rfl:u1=Value.ref e:=r1
 obtain rfl:u2=Value.type T:=r2
 exact g7 (xl c) I.jn (LC I he hd) hb (λz=>by cases z) λtk=>⟨.bl b,H,I.tok _,rfl,q⟩
def vi(K:Frag):List V->Hp->VK->Prop:=λvs H Q=>∃e D,vs=[.ref e,.ref D]/\∃C dx,H e=some (.ext (kx e C dx))/\ui H dx/\XC K C/\∃b,PySem.W.kitOne K (.ref C) (.ref D)=some b/\Q (.bl b) H
theorem Aj:cD X (.builtin "isinstance") (vi X.K):=by
 intro pins s σ H vs us Q I r h
 obtain⟨e,D,rfl,C,dx,he,hd,c,b,hb,q⟩:=h
 obtain⟨u1,u2,rfl,r1,r2⟩:=r.two
 obtain rfl:u1=Value.ref e:=r1
 obtain rfl:u2=Value.ref D:=r2
 exact g7 (xl c) I.jn (LC I he hd) hb (λz=>by cases z) λtk=>⟨.bl b,H,I.tok _,rfl,q⟩
def GK(K:Frag):List V->Hp->VK->Prop:=λvs H Q=>∃e p,vs=[.ref e,.ref p]/\∃Ds:List Addr,H p=some (.tup (Ds.map V.ref))/\∃C dx,H e=some (.ext (kx e C dx))/\ui H dx/\XC K C/\∃b,PySem.W.kitAny K (.ref C) (Ds.map Value.ref)=some b/\Q (.bl b) H
def Bc(K:Frag)(ta:TE)(f:Str):TE:=λσ H Q=>ta σ H λx H1=>∃e,x=.ref e/\∃C dx,H1 e=some (.ext (kx e C (some dx)))/\XC K C/\PySem.W.findIn K (.ref C) f=some none/\∃fs,H1 dx=some (.xd fs)/\∃v,fs.lookup f=some v/\Q v H1
theorem Kq{o:Expr}{f:Str}{pos:Pos}{ta:TE}(he:PE X o ta)(hb:attributeBase o f X.env (eval o X.env)=eval o X.env):PE X (.Attribute o f pos) (Bc X.K ta f):=by
 intro pins s σ H Q I h
 refine Lj hb (cp (he pins s σ H _ I h) λu s1 ⟨x,H1,I1,rx,e,ex,C,dx,ee,c,nf,fs,hd,v,lk,q⟩=>?_)
 subst ex
 obtain rfl:u=Value.ref e:=rx
 obtain⟨vs,sl,o1,_⟩:=(I1.bp e _ ee).1
 obtain⟨mA,n,rel⟩:=I1.bp dx _ hd
 obtain⟨od,ho,hl⟩:=ny n
 obtain⟨u,hu,ru⟩:=oQ.some_of (v:=v) (o:=mA f) (by rw[<-lk];exact rel f)
 exact Uo I1.jn c.is ⟨o1,rfl,rfl,ho⟩ c.ga c.gn (PySem.W.findObj_own c.hd nf rfl (by rw[hl,hu])) (Ee ru) ⟨v,H1,I1.tok _,ru,q⟩
end
section
variable {X:Cx}{N:List Str}{sc:Scope}
theorem R'{xe:Value->Shared->Prop}{pn:List (Addr×Obj)}(h:HC X N sc):HC (X.tri xe pn) N sc:=⟨h.n,h.s⟩
theorem R3{xe:Value->Shared->Prop}{pn:List (Addr×Obj)}(h:∀x,X.fn x=true):∀x,(X.tri xe pn).fn x=true:=h
theorem W6{e:Addr}(h:∀x,X.fn x=true):∀x,(X.wJ e).fn x=true:=h
theorem Xa{e:Addr}(h:HC X N sc):HC (X.wJ e) N sc:=⟨h.n,h.s⟩
variable {k:Nat}{fI C B:Addr}{fd:FuncData}{ps:List Str}{sp:Sp}{EH:St->XK}{x n fld:Str}{np cE apos qR pos pos':Pos}{a b o value:Expr}{t:TA}{te ta tv:TE}{body suite:List Stmt}{b₀:Stmt}{tb:(St->XK)->TS}{ts:TS}
theorem pN(c:XC X.K C)(hi:PySem.W.findIn X.K (.ref C) "__init__" = some (some (.ref fI)))(hf:PySem.W.typeIn X.K (.ref fI)=some (.type "function"))(hk:PySem.W.keepIn X.K (.ref C)=true)
  (F:cw X.prog X.w X.K X.mg X.base eB k fI fd ps (qq C fld)) (hb:Binds X.K fd ps []) (hr:cB (k+1) X.A) (hg:Gl X x) (hm:X.mg x=some (.ref C)) (hc:X.calm=true) (L:fH X EH) (ha:ZE X a te)
  (jI:(x==("__debug__" : Str))=false:=by decide) (he:starEach [a] X.env=(false,eval a X.env)::starEach [] X.env:=by rfl) (jo:(backTo cE (starEach [] X.env)).any (·.1)=false:=by rfl) :
  ZS X (.Raise (some (.Call (.Name x np) [a] [] cE)) none pos) (oW C fld te EH):=⟨Dv c hi hf hk F hb hr hg hm hc L ha.to jI he jo⟩
theorem wm{pl:Sem Bool}(hr:PySem.W.readsIn X.K B (.type "type")=true)(hf:PySem.W.findCls X.K (.ref B) (.type "type") "__init__" = some (.val (.builtin "ValueError.__init__")))
  (hs:PySem.W.specialIn X.K (.ref B) "__getattribute__" = some (some (.builtin "type.__getattribute__"))) (hg:Gl X x) (hm:X.mg x=some (.ref B)) (ha:ZA X [a,b] t)
  (jI:(x==("__debug__" : Str))=false:=by decide) (BV:starEach [a,b] X.env=(false,eval a X.env)::starEach [b] X.env:=by rfl) (jo:(backTo cE (starEach [b] X.env)).any (·.1)=false:=by rfl)
  (ht:eval (.Call (.Attribute (.Name x np) "__init__" apos) [a,b] [] cE) X.env=(do
   let ov <-eval (.Name x np) X.env
   standAt apos.atName
   let (f,first) <-holding [ov] (getMethod ov "__init__" pl)
   callWith cE f first (backTo cE (starEach [a,b] X.env)) (backToKw cE (keywordEach [] X.env))):=by rfl) :
  ZE X (.Call (.Attribute (.Name x np) "__init__" apos) [a,b] [] cE) (Bf X.K t):=⟨Ku (pl:=pl) hr hf hs hg hm ha.to jI BV jo ht⟩
theorem v9(ha:ZE X o ta)(hv:ZE X value tv)(hs:swapsWith value (some (.Attribute o fld pos')) pos.line X.env=pure false):ZS X (.Assign [.Attribute o fld pos'] value pos) (Bk X.K ta tv fld):=⟨Kg ha.to hv.to hs⟩
theorem mr{K:Frag}{f:Str}(hK:X.K=K)(he:ZE X o ta)(hb:attributeBase o f X.env (eval o X.env)=eval o X.env):ZE X (.Attribute o f pos) (Bc K ta f):=hK ▸ ⟨Kq he.to hb⟩
theorem oB{K:Frag}(hK:X.K=K):cD X (.builtin "isinstance") (vh K):=hK ▸ Ai
theorem cQ{K:Frag}(hK:X.K=K):cD X (.builtin "isinstance") (vi K):=hK ▸ Aj
end
section
variable {X:Cx}
def Ma(neg:Bool):R2:=λx y H Q=>∃p q,x=.ref p/\y=.ref q/\∃xs ys:List Str,H p=some (.tup (List.map V.str xs))/\H q=some (.tup (List.map V.str ys))/\Q (.bl (if neg then !decide (xs=ys) else decide (xs=ys))) H
end
end L2
end
section
namespace L2
open PySem PySem.Spec PySem.W PyProof.Rows
abbrev gE(o:Obj):HO:=.tV o (.own 0)
def fG(C:List (Addr×Obj))(H:Hp):Hp:=λb=>match C.lookup b with | some o=>some (gE o) | none=>H b
def bT(C:List (Addr×Obj))(H:Hp):Hp:=λb=>match C.lookup b with | some _=>none | none=>H b
theorem jd{C:List (Addr×Obj)}{H:Hp}{b:Addr}{o:Obj}(h:C.lookup b=some o):fG C H b=some (gE o):=by unfold fG;rw[h]
theorem bF{C:List (Addr×Obj)}{H:Hp}{b:Addr}(h:C.lookup b=none):fG C H b=H b:=by unfold fG;rw[h]
theorem jJ{C:List (Addr×Obj)}{H:Hp}{b:Addr}{o:Obj}(h:C.lookup b=some o):bT C H b=none:=by unfold bT;rw[h]
theorem bq{C:List (Addr×Obj)}{H:Hp}{b:Addr}(h:C.lookup b=none):bT C H b=H b:=by unfold bT;rw[h]
def dD(C:List (Addr×Obj))(H:Hp):Prop:=∀b o,C.lookup b=some o->H b=some (gE o)
def cX(C:List (Addr×Obj))(H:Hp):Prop:=∀b o,C.lookup b=some o->H b=none
theorem dD.out{C:List (Addr×Obj)}{H:Hp}(p:dD C H){b:Addr}{u:HO}(e:H b=some u)(n:∀o,u≠gE o):C.lookup b=none:=by
 cases q:C.lookup b with
 | none=>rfl
 | some o=>rw[p b o q]at e;cases e;exact absurd rfl (n o)
theorem dD.Dy{C:List (Addr×Obj)}{H:Hp}(p:dD C H){b:Addr}(e:H b=none):C.lookup b=none:=by
 cases q:C.lookup b with
 | none=>rfl
 | some o=>rw[p b o q]at e;cases e
theorem cX.out{C:List (Addr×Obj)}{H:Hp}(p:cX C H){b:Addr}{u:HO}(e:H b=some u):C.lookup b=none:=by
 cases q:C.lookup b with
 | none=>rfl
 | some o=>rw[p b o q]at e;cases e
theorem cX.added{C:List (Addr×Obj)}{H:Hp}:dD C (fG C H):=λ_ _ h=>jd h
section
variable {P:Program}{w:World}{H H':Hp}{h h':Heap}{C:List (Addr×Obj)}{fs:List Addr}
theorem _root_.L2.gb.fG(x:gb P w H h)(p:cX C H)(k:∀b o,C.lookup b=some o->h.get? b=some o):gb P w (fG C H) h:=λb u e=>by
 cases q:C.lookup b with
 | some o=>rw[jd q]at e;cases e;exact⟨k b o q,o,k b o q⟩
 | none=>
  rw[bF q]at e
  exact(x b u e).stay (λ_ _ _ z=>z) (λc z=>by rw[bF (p.out z)];exact z) λc xs z=>by rw[bF (p.out z)];exact z
theorem _root_.L2.gb.bT(x:gb P w H h)(p:dD C H):gb P w (bT C H) h:=λb u e=>by
 cases q:C.lookup b with
 | some o=>rw[jJ q]at e;cases e
 | none=>
  rw[bq q]at e
  exact(x b u e).stay (λ_ _ _ z=>z) (λc z=>by rw[bq (p.out z (by intro o n;cases n))];exact z) λc xs z=>by rw[bq (p.out z (by intro o n;cases n))];exact z
theorem gb.pins(x:gb P w H h)(p:dD C H):∀b o,C.lookup b=some o->h.get? b=some o:=λb o q=>(x b _ (p b o q)).1
theorem Un.BZ(u:Un fs [] (fG C H) H' h h')(x:gb P w H' h')(p:cX C H)(k:∀b o,C.lookup b=some o->h.get? b=some o):Un fs [] H (bT C H') h h':=by
 have Dx:dD C H':=λb o q=>u.frzs b o _ (jd q)
 have at':∀b o,C.lookup b=some o->h'.get? b=some o:=x.pins Dx
 refine⟨λb o e n hb hx=>?_,λb o e n hb hx=>?_,λb o e n hx=>?_,u.there,λb xs e=>?_,λb o v e=>?_,λb ps e=>?_⟩
 ·cases q:C.lookup b with
  | some o'=>have:=k b o' q;rw[e]at this;cases this;exact at' b o q
  | none=>exact u.keep b o e (by rw[bF q];exact n) hb hx
 ·cases q:C.lookup b with
  | some o'=>have:=k b o' q;rw[e]at this;cases this;exact⟨o.slots,at' b o q⟩
  | none=>exact u.slot b o e (by rw[bF q];exact n) hb hx
 ·cases q:C.lookup b with
  | some o'=>exact jJ q
  | none=>rw[bq q];exact u.free b o e (by rw[bF q];exact n) hx
 ·rw[bq (p.out e)];exact u.tups b xs (by rw[bF (p.out e)];exact e)
 ·rw[bq (p.out e)];exact u.frzs b o v (by rw[bF (p.out e)];exact e)
 ·obtain⟨m,z⟩:=u.tbls b ps (by rw[bF (p.out e)];exact e)
  exact⟨m,by rw[bq (p.out e)];exact z⟩
theorem Un.Lp(u:Un fs [] (bT C H) H' h h')(x:gb P w H h)(p:dD C H)(nf:∀b o,C.lookup b=some o->b∉fs):Un fs [] H (fG C H') h h'/\cX C H'/\∀b o,C.lookup b=some o->h'.get? b=some o:=by
 have k:=x.pins p
 refine⟨⟨λb o e n hb hx=>u.keep b o e (by rw[bq (p.Dy n)];exact n) hb hx,λb o e n hb hx=>u.slot b o e (by rw[bq (p.Dy n)];exact n) hb hx,λb o e n hx=>?_,u.there,λb xs e=>?_,λb o v e=>?_,λb ps e=>?_⟩,λb o q=>?_,λb o q=>?_⟩
 ·rw[bF (p.Dy n)];exact u.free b o e (by rw[bq (p.Dy n)];exact n) hx
 ·have q:=p.out e (by intro o n;cases n)
  rw[bF q];exact u.tups b xs (by rw[bq q];exact e)
 ·cases q:C.lookup b with
  | some o'=>rw[p b o' q]at e;cases e;exact jd q
  | none=>rw[bF q];exact u.frzs b o v (by rw[bq q];exact e)
 ·have q:=p.out e (by intro o n;cases n)
  obtain⟨m,z⟩:=u.tbls b ps (by rw[bq q];exact e)
  exact⟨m,by rw[bF q];exact z⟩
 ·exact u.free b o (k b o q) (jJ q) (by simp)
 ·exact u.keep b o (k b o q) (jJ q) (nf b o q) (by simp)
end
def rF(P:Program)(w:World)(K:PySem.W.Frag)(mg:Str->Option Value)(base:Heap)(k:Nat)(f:Addr)(sp:Sp):Prop:=
 ∀(A:Around) (outer:List Env) (s:Shared) (H:Hp) (us:List Value) (vs:List V) (Q:VK) (E:XK),cB k A->lQ P w K mg base A outer s H->Vals vs us->sp vs H Q E->codeAny (model P w) A (.call (.ref f) ⟨us,[]⟩) (CR eB outer P w H s Q E) s
def SM(P:Program)(w:World)(K:PySem.W.Frag)(mg:Str->Option Value)(base:Heap)(N:List Str)(qual:Str)(scope:Scope)(f:Addr)(cd:Value)(cl:List (Str×Addr))(A:Around)(outer:List Env)(s:Shared)(H:Hp):Cx where
 prog:=P
 w:=w
 K:=K
 mg:=mg
 base:=base
 A:=A.deeper (envX qual scope s.heap.objs.size f cd cl)
 N:=N
 s₀:=s
 H₀:=H
 env:=envX qual scope s.heap.objs.size f cd cl
 outer:=outer
 stack:=envX qual scope s.heap.objs.size f cd cl::outer
 ex:=[]
 calm:=true
 fn:=λ_=>false
 pn:=[]
 xe:=λ_ _=>False
theorem oj{u:Value}{x:Str}:∀{l:List (Str×Value)},(x,u)∈l->(∀v,(x,v)∈l->v=u)->l.lookup x=some u
 | [],h,_=>nomatch h
 | (y,v)::l,h,q=>by
  rw[fA]
  by_cases e:x=y
  ·subst e
   rw[g8]
   show some v=some u
   rw[q v dF]
  ·rw[pH e]
   refine oj ?_ λv hv=>q v (dR _ hv)
   rcases ck.mp h with z | z
   ·cases z;exact absurd rfl e
   ·exact z
theorem zG{ps:List Str}{us:List Value}{i:Nat}{x:Str}{u:Value}(nd:ps.Nodup)(h1:ps[i]?=some x)(h2:us[i]?=some u):(ps.zip us).reverse.lookup x=some u:=by
 have hz:(ps.zip us)[i]?=some (x,u):=by rw[List.getElem?_zip_eq_some];exact⟨h1,h2⟩
 refine oj (List.mem_reverse.mpr (mh hz)) λv hv=>?_
 obtain⟨j,hj⟩:=yI.mp (List.mem_reverse.mp hv)
 rw[List.getElem?_zip_eq_some]at hj
 have:i=j:=mP nd h1 hj.1
 subst this
 rw[h2]at hj
 exact(dB hj.2).symm
def CellsOk(C:List (Addr×Obj))(cl:List (Str×Addr))(fr:List Str)(Jz:List V):Prop:=∀(i:Nat) x,fr[i]?=some x->∃c o u v,cl.lookup x=some c/\C.lookup c=some o/\o.data=.cell (some u)/\Jz[i]?=some v/\RelV v u
theorem Ld{P:Program}{w:World}{K:PySem.W.Frag}{mg:Str->Option Value}{base:Heap}{f:Addr}{qual:Str}{scope:Scope}{cl:List (Str×Addr)}{cd:Value}{ps fr:List Str}{C:List (Addr×Obj)}{Jz vs:List V}{us:List Value}{A:Around}{outer:List Env}{s:Shared}{H:Hp}{h₁:Heap}{tk:Tok}
  (kind:scope.kind=.function) (jG:∀x∈scope.names,x.2≠.cell) (nd:(ps++fr).Nodup) (par:∀x∈ps,scope.names.lookup x=some .local) (Xx:∀x∈fr,scope.names.lookup x=some .free)
  (has:∀x,scope.names.lookup x=some .free->x∈fr) (HB:∀x c,cl.lookup x=some c->x∈fr) (inj:∀x y c,cl.lookup x=some c->cl.lookup y=some c->x=y)
  (hd:A.handled=none) (e0:lQ P w K mg base A outer s H) (r:Vals vs us) (hl:vs.length=ps.length) (hC:dD C H) (Wc:Jz.length=fr.length) (RW:CellsOk C cl fr Jz)
  (Qj:h₁.Ns s.heap.objs.size (λx=>(ps.zip us).reverse.lookup x)) (Qk:∀b o,s.heap.get? b=some o->h₁.get? b=some o) :
  Inv (SM P w K mg base (ps++fr) qual scope f cd cl A outer s (bT C H)) [] ((vs++Jz).map some) (bT C H) { s with heap:=h₁,toks:=tk }:=by
 have hk:=e0.bp
 have pins:=hk.pins hC
 have TQ:ps.Nodup:=(List.nodup_append.mp nd).1
 have cellAt:∀x c,cl.lookup x=some c->∃o u,C.lookup c=some o/\o.data=.cell (some u)/\s.heap.get? c=some o:=λx c e=>by
  obtain⟨i,hi⟩:=yI.mp (HB x c e)
  obtain⟨c2,o,u,v,h1,h2,h3,_⟩:=RW i x hi
  rw[e]at h1;cases h1
  exact⟨o,u,h2,h3,pins _ _ h2⟩
 have WL:gb P w (bT C H) h₁:=(hk.bT hC).kept Qk
 have Jr:∀b:Addr,b∉(SM P w K mg base (ps++fr) qual scope f cd cl A outer s (bT C H)).ex:=λb z=>absurd (show b∈([]:List Addr) from z) (by simp)
 have Rm:∀b,H b=none->bT C H b=none:=λb n=>by rw[bq (hC.Dy n)];exact n
 refine⟨⟨e0.mod,kind,rfl,rfl,bu _,inj,λy hy=>?_,λy c z _=>absurd (show false=true from z) (by simp),λ_=>hd,Around.frames_deeper e0.frames,.inr ⟨rfl,rfl⟩,λb z=>absurd z (Jr b),λb o e=>⟨(e0.bs b o e).1,Rm b (e0.bs b o e).2⟩,e0.yb,λb _ _=>Jr b,λb z=>absurd z (Jr b),e0.il,λb hb=>Rm b (e0.zX b hb)⟩,
  rfl,e0.bare,Un.kept Qk,⟨_,Qj,λi y v h1 h2 h3=>?_⟩,λy c h=>?_,?_,λy c h=>?_,λp hp=>absurd (show p∈([]:List (Addr×Obj)) from hp) (by simp),WL,?_⟩
 ·have hy:scope.names.lookup y=some .cell\/scope.names.lookup y=some .free:=hy
  rcases hy with hy | hy
  ·exact absurd rfl (jG _ (g9 hy))
  ·obtain⟨i,hi⟩:=yI.mp (has y hy)
   obtain⟨c,_,_,_,e,_⟩:=RW i y hi
   exact⟨c,e⟩
 ·have h1:(ps++fr)[i]?=some y:=h1
  rw[fB]at h2
  by_cases hi:i<ps.length
  ·rw[nY hi]at h1
   rw[nY (by omega)]at h2
   have ha:vs[i]?=some v:=by
    cases e:vs[i]? with
    | none=>rw[e]at h2;cases h2
    | some a=>rw[e]at h2;cases h2;rfl
   obtain⟨u,hu',rv⟩:=r.get ha
   exact⟨u,rv,.inl ⟨par y (mh h1),zG TQ h1 hu'⟩⟩
  ·rw[mj (by omega)]at h1
   rw[mj (by omega),hl]at h2
   obtain⟨c,o,u,v',e1,e2,e3,e4,e5⟩:=RW _ y h1
   rw[e4]at h2;cases h2
   exact⟨u,e5,.inr ⟨.inr (Xx y (mh h1)),c,e1,o,Qk _ _ (pins _ _ e2),e3⟩⟩
 ·obtain⟨o,u,_,e3,e4⟩:=cellAt y c h
  exact⟨_,o,Qk _ _ e4,e3⟩
 ·exact(hk.bT hC).fresh (bu _)
 ·obtain⟨o,u,e2,_⟩:=cellAt y c h
  exact jJ e2
 ·rw[bN,eL,hl,Wc]
  exact eL.symm
theorem Cp{P:Program}{w:World}{K:PySem.W.Frag}{mg:Str->Option Value}{base:Heap}{N:List Str}{f:Addr}{qual:Str}{scope:Scope}{cl:List (Str×Addr)}{cd:Value}{C:List (Addr×Obj)}{A:Around}{outer:List Env}{s s':Shared}{H H':Hp}{σ':St}{Q:VK}{v:V}{u:Value}
  (e0:lQ P w K mg base A outer s H) (hC:dD C H) (J:Inv (SM P w K mg base N qual scope f cd cl A outer s (bT C H)) [] σ' H' s') (rv:RelV v u) (q:Q v (fG C H')):CE outer P w H s Q u s':=by
 have nf:∀b o,C.lookup b=some o->b∉ke outer:=λb o q z=>by have:=e0.zX b z;rw[hC b o q]at this;cases this
 obtain⟨un,po,at'⟩:=Un.Lp (H:=H) (h:=s.heap) J.base e0.bp hC nf
 exact⟨v,fG C H',J.os,J.bare,un,J.bp.fG po at',rv,q⟩
theorem P0{P:Program}{w:World}{K:PySem.W.Frag}{mg:Str->Option Value}{base:Heap}{k:Nat}{f c':Addr}{name qual:Str}{params:Arguments}{body:List Stmt}{scope:Scope}{cl:List (Str×Addr)}{doc pm ctv:Value}{fo oc:Obj}{Qb:Array Value}{tq:Tok}
  {ps fr:List Str} {sp:Sp} (K0:fo.data=.func (fnX name qual params body scope cl .none .none doc pm none (.ref c') ctv)) (yr:oc.data=.fields Qb) (hq:Qb[1]?=some (.str qual tq))
  (kind:scope.kind=.function) (co:scope.isCoroutine=false) (gen:scope.isGenerator=false) (jG:∀x∈scope.names,x.2≠.cell) (nd:(ps++fr).Nodup) (par:∀x∈ps,scope.names.lookup x=some .local) (Xx:∀x∈fr,scope.names.lookup x=some .free)
  (has:∀x,scope.names.lookup x=some .free->x∈fr)
  (HB:∀x c,cl.lookup x=some c->x∈fr) (inj:∀x y c,cl.lookup x=some c->cl.lookup y=some c->x=y)
  (HY:∀us:List Value,us.length=ps.length->bindArgs (fnX name qual params body scope cl .none .none doc pm none (.ref c') ctv) ⟨us,[]⟩=pure (ps.zip us))
  (dm:∀vs H Q E,sp vs H Q E->∃C Jz,vs.length=ps.length/\H f=some (gE fo)/\H c'=some (gE oc)/\dD C H/\Jz.length=fr.length/\CellsOk C cl fr Jz/\
   ∀(A:Around) (outer:List Env) (s:Shared),cB k (A.deeper (envX qual scope s.heap.objs.size f (.ref c') cl))->
   HC (SM P w K mg base (ps++fr) qual scope f (.ref c') cl A outer s (bT C H)) (ps++fr) scope->
   ∃t,uh (SM P w K mg base (ps++fr) qual scope f (.ref c') cl A outer s (bT C H)) body t/\t { nx:=λ_ H'=>Q .non (fG C H'),rt:=λv H'=>Q v (fG C H') } ((vs++Jz).map some) (bT C H)) :
  rF P w K mg base (k+1) f sp:=by
 intro A outer s H us vs Q E hr e0 r o4
 obtain⟨C,Jz,hl,hf,hc,hC,Wc,RW,dm⟩:=dm _ _ _ _ o4
 have lim:s.heap.NoLimit:=e0.mod.nolimit.keeps λb o e=>(e0.bs b o e).1
 have hk:=e0.bp
 have hu:us.length=ps.length:=by rw[<-r.length];exact hl
 refine codeAny_call_def (body:=body) (binds:=ps.zip us) hr.depth (hk _ _ hf).1 K0 lim ⟨c',oc,Qb,tq,rfl,(hk _ _ hc).1,yr,hq⟩ rfl (.of_eq (HY us hu)) jG (λy hy=>par y.1 (sy (a:=y.1) (b:=y.2) hy).1) (λh₁ Qj Qk=>?_) co gen kind
 obtain⟨t,ht,O2⟩:=dm A outer s (hr.deeper _) ⟨rfl,rfl⟩
 refine bV (ht.to [] _ _ _ _ (Ld kind jG nd par Xx has HB inj hr.hd e0 r hl hC Wc RW Qj Qk) O2) (λfl s' hs=>?_) λe s' hs=>False.elim hs
 cases fl with
 | ret u=>
  obtain⟨v,σ',H',J,rv,q⟩:=hs
  exact Cp e0 hC J rv q
 | next=>
  obtain⟨σ',H',J,q⟩:=hs
  exact Cp (v:=V.non) (u:=Value.none) e0 hC J rfl q
 | brk=>
  obtain⟨_,_,_,q⟩:=hs
  exact False.elim q
 | cont=>
  obtain⟨_,_,_,q⟩:=hs
  exact False.elim q
def Tn(H:Hp)(f:Addr):Prop:=∃fo fd,H f=some (gE fo)/\fo.data=.func fd
theorem Tn.at{P:Program}{w:World}{H:Hp}{h:Heap}{f:Addr}(x:Tn H f)(ok:gb P w H h):FnAt f h:=by
 obtain⟨fo,fd,e,d⟩:=x
 obtain⟨oc,od,dt,sl⟩:=fo
 have d':dt=.func fd:=d
 subst d'
 exact⟨oc,od,fd,sl,(ok f _ e).1⟩
section
variable {X:Cx}{k:Nat}{f C:Addr}{sp:Sp}{E:XK}{x m:Str}{p pos apos:Pos}{e o:Expr}{es:List Expr}{ta:TE}{t:TA}
theorem JZ{pins:List (Addr×Obj)}{σ:St}{H:Hp}{s:Shared}{Q:VK}{us:List Value}{vs:List V}(F:rF X.prog X.w X.K X.mg X.base k f sp)(hr:cB k X.A)(I:Inv X pins σ H s)(r:Vals vs us)(h:sp vs H Q E) :
  wpAny (model X.prog X.w) X.A (call (.ref f) us) (EP X pins σ Q) X.xe s:=by
 refine gH (gI (F X.A X.stack s H us vs Q E hr I.z5 r h) λr s' hq=>?_)
 cases r with
 | error e=>exact False.elim hq
 | ok fl=>
  cases fl with
  | ret u=>exact I.after hq
  | next=>exact False.elim hq
  | brk=>exact False.elim hq
  | cont=>exact False.elim hq
def uT(P:Program)(w:World)(K:PySem.W.Frag)(mg:Str->Option Value)(base:Heap)(k:Nat)(tv:TE)(t:TA):TE:=λσ H Q=>tv σ H λx H1=>∃f,x=.ref f/\Tn H1 f/\t σ H1 λvs H2=>Tn H2 f/\∃sp,rF P w K mg base k f sp/\sp vs H2 Q E0
theorem Ha{tv:TE}(hr:cB k X.A)(hv:PE X (.Name x p) tv)(ha:PA X (e::es) t)(he:starEach (e::es) X.env=(false,eval e X.env)::starEach es X.env:=by rfl)(jo:(backTo pos (starEach es X.env)).any (·.1)=false:=by rfl) :
  PE X (.Call (.Name x p) (e::es) [] pos) (uT X.prog X.w X.K X.mg X.base k tv t):=by
 intro pins s σ H Q I h
 refine lZ (cp (hv pins s σ H _ I h) λu s1 ⟨v,H1,I1,r1,f,ev,hf,h1⟩=>?_)
 subst ev
 cases r1
 refine callWith_F (hf.at I1.bp) (cp (ha pos pins s1 σ H1 _ I1 h1) λus s2 ⟨vs,H2,I2,r2,hf2,sp,F,q⟩=>⟨hf2.at I2.bp,?_⟩) he jo
 exact JZ F hr I2 r2 q
theorem jZ{tv:TE}(hr:cB k X.A)(hv:ZE X (.Name x p) tv)(ha:ZA X (e::es) t)(he:starEach (e::es) X.env=(false,eval e X.env)::starEach es X.env:=by rfl)(jo:(backTo pos (starEach es X.env)).any (·.1)=false:=by rfl) :
  ZE X (.Call (.Name x p) (e::es) [] pos) (uT X.prog X.w X.K X.mg X.base k tv t):=⟨Ha hr hv.to ha.to he jo⟩
end
def BMain(mg:Str->Option Value)(base:Heap):Prop:=∃bm o,mg "__builtins__" = some (.ref bm)/\bm≠builtinsNs/\bm≠mainGlobals/\base.get? bm=some o/\o.cls=.type "module"/\o.dict=some builtinsNs/\o.data=.plain
section
variable {X:Cx}{pins:List (Addr×Obj)}{σ:St}{H:Hp}{s:Shared}{h':Heap}{P c':Addr}{ps more:Array Value}{fo oc:Obj}
def made(H:Hp)(P:Addr)(ps:Array Value)(c':Addr)(oc:Obj)(f:Addr)(fo:Obj):Hp:=upd (upd (upd H P (.ql ps)) c' (gE oc)) f (gE fo)
theorem Inv.Rx{t':Nat}(I:Inv X pins σ H s)(hP:H P=some (.ql ps))(hx:Heap.ExtBut P s.heap h')(Ms:s.heap.objs.size<=c')(kc:c'<h'.objs.size)(yr:h'.get? c'=some oc)(ht:h'.get? P=some (tabObj (ps++more)))(o7:fo.isFreed=false) :
  Inv X pins σ (L2.made H P (ps++more) c' oc h'.objs.size fo) { s with heap:=h'.push fo,toks:=t' }:=by
 have Sg:=I.bp.lt hP
 have ncP:c'≠P:=js (eF Sg Ms)
 have nfP:h'.objs.size≠P:=js (Nat.lt_trans (eF Sg Ms) kc)
 have ncf:c'≠h'.objs.size:=bj kc
 have at_:∀{b:Addr},b<s.heap.objs.size->b≠P->L2.made H P (ps++more) c' oc h'.objs.size fo b=H b:=λ{b} hb nb=>by
  unfold L2.made
  rw[ay (bj (Nat.lt_trans (eF hb Ms) kc)),ay (bj (eF hb Ms)),ay nb]
 have keep:∀b o,b≠P->s.heap.get? b=some o->(h'.push fo).get? b=some o:=λb o nb e=>bC _ (hx b o nb e)
 have QH:(h'.push fo).get? P=some (tabObj (ps++more)):=bC _ ht
 have atP:L2.made H P (ps++more) c' oc h'.objs.size fo P=some (.ql (ps++more)):=by
  unfold L2.made
  rw[ay nfP.symm,ay ncP.symm,ak]
 refine I.un ⟨λb o e n _ _=>keep b o (λz=>by rw[z,hP]at n;cases n) e,λb o e n _ _=>⟨o.slots,keep b o (λz=>by rw[z,hP]at n;cases n) e⟩,λb o e n _=>?_,λb o e _=>?_,λb xs e=>?_,λb o v e=>?_,λb qs e=>?_⟩ λb u e=>?_
 ·rw[at_ (bf e) (λz=>by rw[z,hP]at n;cases n)];exact n
 ·by_cases nb:b=P
  ·exact⟨_,by rw[nb];exact QH⟩
  ·exact⟨o,keep b o nb e⟩
 ·rw[at_ (I.bp.lt e) (λz=>by rw[z,hP]at e;cases e)];exact e
 ·rw[at_ (I.bp.lt e) (λz=>by rw[z,hP]at e;cases e)];exact e
 ·by_cases nb:b=P
  ·subst nb
   rw[hP]at e;cases e
   exact⟨more,atP⟩
  ·exact⟨#[],by rw[at_ (I.bp.lt e) nb,e];simp⟩
 ·by_cases h1:b=h'.objs.size
  ·subst h1
   have e':some (gE fo)=some u:=by rw[<-e];unfold L2.made;exact ak.symm
   cases e'
   exact⟨eG _ o7,fo,eG _ o7⟩
  ·by_cases h2:b=c'
   ·subst h2
    have e':some (gE oc)=some u:=by rw[<-e];unfold L2.made;rw[ay ncf];exact ak.symm
    cases e'
    have:(h'.push fo).get? b=some oc:=bC _ yr
    exact⟨this,oc,this⟩
   ·by_cases h3:b=P
    ·subst h3
     rw[atP]at e;cases e
     exact QH
    ·have e0:H b=some u:=by rw[<-e];unfold L2.made;rw[ay h1,ay h2,ay h3]
     have np:∀c,(c=b\/H c=some (.own b))->c≠P:=λc hc z=>by
      rcases hc with hc | hc
      ·exact h3 (hc ▸ z)
      ·rw[z,hP]at hc;cases hc
     refine(I.bp b u e0).stay (λc v hc q=>keep c v (np c hc) q) (λc q=>?_) λc xs q=>?_
     ·rw[at_ (I.bp.lt q) (λz=>by rw[z,hP]at q;cases q)];exact q
     ·rw[at_ (I.bp.lt q) (λz=>by rw[z,hP]at q;cases q)];exact q
end
section
variable {X:Cx}{c P:Addr}{name qual:Str}{params:Arguments}{body:List Stmt}{scope:Scope}{cl:List (Str×Addr)}{pos:Pos}{i:Nat}
def Uu(P:Addr)(mg:Str->Option Value)(name qual:Str)(params:Arguments)(body:List Stmt)(scope:Scope)(cl:List (Str×Addr))(pos:Pos)(i:Nat):TS:=λD σ H=>∃ps,H P=some (.ql ps)/\TriplesOk ps.toList/\codeAmong pos ps.toList=none/\
 ∀f c' oc vs t ctv doc,H f=none->H c'=none->f≠c'->oc.data=.fields vs->vs[1]?=some (.str qual t)->
  D.nx (σ.set i (some (.ref f))) (made H P (ps ++ #[rawInt pos.line,rawInt pos.col,.ref c']) c' oc f (fnMade name qual params body scope cl doc ((mg "__name__").getD .none) c' ctv))
theorem NT(ou:X.env.code=.ref c)(hC:CodeHd X.base c P)(hB:BMain X.mg X.base)(hN:X.N.Nodup)(hi:X.N[i]?=some name)(hx:Loc X.env.scope name)(hq:qualnameIn X.env name name=qual)(zU:closureFor scope X.env=pure cl)
  (Qq:params.defaults=[]) (Ql:params.kw_defaults=[]) (ha:annTrees params none X.env=[]) (hf:X.fn name=true\/X.env.scope.names.lookup name=some .local) :
  PS X (.FunctionDef name params body [] none [] scope none name pos) (Uu P X.mg name qual params body scope cl pos i):=by
 intro pins s σ H D I h
 obtain⟨ps,hP,ht,WQ,q⟩:=h
 refine nestDef_K Qq Ql ha ?_
 rw[hq]
 have hg:=I.mod.glob.keeps I.bk
 have Xl:s.heap.get? P=some (tabObj ps):=I.bp _ _ hP
 obtain⟨bm,ob,b1,b2,b3,b4,b5,b6,b7⟩:=hB
 have none_:∀{b:Addr} {o:Obj},X.base.get? b=some o->b≠P:=λ{b o} e z=>by have:=(I.bs _ _ e).2;rw[z,hP]at this;cases this
 have hgP:mainGlobals≠P:=by
  obtain⟨o,_,_,e,_⟩:=I.mod.glob
  exact none_ e
 refine makeFunction_K (mg:=X.mg) zU I.ok.glob hg ou (hC.keeps I.bk) Xl ht WQ hgP ⟨bm,ob,b1,b2,b3,none_ b4,I.bk _ _ b4,b5,b6,b7⟩ λc' ctv doc h' tk HJ Ms kc Wz OD=>?_
 obtain⟨c2,oc,vs,t,e2,yr,hd,hv⟩:=Wz
 cases e2
 have I2:=I.Rx (fo:=fnMade name qual params body scope cl doc ((X.mg "__name__").getD .none) c' ctv) (t':=tk) hP HJ Ms kc yr OD rfl
 have fr1:H h'.objs.size=none:=I.bp.fresh (lu (sG Ms kc))
 have fr2:H c'=none:=I.bp.fresh Ms
 exact gi (v:=.ref h'.objs.size) I2 hN hi hx rfl (λs' I3=>⟨_,_,I3,q h'.objs.size c' oc vs t ctv doc fr1 fr2 (js kc) hd hv⟩) hf
end
def CellsAre(cells:List (Str×Addr))(σ:St)(xs:List (Nat×Str))(C:List (Addr×Obj)):Prop:=∀q∈xs,∃c o u v,cells.lookup q.2=some c/\C.lookup c=some o/\o.data=.cell (some u)/\σ[q.1]?=some (some v)/\RelV v u
section
variable {X:Cx}{pins:List (Addr×Obj)}{σ:St}{H:Hp}{s:Shared}
theorem t5(I:Inv X pins σ H s):∀xs:List (Nat×Str),(∀q∈xs,X.N[q.1]?=some q.2/\X.env.scope.names.lookup q.2=some .cell/\∃v,σ[q.1]?=some (some v))->
  ∃C,(∀b o,C.lookup b=some o->s.heap.get? b=some o/\∃x,X.env.cells.lookup x=some b)/\CellsAre X.env.cells σ xs C
 | [],_=>⟨[],λ_ _ h=>(by cases h),λ_ h=>(nomatch h)⟩
 | q::xs,h=>by
  obtain⟨C,h1,h2⟩:=t5 I xs λr hr=>h r (dR _ hr)
  obtain⟨hN,hk,v,hv⟩:=h q dF
  obtain⟨m,hn,hl⟩:=I.loc
  obtain⟨u,rv,l⟩:=hl q.1 q.2 v hN hv (.inr (.inl hk))
  have Pa:X.env.kindOf q.2=some .cell:=hk
  obtain⟨c,hc,o,ho,hd⟩:∃c,X.env.cells.lookup q.2=some c/\∃o,s.heap.get? c=some o/\o.data=.cell (some u):=by
   rcases l with ⟨z,_⟩ | ⟨_,c,hc,o,ho,hd⟩
   ·rw[Pa]at z;cases z
   ·exact⟨c,hc,o,ho,hd⟩
  refine⟨(c,o)::C,λb o' e=>?_,λr hr=>?_⟩
  ·rw[fA]at e
   by_cases hb:b=c
   ·subst hb
    rw[g8]at e
    cases e
    exact⟨ho,q.2,hc⟩
   ·rw[pH hb]at e
    exact h1 b o' e
  ·rcases ck.mp hr with rfl | hr
   ·exact⟨c,o,u,v,hc,by rw[fA,g8],hd,hv,rv⟩
   ·obtain⟨c2,o2,u2,v2,e1,e2,e3,e4,e5⟩:=h2 r hr
    by_cases hb:c2=c
    ·subst hb
     have:=(h1 c2 o2 e2).1
     rw[ho]at this
     cases this
     exact⟨c2,o,u2,v2,e1,by rw[fA,g8],e3,e4,e5⟩
    ·exact⟨c2,o2,u2,v2,e1,by rw[fA,pH hb];exact e2,e3,e4,e5⟩
variable {C:List (Addr×Obj)}
theorem Inv.Bx(I:Inv X pins σ H s)(h:∀b o,C.lookup b=some o->s.heap.get? b=some o/\∃x,X.env.cells.lookup x=some b):cX C H:=λb o e=>let ⟨x,hx⟩:=(h b o e).2;I.dC x b hx
theorem Inv.Sv(I:Inv X pins σ H s)(HW:∀x,X.fn x=true)(h:∀b o,C.lookup b=some o->s.heap.get? b=some o/\∃x,X.env.cells.lookup x=some b):lQ X.prog X.w X.K X.mg X.base X.A X.stack s (fG C H):=by
 have e:=I.z5
 have big:∀b o,C.lookup b=some o->X.s₀.heap.objs.size<=b:=λb o q=>let ⟨x,hx⟩:=(h b o q).2;I.ok.JC x b (HW x) hx
 refine⟨e.frames,e.mod,λb o q=>⟨(e.bs b o q).1,?_⟩,e.yb,e.il,λb hb=>?_,I.bp.fG (I.Bx h) λb o q=>(h b o q).1,e.bare⟩
 ·cases z:C.lookup b with
  | none=>rw[bF z];exact(e.bs b o q).2
  | some o'=>exact absurd (eF (bf q) (fz I.ok.yb (big b o' z))) (gJ _)
 ·cases z:C.lookup b with
  | none=>rw[bF z];exact e.zX b hb
  | some o'=>
   obtain⟨x,hx⟩:=(h b o' z).2
   rcases ck.mp (I.lz b hb) with y | y
   ·exact absurd y (I.JB x b hx)
   ·obtain⟨_,ob,ho,_⟩:=I.ok.il.mem y
    exact absurd (eF (bf ho) (big b o' z)) (gJ _)
end
section
variable {X:Cx}{k:Nat}{f:Addr}{fd:FuncData}{ps:List Str}{sp:Sp}{EH:St->XK}{x:Str}{p pos:Pos}{e:Expr}{es:List Expr}{t:TA}
def uU(cells:List (Str×Addr))(xs:List (Nat×Str))(sp:Sp)(EH:St->XK)(t:TA):TE:=λσ H Q=>t σ H λvs H1=>(∀q∈xs,∃v,σ[q.1]?=some (some v))/\
 ∀C,CellsAre cells σ xs C->cX C H1->sp vs (fG C H1) (λv H'=>Q v (bT C H')) (λc dx H'=>EH σ c dx (bT C H'))
theorem JW{xs:List (Nat×Str)}{pins:List (Addr×Obj)}{σ:St}{H:Hp}{s:Shared}{Q:VK}{us:List Value}{vs:List V}(F:cw X.prog X.w X.K X.mg X.base (vX X.prog X.w) k f fd ps sp)(hr:cB k X.A)(hb:Binds X.K fd ps [])(hx:fH X EH)(HW:∀x,X.fn x=true)
  (Qh:∀q∈xs,X.N[q.1]?=some q.2/\X.env.scope.names.lookup q.2=some .cell)
  (I:Inv X pins σ H s) (r:Vals vs us) (hv:∀q∈xs,∃v,σ[q.1]?=some (some v)) (h:∀C,CellsAre X.env.cells σ xs C->cX C H->sp vs (fG C H) (λv H'=>Q v (bT C H')) (λc dx H'=>EH σ c dx (bT C H'))) :
  wpAny (model X.prog X.w) X.A (call (.ref f) us) (EP X pins σ Q) X.xe s:=by
 obtain⟨C,h1,h2⟩:=t5 I xs λq hq=>⟨(Qh q hq).1,(Qh q hq).2,hv q hq⟩
 have po:=I.Bx h1
 have at_:∀b o,C.lookup b=some o->s.heap.get? b=some o:=λb o q=>(h1 b o q).1
 have h:=h C h2 po
 have hl:us.length=ps.length:=by rw[<-r.length];exact F.len _ _ _ _ h
 have b:=hb s us I.jn (by rw[gh];exact hl)
 rw[gh]at b
 refine gH (gI (F.run X.A X.stack s (fG C H) ⟨us,[]⟩ us vs _ _ hr (I.Sv HW h1) b r h) λr s' hq=>?_)
 cases r with
 | error e=>
  obtain⟨e,c,dx,H',rfl,os,bare,un,bp,xa,q⟩:=hq
  have Dx:dD C H':=λb o q=>un.frzs b o _ (jd q)
  refine hx.pass I ⟨e,c,dx,bT C H',rfl,os,bare,un.BZ bp po at_,bp.bT Dx,xa.mono λb hb=>⟨hb.1,?_⟩,q⟩
  rw[bq (Dx.Dy hb.2)];exact hb.2
 | ok fl=>
  cases fl with
  | ret u=>
   obtain⟨v,H',os,bare,un,bp,r',q⟩:=hq
   have Dx:dD C H':=λb o q=>un.frzs b o _ (jd q)
   exact I.after ⟨v,bT C H',os,bare,un.BZ bp po at_,bp.bT Dx,r',q⟩
  | _=>exact False.elim hq
theorem Hb{xs:List (Nat×Str)}{cells:List (Str×Addr)}(zU:X.env.cells=cells)(F:cw X.prog X.w X.K X.mg X.base (vX X.prog X.w) k f fd ps sp)(hr:cB k X.A)(hg:Gl X x)(hm:X.mg x=some (.ref f))(hk:PySem.W.keepIn X.K (.ref f)=true)(hb:Binds X.K fd ps [])(hx:fH X EH)(HW:∀x,X.fn x=true)
  (Qh:∀q∈xs,X.N[q.1]?=some q.2/\X.env.scope.names.lookup q.2=some .cell)
  (ha:PA X (e::es) t) (jI:(x==("__debug__" : Str))=false:=by decide) (he:starEach (e::es) X.env=(false,eval e X.env)::starEach es X.env:=by rfl) (jo:(backTo pos (starEach es X.env)).any (·.1)=false:=by rfl) :
  PE X (.Call (.Name x p) (e::es) [] pos) (uU cells xs sp EH t):=by
 subst zU
 intro pins s σ H Q I h
 refine lZ (fW I hg hm ?_ jI)
 exact sH (h₀:=X.base) I.ok.mod.Jt hk (cp (ha pos pins s σ H _ I h) λus s1 ⟨vs,H1,I1,r,hv,q⟩=>⟨I1.jn,JW F hr hb hx HW Qh I1 r hv q⟩) he jo
theorem nc{xs:List (Nat×Str)}{cells:List (Str×Addr)}(zU:X.env.cells=cells)(F:cw X.prog X.w X.K X.mg X.base (vX X.prog X.w) k f fd ps sp)(hr:cB k X.A)(hg:Gl X x)(hm:X.mg x=some (.ref f))(hk:PySem.W.keepIn X.K (.ref f)=true)(hb:Binds X.K fd ps [])(hx:fH X EH)(HW:∀x,X.fn x=true)
  (Qh:∀q∈xs,X.N[q.1]?=some q.2/\X.env.scope.names.lookup q.2=some .cell)
  (ha:ZA X (e::es) t) (jI:(x==("__debug__" : Str))=false:=by decide) (he:starEach (e::es) X.env=(false,eval e X.env)::starEach es X.env:=by rfl) (jo:(backTo pos (starEach es X.env)).any (·.1)=false:=by rfl) :
  ZE X (.Call (.Name x p) (e::es) [] pos) (uU cells xs sp EH t):=⟨Hb zU F hr hg hm hk hb hx HW Qh ha.to jI he jo⟩
end
theorem Dp{C:List (Addr×Obj)}{H H':Hp}(p:cX C H)(s:bB (fG C H) H'):bB H (bT C H'):=λb o e=>by
 have q:=p.out e
 rw[bq q];exact s b o (by rw[bF q];exact e)
theorem km{C:List (Addr×Obj)}{H:Hp}(p:cX C H):bB H (fG C H):=λb o e=>by rw[bF (p.out e)];exact e
def CK(ts:List (Addr×Addr))(H:Hp):Prop:=∀q∈ts,H q.2=some (.ql #[])
theorem DX{P:Program}{w:World}{K:PySem.W.Frag}{mg mb:Str->Option Value}{CX:CQ}{k:Nat}{fa a:Addr}{fd:FuncData}{x:Str}{sp:Sp}{s₁:Shared}{vs:List Value}{ns:List Int}{ts:List (Addr×Addr)}
  (hT:TabsAt ts s₁.heap) (hKt:∀q∈ts,K.lookup q.2=none) (hB:BMain mg s₁.heap)
  (KX:K.In s₁.heap) (Qj:s₁.heap.Ns mainGlobals mg) (hb:s₁.heap.Ns builtinsNs mb) (hbb:∀x:Str,x≠"__name__"->mb x=bootBuiltins x) (WT:s₁.heap.NoLimit) (hg:s₁.gens = #[])
  (ha:s₁.heap.get? a=some { cls:=.type "list",data:=.seq vs.toArray }) (hi:IntsAre vs ns) (hl:ns.length<=sizeLine) (hr:cB k callerA)
  (F:∀base:Heap,K.In base->base.Ns mainGlobals mg->BMain mg base->cw P w K mg base CX k fa fd [x] sp) (HY:∀(s:Shared) (u:Value),BindsTo s fd ⟨[u],[]⟩ [(x,u)])
  (o4:∀H:Hp,CK ts H->lU K H a (ns.map V.int)->sp [.ref a] H (λv _=>v=.bl true) λ_ _ _=>False)
  (Xu:∀H e s',CX [] H s₁ (λ_ _ _=>False) e s'->False) :
  codeAny (model P w) callerA (.call (.ref fa) ⟨[.ref a],[]⟩) (λr s'=>r=.ok (.ret (.bool true))/\OldK s₁.heap s'.heap/\s'.os=s₁.os/\AllBare s'.gens) s₁:=by
 have rv:=ng hi
 have Wd:=hi.length
 have core:∀H:Hp,CK ts H->lU K H a (ns.map V.int)->gb P w H s₁.heap->(∀b,H b≠none->b=a\/b∈ts.map (·.2))->(∀b u,H b=some u->(∃o xs,u=.tV o (.lst xs))\/(b∈ts.map (·.2)/\u=.ql #[]))->(H a≠none->K.lookup a=none)->
   codeAny (model P w) callerA (.call (.ref fa) ⟨[.ref a],[]⟩) (λr s'=>r=.ok (.ret (.bool true))/\OldK s₁.heap s'.heap/\s'.os=s₁.os/\AllBare s'.gens) s₁:=by
  intro H hO hS bp hA hU hK
  have vL:∀{b:Addr} {o:Obj},s₁.heap.get? b=some o->H b=none->(rY s₁.heap H).get? b=some o:=λe n=>HS e n
  have RD:∀{b:Addr},b∈ts.map (·.2)->s₁.heap.get? b=some (tabObj #[]):=λ{b} h=>by
   obtain⟨q,hq,rfl⟩:=jk.mp h
   exact(hT q hq).2
  have Jr:∀{b:Addr} {o:Obj},s₁.heap.get? b=some o->(o.cls≠.none\/∃es ep,o.data=.dict es ep)->b≠a->H b=none:=λ{b o} e d nb=>by
   cases q:H b with
   | none=>rfl
   | some u=>
    rcases hA b (by rw[q];simp) with z | z
    ·exact absurd z nb
    ·rw[RD z]at e;cases e
     rcases d with d | ⟨es,ep,d⟩
     ·exact absurd rfl d
     ·cases d
  have neA:∀{b:Addr} {o:Obj} {es:Array DictEntry} {ep:Nat},s₁.heap.get? b=some o->o.data=.dict es ep->b≠a:=λ{b o es ep} e d z=>by
   subst z
   rw[ha]at e;cases e
   have d':Data.seq vs.toArray _=Data.dict es ep:=d
   cases d'
  have TK:∀{b:Addr} {m:Str->Option Value},s₁.heap.Ns b m->(rY s₁.heap H).Ns b m:=λ{b m} ⟨o,es,ep,e,d,r⟩=>⟨o,es,ep,vL e (Jr e (.inr ⟨es,ep,d⟩) (neA e d)),d,r⟩
  have hKb:K.In (rY s₁.heap H):=λb o e=>vL (KX b o e) (by
   cases q:H b with
   | none=>rfl
   | some u=>
    rcases hA b (by rw[q];simp) with z | z
    ·subst z
     rw[hK (by rw[q];simp)]at e;cases e
    ·obtain⟨r,RK,rfl⟩:=jk.mp z
     rw[hKt r RK]at e;cases e)
  have hM:Mod K mg (rY s₁.heap H):=⟨hKb,TK Qj,⟨mb,TK hb,hbb⟩,let ⟨mc,h1,h2⟩:=WT;⟨mc,TK h1,h2⟩⟩
  have hBb:BMain mg (rY s₁.heap H):=by
   obtain⟨bm,o,b1,b2,b3,b4,b5,b6,b7⟩:=hB
   have nb:bm≠a:=λz=>by
    rw[z,ha]at b4;cases b4
    have b7':Data.seq vs.toArray _=Data.plain:=b7
    cases b7'
   exact⟨bm,o,b1,b2,b3,vL b4 (Jr b4 (.inl (by rw[b5];intro z;cases z)) nb),b5,b6,b7⟩
  have e0:lQ P w K mg (rY s₁.heap H) callerA [] s₁ H:=⟨rfl,hM,λb o e=>Kz e,Nat.le_of_eq (Ed _ _),trivial,λb hb=>absurd (show b∈([]:List Addr) from hb) (by simp),bp,.of_eq hg⟩
  refine gI ((F _ hKb (TK Qj) hBb).run callerA [] s₁ H ⟨[.ref a],[]⟩ [.ref a] [.ref a] _ _ hr e0 (HY s₁ (.ref a)) (.cons rfl .nil) (o4 H hO hS)) λr s' h=>?_
  cases r with
  | error e=>exact(Xu H e s' h).elim
  | ok fl=>
   cases fl with
   | next=>exact False.elim h
   | brk=>exact False.elim h
   | cont=>exact False.elim h
   | ret u=>
    obtain⟨v,H',os,bare,un,RN,r',q⟩:=h
    have q':v=.bl true:=q
    subst q'
    obtain rfl:u=Value.bool true:=r'
    have each:∀b o,s₁.heap.get? b=some o->asItWas s₁.heap s'.heap b o/\∃o',s'.heap.get? b=some o':=λb o e=>by
     cases q:H b with
     | none=>
      have:=un.keep b o e q (by intro z;exact absurd (show b∈([]:List Addr) from z) (by simp)) (by simp)
      exact⟨.inl this,o,this⟩
     | some u=>
      rcases hU b u q with ⟨ob,xs,rfl⟩ | ⟨hm,rfl⟩
      ·have z2:=un.frzs b ob _ q
       obtain⟨e1,_⟩:=bp b _ q
       obtain⟨e2,_⟩:=RN b _ z2
       rw[e]at e1;cases e1
       exact⟨.inl e2,_,e2⟩
      ·obtain⟨r,RK,rfl⟩:=jk.mp hm
       obtain⟨more,z2⟩:=un.tbls _ _ q
       have e2:s'.heap.get? r.2=some (tabObj (#[]++more)):=RN _ _ z2
       have e3:=(hT r RK).2
       rw[e]at e3;cases e3
       exact⟨.inr (.inl ⟨((hT r RK).1.tab (hT r RK).2).isCodeTable,rfl,#[],more,rfl,e2⟩),_,e2⟩
    exact⟨rfl,⟨λb o e=>(each b o e).1,λb o e=>(each b o e).2⟩,os,bare⟩
 have Zf:a∉ts.map (·.2):=λz=>by
  obtain⟨q,hq,e⟩:=jk.mp z
  have:=(hT q hq).2
  rw[e,ha]at this;cases this
 have QJ:∀(H1:Hp),(∀b,b∈ts.map (·.2)->H1 b=some (.ql #[]))->CK ts H1:=λH1 h q hq=>h _ (List.mem_map_of_mem hq)
 have LK:∀b,b∈ts.map (·.2)->s₁.heap.get? b=some (tabObj #[]):=λb h=>by
  obtain⟨q,hq,rfl⟩:=jk.mp h
  exact(hT q hq).2
 cases hk:K.lookup a with
 | some o=>
  have e:=KX a o hk
  rw[ha]at e
  cases e
  refine core (λb=>if b∈ts.map (·.2) then some (.ql #[]) else none) (QJ _ λb hb=>aC hb) (.inr ⟨_,vs.toArray,_,hk,rfl,rfl,rfl,by rw[dE,Wd];exact hl,by simpa using rv⟩) (λb u z=>?_) (λb z=>?_) (λb u z=>?_) λz=>absurd (aB Zf) z
  ·by_cases hb:b∈ts.map (·.2)
   ·have z':=(aC hb).symm.trans z
    cases z';exact LK b hb
   ·have z':=(aB hb).symm.trans z
    cases z'
  ·by_cases hb:b∈ts.map (·.2)
   ·exact .inr hb
   ·exact absurd (aB hb) z
  ·by_cases hb:b∈ts.map (·.2)
   ·have z':=(aC hb).symm.trans z
    cases z';exact .inr ⟨hb,rfl⟩
   ·have z':=(aB hb).symm.trans z
    cases z'
 | none=>
  let H0:Hp:=λb=>if b=a then some (.tV { cls:=.type "list",data:=.seq vs.toArray } (.lst (ns.map V.int))) else if b∈ts.map (·.2) then some (.ql #[]) else none
  have Td:H0 a=some (.tV { cls:=.type "list",data:=.seq vs.toArray } (.lst (ns.map V.int))):=aC rfl
  have atT:∀b,b∈ts.map (·.2)->H0 b=some (.ql #[]):=λb hb=>(aB (λz:b=a=>Zf (by rw[<-z];exact hb))).trans (aC hb)
  have Yw:∀b,b≠a->b∉ts.map (·.2)->H0 b=none:=λb h1 h2=>(aB h1).trans (aB h2)
  refine core H0 (QJ _ atT) (.inl (.inr ⟨{ cls:=.type "list",data:=.seq vs.toArray },Td⟩)) (λb u z=>?_) (λb z=>?_) (λb u z=>?_) λ_=>hk
  ·by_cases hb:b=a
   ·subst hb
    rw[Td]at z;cases z
    exact⟨ha,by rw[bN];exact hl,vs,_,rv,ha⟩
   ·by_cases hm:b∈ts.map (·.2)
    ·rw[atT b hm]at z;cases z;exact LK b hm
    ·rw[Yw b hb hm]at z;cases z
  ·by_cases hb:b=a
   ·exact .inl hb
   ·by_cases hm:b∈ts.map (·.2)
    ·exact .inr hm
    ·exact absurd (Yw b hb hm) z
  ·by_cases hb:b=a
   ·subst hb
    rw[Td]at z;cases z
    exact .inl ⟨_,_,rfl⟩
   ·by_cases hm:b∈ts.map (·.2)
    ·rw[atT b hm]at z;cases z;exact .inr ⟨hm,rfl⟩
    ·rw[Yw b hb hm]at z;cases z
theorem Ft{l:PySem.W.OpenLaw}{n k:Nat}{q:Program}{loose:List Str}{XP:(Str->Option Value)->Heap->Prop}{YP:World->Heap->Prop}{d:DefRec}{K:Params->PySem.W.Frag}{CX:World->CQ}{sp:World->Sp}{x:Str}{ts:List (Addr×Addr)}
  (hn:l.most=some n) (hn2:n<=sizeLine) (R7:d.params.defaults=[]) (hr:cB k callerA)
  (hY:∀(w:World) (h:Heap),YP w h->(K w.params).In h/\∀q∈ts,h.get? q.2=some (tabObj #[]))
  (Ua:∀w:World,∀q∈ts,codeHdIn (K w.params) q.1 q.2=true/\(K w.params).lookup q.2=none)
  (F:∀(w:World) (mg:Str->Option Value) (fa:Addr) (h:Heap),(K w.params).In h->h.Ns mainGlobals mg->mg d.name=some (.ref fa)->
   ∃fd:FuncData,(∀(s:Shared) (u:Value),BindsTo s fd ⟨[u],[]⟩ [(x,u)])/\
    ∀base:Heap,(K w.params).In base->base.Ns mainGlobals mg->BMain mg base->cw l.prog w (K w.params) mg base (CX w) k fa fd [x] (sp w))
  (o4:∀(w:World) (H:Hp) (a:Addr) (ns:List Int),ns.length<=n->CK ts H->lU (K w.params) H a (ns.map V.int)->sp w [.ref a] H (λv _=>v=.bl true) λ_ _ _=>False)
  (Xu:∀(w:World) (H:Hp) (s:Shared) (e:Value) (s':Shared),CX w [] H s (λ_ _ _=>False) e s'->False) :
  PySem.W.WalkO q loose XP YP l.row.toRowW d [] (λf vs=>PySem.call f vs):=by
 refine Att.yh hn R7 λw s₀ s₁ mg mb fa o pm cd doc a vs ns G Y ho hd nA RQ O8 hints hlen hg=>?_
 obtain⟨KX,hP⟩:=hY w _ Y
 obtain⟨fd,hb,hF⟩:=F w mg fa _ KX G.T.g RQ
 have hB:BMain mg s₁.heap:=by
  obtain⟨bm,ob,b1,b2,b3,b4,b5,b6⟩:=G.T.bmain
  refine⟨bm,ob,b1,b2,λz=>?_,b3,b4,b5,b6⟩
  obtain⟨o,es,ep,e,dd,_⟩:=G.T.g
  rw[z,e]at b3;cases b3
  rw[dd]at b6;cases b6
 exact DX (λq hq=>⟨codeHd_of_K KX (Ua w q hq).1,hP q hq⟩) (λq hq=>(Ua w q hq).2) hB KX G.T.g G.T.b G.T.builtins G.T.nolimit hg O8 hints (fz hlen hn2) hr hF hb (λH hO hS=>o4 w H a ns hlen hO hS) λH e s'=>Xu w H s₁ e s'
def Gz:List V->Hp->VK->Prop:=λvs H Q=>∃a,vs=[.ref a]/\∃ns:List Int,H a=some (.lst (List.map V.int ns))/\Q (.int ns.sum) H
theorem xE:∀{ns:List Int} {its:List Value},Vals (List.map V.int ns) its->IntsAre its ns
 | [],[],_=>.nil
 | n::ns,u::its,.cons r rs=>by
  obtain⟨t,rfl⟩:=(r:∃t,u=.int n t)
  exact .cons n t (xE rs)
section
variable {X:Cx}
theorem t6(hh:X.A.handled=none):cD X (.builtin "sum") Gz:=by
 intro pins s σ H vs us Q I rv h
 obtain⟨a,rfl,ns,hq,q⟩:=h
 obtain⟨u,rfl,ru⟩:=vals1 rv
 cases ru
 obtain⟨its,r,pl,hz⟩:=I.list (dk hq)
 have hi:=xE r
 obtain⟨xs,hx⟩:=hi.allInts.items
 have WY:s.heap.IsList a (intItems xs):=hx ▸ pl.isList
 refine sum_intListG hh WY λh' tk t' hk=>?_
 have e1:ns=xs.toList.map (·.1):=by
  rw[<-nums_intItems,<-hx]
  exact(show numsOf its.toArray.toList=ns from hi.numsOf).symm
 have e2:preSum (numAt xs) xs.size=ns.sum:=by
  rw[preSum_eq,List.take_of_length_le (by simp),e1]
 rw[e2]
 exact⟨.int ns.sum,H,I.kept hk,⟨_,rfl⟩,q⟩
end
theorem mS{env:Env}{ad:Str->Addr}:∀(ns:List (Str×NameKind)) (acc:List (Str×Addr)),(∀x,(x,NameKind.free)∈ns->env.cells.lookup x=some (ad x))->
  (forIn ns acc λq cs=>match q with | (name,kind)=>if (kind == .free)=true then do let c <-cellOf env name;pure PUnit.unit;pure (ForInStep.yield ((name,c)::cs)) else do pure PUnit.unit;pure (ForInStep.yield cs):Sem (List (Str×Addr))) =
   pure (((ns.filter λq=>q.2 == .free).map λq=>(q.1,ad q.1)).reverse++acc)
 | [],acc,_=>rfl
 | (x,k)::ns,acc,h=>by
  rw[List.forIn_cons]
  have ih:=mS (env:=env) (ad:=ad) ns
  by_cases e:k=.free
  ·subst e
   have hx:=h x dF
   have hc:cellOf env x=pure (ad x):=by unfold cellOf;rw[hx]
   simp only[hc,pure_bind,g8,ju]
   rw[ih _ λy hy=>h y (dR _ hy)]
   simp
  ·have e':(k==NameKind.free)=false:=pH e
   simp only[e',uD,lh,pure_bind]
   rw[ih _ λy hy=>h y (dR _ hy)]
   simp[e]
theorem se{scope:Scope}{env:Env}{ad:Str->Addr}(h:∀x,(x,NameKind.free)∈scope.names->env.cells.lookup x=some (ad x)):closureFor scope env=pure ((scope.names.filter λq=>q.2 == .free).map λq=>(q.1,ad q.1)).reverse:=by
 have:=mS (ad:=ad) scope.names [] h
 rw[gh]at this
 unfold closureFor
 simp only[bind_pure]
 exact this
theorem qE{ad:Str->Addr}{x:Str}:∀(l:List Str),(l.map λx=>(x,ad x)).lookup x=if x∈l then some (ad x) else none
 | []=>rfl
 | y::l=>by
  rw[g5,fA]
  by_cases e:x=y
  ·subst e;rw[g8,aC dF]
  ·rw[pH e,qE l]
   by_cases h:x∈l
   ·rw[aC h,aC (dR _ h)]
   ·rw[aB h,aB (λz=>(ck.mp z).elim e h)]
def freeOf(sc:Scope):List Str:=(sc.names.filter λq=>q.2 == .free).map (·.1)
section
variable {X:Cx}{N:List Str}{sc:Scope}{c P:Addr}{name qual:Str}{params:Arguments}{body:List Stmt}{scope:Scope}{pos:Pos}{fr:List Str}
def L5(P:Addr)(mg:Str->Option Value)(name qual:Str)(params:Arguments)(body:List Stmt)(scope:Scope)(pos:Pos)(i:Nat)(cells:List (Str×Addr))(fr:List Str):TS:=λD σ H=>∃ps,H P=some (.ql ps)/\TriplesOk ps.toList/\codeAmong pos ps.toList=none/\
 ∀cl f c' oc vs t ctv doc,(∀x∈fr,∃c,cells.lookup x=some c/\cl.lookup x=some c)->(∀x c,cl.lookup x=some c->x∈fr)->(∀x y c,cl.lookup x=some c->cl.lookup y=some c->x=y)->H f=none->H c'=none->f≠c'->oc.data=.fields vs->vs[1]?=some (.str qual t)->
  D.nx (σ.set i (some (.ref f))) (made H P (ps ++ #[rawInt pos.line,rawInt pos.col,.ref c']) c' oc f (fnMade name qual params body scope cl doc ((mg "__name__").getD .none) c' ctv))
end
theorem ji.Vt{P:Program}{w:World}{K:PySem.W.Frag}{mg:Str->Option Value}{base:Heap}{x qual:Str}{st:Stmt}{f:Addr}{fd:FuncData}{N ps:List Str}{k:Nat}{sp:Sp}(F:ji K x qual st f fd)(S:aL N ps (ag st))(len:∀vs H Q E,sp vs H Q E->vs.length=ps.length)
  (dm:∀(bE:Value) (A:Around) (outer:List Env) (s:Shared) (H:Hp) (vs:List V) (Q:VK) (E:XK),fd.code=bE->cB k (A.deeper (envOfC qual (ag st) s.heap.objs.size f bE))->sp vs H Q E->
   HC (cM eB P w K mg base N qual (ag st) f bE A outer s H E).zu N (ag st)->(∀x,(cM eB P w K mg base N qual (ag st) f bE A outer s H E).zu.fn x=true)->
   ∃t,uh (cM eB P w K mg base N qual (ag st) f bE A outer s H E).zu (aI st) t/\t { nx:=λ_ H'=>Q .non H',rt:=Q } (start N vs) H):cw P w K mg base eB (k+1) f fd ps sp:=by
 obtain⟨oc,od,kV,doc,pm,an,bE,ct,rO,rfl,lk,nA⟩:=F.ex
 refine Ii lk nA S len λA outer s H vs Q E hr o4=>?_
 obtain⟨t,h,q⟩:=dm bE A outer s H vs Q E rfl hr o4 ⟨rfl,rfl⟩ λ_=>rfl
 exact⟨t,h.to.zu,q⟩
theorem zH{X:Cx}:fH X λ_=>E0:=λ_ _ _ _ _ _ _ _ _ h=>h.elim
theorem zS{X:Cx}{N:List Str}{sc:Scope}{xs:List (Nat×Str)}(hc:HC X N sc)(h:(xs.all λq=>N[q.1]? == some q.2&&sc.names.lookup q.2==some .cell)=true):∀q∈xs,X.N[q.1]?=some q.2/\X.env.scope.names.lookup q.2=some .cell:=λq hq=>by
 have:=nV.mp h q hq
 simp only[eJ,beq_iff_eq]at this
 rw[hc.n,hc.s];exact this
theorem cw.toE{P:Program}{w:World}{K:PySem.W.Frag}{mg:Str->Option Value}{base:Heap}{k:Nat}{f:Addr}{fd:FuncData}{ps:List Str}{sp:Sp}(F:cw P w K mg base eB k f fd ps sp):cw P w K mg base (vX P w) k f fd ps sp:=
 ⟨F.len,λA outer s H args us vs Q E hr he hb hv hs=>gI (F.run A outer s H args us vs Q E hr he hb hv hs) λr s' h=>by
  cases r with
  | error e=>exact False.elim h
  | ok fl=>cases fl <;> exact h⟩
section
variable {X:Cx}{pins:List (Addr×Obj)}{σ:St}{H:Hp}{s:Shared}{A:Around}{E:Value->Shared->Prop}{a C dx:Addr}{fs:List (Str×V)}{v:V}
variable {k:Nat}{m:Str}{p pos apos:Pos}{e o:Expr}{es:List Expr}{ta:TE}{t:TA}
end
section
variable {X:Cx}{N:List Str}{sc:Scope}{c P:Addr}{qual:Str}{params:Arguments}{body:Expr}{scope:Scope}{pos:Pos}{fr:List Str}
def CP(cells cl:List (Str×Addr))(fr:List Str):Prop:=(∀x∈fr,∃c,cells.lookup x=some c/\cl.lookup x=some c)/\(∀x c,cl.lookup x=some c->x∈fr)/\∀x y c,cl.lookup x=some c->cl.lookup y=some c->x=y
end
section
variable {X:Cx}{N:List Str}{sc:Scope}{c P:Addr}{name qual:Str}{params:Arguments}{body:List Stmt}{scope:Scope}{pos:Pos}{fr:List Str}
def Bd(P:Addr)(mg:Str->Option Value)(name qual:Str)(params:Arguments)(body:List Stmt)(scope:Scope)(pos:Pos)(i:Nat)(cells:List (Str×Addr))(fr:List Str):TS:=λD σ H=>∃ps,H P=some (.ql ps)/\TriplesOk ps.toList/\
 ((codeAmong pos ps.toList=none/\∀cl f c' oc vs t ctv doc,CP cells cl fr->H f=none->H c'=none->f≠c'->oc.data=.fields vs->vs[1]?=some (.str qual t)->
  D.nx (σ.set i (some (.ref f))) (made H P (ps ++ #[rawInt pos.line,rawInt pos.col,.ref c']) c' oc f (fnMade name qual params body scope cl doc ((mg "__name__").getD .none) c' ctv)))\/
 ∃c',codeAmong pos ps.toList=some (.ref c')/\∀cl f ctv doc,CP cells cl fr->H f=none->D.nx (σ.set i (some (.ref f))) (upd H f (gE (fnMade name qual params body scope cl doc ((mg "__name__").getD .none) c' ctv))))
theorem GZ(hc:HC X N sc)(nd:N.Nodup)(hf:∀x,X.fn x=true)(i:Nat)(h:Jq N sc i name=true)(ou:X.env.code=.ref c)(hC:CodeHd X.base c P)(hB:BMain X.mg X.base)(hq:qualnameIn X.env name name=qual)(o7:freeOf scope=fr)(W':∀x∈fr,sc.names.lookup x=some .cell)
  (Qq:params.defaults=[]) (Ql:params.kw_defaults=[]) (ha:annTrees params none X.env=[]) :
  PS X (.FunctionDef name params body [] none [] scope none name pos) (Bd P X.mg name qual params body scope pos i X.env.cells fr):=by
 intro pins s σ H D I hw
 obtain⟨hN,hx⟩:=iI hc h
 have has:∀x∈fr,∃c,X.env.cells.lookup x=some c:=λx hx=>I.ok.has x (.inl (show X.env.scope.names.lookup x=some .cell by rw[hc.s];exact W' x hx))
 have had:∀x∈fr,X.env.cells.lookup x=some ((X.env.cells.lookup x).getD 0):=λx hx=>by
  obtain⟨c,e⟩:=has x hx
  rw[e];rfl
 have mem:∀x,(x,NameKind.free)∈scope.names->x∈fr:=λx hx=>by
  rw[<-o7]
  exact jk.mpr ⟨(x,.free),nU.mpr ⟨hx,rfl⟩,rfl⟩
 have zU:=se (scope:=scope) (env:=X.env) (ad:=λx=>(X.env.cells.lookup x).getD 0) λx hx=>had x (mem x hx)
 have ecl:((scope.names.filter λq=>q.2 == .free).map λq=>(q.1,(X.env.cells.lookup q.1).getD 0)).reverse=(freeOf scope).reverse.map λx=>(x,(X.env.cells.lookup x).getD 0):=by
  unfold freeOf
  rw[<-List.map_reverse,<-List.map_reverse,jr]
  rfl
 rw[ecl,o7]at zU
 have lk:∀x,(fr.reverse.map λx=>(x,(X.env.cells.lookup x).getD 0)).lookup x=if x∈fr then some ((X.env.cells.lookup x).getD 0) else none:=λx=>by
  rw[qE];simp
 have ZV:∀x c,(fr.reverse.map λx=>(x,(X.env.cells.lookup x).getD 0)).lookup x=some c->x∈fr:=λx c e=>by
  rw[lk]at e
  by_cases hx:x∈fr
  ·exact hx
  ·rw[aB hx]at e;cases e
 have eqF:∀x c,(fr.reverse.map λx=>(x,(X.env.cells.lookup x).getD 0)).lookup x=some c->X.env.cells.lookup x=some c:=λx c e=>by
  have hx:=ZV x c e
  rw[lk,aC hx]at e
  rw[had x hx];exact e
 have la:CP X.env.cells (fr.reverse.map λx=>(x,(X.env.cells.lookup x).getD 0)) fr:=⟨λx hx=>⟨_,had x hx,by rw[lk,aC hx]⟩,ZV,λx y c e1 e2=>I.ok.inj x y c (eqF x c e1) (eqF y c e2)⟩
 obtain⟨ps,hP,ht,q⟩:=hw
 rcases q with ⟨WQ,q⟩ | ⟨c',hh,q⟩
 ·exact NT ou hC hB (by rw[hc.n];exact nd) hN hx hq zU Qq Ql ha (.inl (hf name)) pins s σ H D I ⟨ps,hP,ht,WQ,λf c' oc vs t ctv doc=>q _ f c' oc vs t ctv doc la⟩
 ·refine nestDef_K Qq Ql ha ?_
  rw[hq]
  have hg:=I.mod.glob.keeps I.bk
  have Xl:s.heap.get? P=some (tabObj ps):=I.bp _ _ hP
  obtain⟨bm,ob,b1,b2,b3,b4,b5,b6,b7⟩:=hB
  have none_:∀{b:Addr} {o:Obj},X.base.get? b=some o->b≠P:=λ{b o} e z=>by have:=(I.bs _ _ e).2;rw[z,hP]at this;cases this
  refine makeFunction_hit (mg:=X.mg) zU I.ok.glob hg ou (hC.keeps I.bk) Xl ht hh ⟨bm,ob,b1,b2,b3,none_ b4,I.bk _ _ b4,b5,b6,b7⟩ λctv doc h' tk hk hsz=>?_
  have at_:(h'.push (fnMade name qual params body scope (fr.reverse.map λx=>(x,(X.env.cells.lookup x).getD 0)) doc ((X.mg "__name__").getD .none) c' ctv)).get? h'.objs.size=some (fnMade name qual params body scope (fr.reverse.map λx=>(x,(X.env.cells.lookup x).getD 0)) doc ((X.mg "__name__").getD .none) c' ctv):=eG _ rfl
  have I2:=I.laid (a:=h'.objs.size) (o:=gE (fnMade name qual params body scope (fr.reverse.map λx=>(x,(X.env.cells.lookup x).getD 0)) doc ((X.mg "__name__").getD .none) c' ctv)) (t':=tk) (h':=h'.push (fnMade name qual params body scope (fr.reverse.map λx=>(x,(X.env.cells.lookup x).getD 0)) doc ((X.mg "__name__").getD .none) c' ctv)) (λb u e=>bC _ (hk b u e)) hsz ⟨at_,_,at_⟩
  exact gi (v:=.ref h'.objs.size) I2 (by rw[hc.n];exact nd) hN hx rfl (λs' I3=>⟨_,_,I3,q _ h'.objs.size ctv doc la (I.bp.fresh hsz)⟩) (.inl (hf name))
theorem CV(hc:HC X N sc)(nd:N.Nodup)(hf:∀x,X.fn x=true)(i:Nat)(h:Jq N sc i name=true)(ou:X.env.code=.ref c)(hC:CodeHd X.base c P)(hB:BMain X.mg X.base)(hq:qualnameIn X.env name name=qual)(o7:freeOf scope=fr)(W':∀x∈fr,sc.names.lookup x=some .cell)
  (Qq:params.defaults=[]) (Ql:params.kw_defaults=[]) (ha:annTrees params none X.env=[]) :
  ZS X (.FunctionDef name params body [] none [] scope none name pos) (Bd P X.mg name qual params body scope pos i X.env.cells fr):=⟨GZ hc nd hf i h ou hC hB hq o7 W' Qq Ql ha⟩
end
end L2
end
section
namespace L2
open PySem PySem.Spec PyProof.Rows
open PySem.W (Frag Looks)
structure gD(k:Nat)(A:Around):Prop where
 dp:A.depth+3*k+5<recursionLimit
 un:A.units+16*k+200<cLine
theorem cB.wJ{j k:Nat}{A:Around}{v:Option Value}(r:cB k A)(h:j<=k):gD j (A.mark v):=⟨by have:=r.dp;show A.depth+3*j+5<_;lia,by have:=r.un;show A.units+16*j+200<_;lia⟩
theorem gD.mono{j k:Nat}{A:Around}(r:gD k A)(h:j<=k:=by omega):gD j A:=⟨by have:=r.dp;lia,by have:=r.un;lia⟩
theorem gD.deeper{k:Nat}{A:Around}(r:gD (k+1) A)(env:Env):gD k (A.deeper env):=
 ⟨by have:=r.dp;show A.depth+1+3*k+5<_;lia,by have:=r.un;show A.units+3+16*k+200<_;lia⟩
structure Uk(P:Program)(w:World)(K:Frag)(mg:Str->Option Value)(base:Heap)(k:Nat)(f:Addr)(fd:FuncData)(ps:List Str)(sp:Sp):Prop where
 len:∀vs H Q E,sp vs H Q E->vs.length=ps.length
 run:∀(A:Around) (outer:List Env) (s:Shared) (H:Hp) (args:Args) (us:List Value) (vs:List V) (Q:VK) (E:XK),gD k A->lQ P w K mg base A outer s H->BindsTo s fd args (ps.zip us)->Vals vs us->sp vs H Q E->
  codeAny (model P w) A (.call (.ref f) args) (CR eB outer P w H s Q E) s
@[reducible] def Cx.still (X:Cx):Cx:={ X with calm:=false }
section
variable {P:Program}{w:World}{K:Frag}{mg:Str->Option Value}{base:Heap}
theorem qH{N ps:List Str}{qual:Str}{scope:Scope}{f:Addr}{cd:Value}{A:Around}{outer:List Env}{s s1:Shared}{H:Hp}{E:XK}{us:List Value}{vs:List V}
  (S:aL N ps scope) (e0:lQ P w K mg base A outer s H) (hl:vs.length=ps.length) (r:Vals vs us)
  (x:InCallC s s.heap.objs.size (bindL (envOfC qual scope s.heap.objs.size f cd).kindOf (ps.zip us) λ_=>none) (cellsFrom (s.heap.objs.size+1) scope.names []) (bindC (envOfC qual scope s.heap.objs.size f cd).kindOf (ps.zip us) λ_=>none) s1) :
  Inv (cM eB P w K mg base N qual scope f cd A outer s H E).still [] (start N vs) H s1:=by
 have e1:lQ P w K mg base ({ A with handled:=none }) outer s H:=⟨e0.frames,e0.mod,e0.bs,e0.yb,e0.il,e0.zX,e0.bp,e0.bare⟩
 have I:Inv (cM eB P w K mg base N qual scope f cd ({ A with handled:=none }) outer s H E) [] (start N vs) H s1:=tR S rfl e1 hl r x
 exact⟨⟨I.ok.mod,I.ok.kind,I.ok.glob,I.ok.blt,I.ok.above,I.ok.inj,I.ok.has,I.ok.JC,λz=>Bool.noConfusion z,I.ok.frames,I.ok.L7,I.ok.Qv,I.ok.bs,I.ok.yb,I.ok.vq,I.ok.xW,I.ok.il,I.ok.zX⟩,I.os,I.bare,I.base,I.loc,I.cell,I.free,I.dC,I.pin,I.bp,I.len⟩
theorem Pz{k:Nat}{f:Addr}{name qual:Str}{params:Arguments}{body:List Stmt}{scope:Scope}{dV kV doc pm bE ct oc:Value}{an od:Option Addr}
  {rO:Array (Option Value)} {N ps:List Str} {sp:Sp} (lk:K.lookup f=some ⟨oc,od,.func (PySem.W.fnOf name qual params body scope dV kV doc pm an bE ct),rO⟩) (nA:PySem.W.codeIn K bE qual=true) (S:aL N ps scope)
  (len:∀vs H Q E,sp vs H Q E->vs.length=ps.length)
  (dm:∀(A:Around) (outer:List Env) (s:Shared) (H:Hp) (vs:List V) (Q:VK) (E:XK),gD k (A.deeper (envOfC qual scope s.heap.objs.size f bE))->sp vs H Q E->
   ∃t,o9 (cM eB P w K mg base N qual scope f bE A outer s H E).still body t/\t { nx:=λ_ H'=>Q .non H',rt:=Q } (start N vs) H) :
  Uk P w K mg base (k+1) f (PySem.W.fnOf name qual params body scope dV kV doc pm an bE ct) ps sp:=by
 refine⟨len,λA outer s H args us vs Q E hr e0 hb r o4=>?_⟩
 have hl:=len _ _ _ _ o4
 have KX:K.In s.heap:=e0.mod.Jt.keeps λb o e=>(e0.bs b o e).1
 have lim:s.heap.NoLimit:=e0.mod.nolimit.keeps λb o e=>(e0.bs b o e).1
 have xQ:∀y∈ps.zip us,scope.names.lookup y.1=some .local\/(scope.names.lookup y.1=some .cell/\((cellsFrom (s.heap.objs.size+1) scope.names []).lookup y.1).isSome=true):=λ⟨n,v⟩ hy=>by
  rcases S.par n (sy hy).1 with q | q
  ·exact .inl q
  ·exact .inr ⟨q,uH _ _ _ (.inl q)⟩
 refine yC (by have:=hr.dp;lia) (KX _ _ lk) rfl S.co S.gen rfl (yB KX nA) (hb _ _ _ _ ?_)
 refine yM S.kind xQ λenv he s1 x=>?_
 subst he
 refine⟨lim.keeps x.toInCall.keep,codeAny_func ?_⟩
 obtain⟨t,ht,hq⟩:=dm A outer s H vs Q E (hr.deeper _) o4
 have I:Inv (cM eB P w K mg base N qual scope f bE A outer s H E).still [] (start N vs) H s1:=qH S e0 hl r x
 refine bV (ht [] s1 (start N vs) H _ I hq) (λfl s' hs=>?_) λe s' hs=>hs
 have fin:∀{σ':St} {H':Hp} {v:V} {u:Value},Inv (cM eB P w K mg base N qual scope f bE A outer s H E).still [] σ' H' s'->RelV v u->Q v H'->CE outer P w H s Q u s':=
  λ{σ' H' v u} J rv q=>⟨v,H',J.os,J.bare,J.base,J.bp,rv,q⟩
 cases fl with
 | ret u=>
  obtain⟨v,σ',H',J,rv,q⟩:=hs
  exact fin J rv q
 | next=>
  obtain⟨σ',H',J,q⟩:=hs
  exact fin (v:=V.non) (u:=Value.none) J rfl q
 | brk=>
  obtain⟨_,_,_,q⟩:=hs
  exact False.elim q
 | cont=>
  obtain⟨_,_,_,q⟩:=hs
  exact False.elim q
theorem ji.okQ{x qual:Str}{st:Stmt}{f:Addr}{fd:FuncData}{N ps:List Str}{k:Nat}{sp:Sp}(F:ji K x qual st f fd)(S:aL N ps (ag st))(len:∀vs H Q E,sp vs H Q E->vs.length=ps.length)
  (dm:∀(bE:Value) (A:Around) (outer:List Env) (s:Shared) (H:Hp) (vs:List V) (Q:VK) (E:XK),gD k (A.deeper (envOfC qual (ag st) s.heap.objs.size f bE))->sp vs H Q E->
   HC (cM eB P w K mg base N qual (ag st) f bE A outer s H E).still N (ag st)->(∀x,(cM eB P w K mg base N qual (ag st) f bE A outer s H E).still.fn x=true)->
   ∃t,uh (cM eB P w K mg base N qual (ag st) f bE A outer s H E).still (aI st) t/\t { nx:=λ_ H'=>Q .non H',rt:=Q } (start N vs) H):Uk P w K mg base (k+1) f fd ps sp:=by
 obtain⟨oc,od,kV,doc,pm,an,bE,ct,rO,rfl,lk,nA⟩:=F.ex
 refine Pz lk nA S len λA outer s H vs Q E hr o4=>?_
 obtain⟨t,h,q⟩:=dm bE A outer s H vs Q E hr o4 ⟨rfl,rfl⟩ (λ_=>rfl)
 exact⟨t,h.to,q⟩
end
section
variable {X:Cx}{k:Nat}{f:Addr}{fd:FuncData}{ps:List Str}{sp:Sp}{x:Str}{p pos:Pos}{e:Expr}{es:List Expr}{t:TA}
theorem Dc(F:Uk X.prog X.w X.K X.mg X.base k f fd ps sp)(hr:gD k X.A)(hg:Gl X x)(hm:X.mg x=some (.ref f))(hk:PySem.W.keepIn X.K (.ref f)=true)(hb:Binds X.K fd ps [])(hx:Passes eB X E0)
  (ha:ZA X (e::es) t) (jI:(x==("__debug__" : Str))=false:=by decide) (he:starEach (e::es) X.env=(false,eval e X.env)::starEach es X.env:=by rfl) (jo:(backTo pos (starEach es X.env)).any (·.1)=false:=by rfl) :
  ZE X (.Call (.Name x p) (e::es) [] pos) (tE sp [] E0 t):=by
 refine⟨?_⟩
 intro pins s σ H Q I h
 refine lZ (fW I hg hm ?_ jI)
 refine sH (h₀:=X.base) I.ok.mod.Jt hk (cp (ha.to pos pins s σ H _ I h) λus s1 ⟨vs,H1,I1,r,q⟩=>⟨I1.jn,?_⟩) he jo
 have r2:Vals (vs++[]) (us++[]):=r.append .nil
 have hl:(us++[]).length=ps.length:=by rw[<-r2.length];exact F.len _ _ _ _ q
 refine gH (gI (F.run X.A X.stack s1 H1 ⟨us,[]⟩ (us++[]) (vs++[]) Q E0 hr I1.z5 (hb s1 us I1.jn hl) r2 q) λr s' hq=>?_)
 cases r with
 | error e=>exact hx pins σ H1 s1 e s' I1 hq
 | ok fl=>
  cases fl with
  | ret u=>exact I1.after hq
  | next=>exact False.elim hq
  | brk=>exact False.elim hq
  | cont=>exact False.elim hq
end
end L2
end
section
namespace L2
open PySem PySem.Spec PyProof.Rows
def iw(A:Around)(h:Heap):Prop:=A.handled=none\/∃e o vs,A.handled=some (.ref e)/\h.get? e=some o/\o.data=.fields vs/\vs[2]?=some .none
theorem iw.keep{A:Around}{h h':Heap}(x:iw A h)(k:∀e,A.handled=some (.ref e)->∀o,h.get? e=some o->h'.get? e=some o):iw A h':=by
 rcases x with x | ⟨e,o,vs,x,y,z⟩
 ·exact .inl x
 ·exact .inr ⟨e,o,vs,x,k e x o y,z⟩
section
variable {prog:Program}{w:World}{A:Around}{E:Value->Shared->Prop}{s:Shared}
theorem uQ{v:Value}{e:Addr}{o:Obj}{vs:Array Value}{Q:Value->Shared->Prop}(he:s.heap.get? e=some o)(hd:o.data=.fields vs)(h2:vs[2]?=some .none)(h:Q .none s) :
  wpAny (model prog w) A (runValue (.builtin "proto.unchain" ⟨[v,.ref e,.ref e,.bool false],[]⟩)) Q E s:=by
 refine uq (nQ (b:=Builtin.«proto.unchain») (entryFor_of_tree (by kernel_rfl)) ?_)
 show wpAny _ _ (field (.ref e) 2 >>= _) _ _ s
 refine aj (fO he hd h2 ?_)
 refine m6 (λ_=>?_) λz=>absurd rfl z
 first | exact aE h | exact aj (aE h)
theorem zb{α:Type}{x:Addr}{ox:Obj}{vx:Array Value}{Q:α->Shared->Prop}(hh:iw A s.heap)(hx:s.heap.get? x=some ox)(dx:ox.data=.fields vx)(zx:2<vx.size)(ne:A.handled≠some (.ref x))
  (h:∀h',(∀b o,b≠x->s.heap.get? b=some o->h'.get? b=some o)->(∃Qc,h'.get? x=some { ox with data:=.fields Qc })->E (.ref x) { s with heap:=h' }):wpAny (model prog w) A (raiseNew (.ref x):Sem α) Q E s:=by
 unfold raiseNew
 refine aj (wpAny_handled ?_)
 rcases hh with hh | ⟨e,o,vs,hh,he,hd,h2⟩
 ·rw[hh]
  refine aj (aE (wpAny_throw ?_))
  have:=h s.heap (λ_ _ _ z=>z) ⟨vx,by rw[hx];obtain⟨a,b,c,d⟩:=ox;simp only at dx;subst dx;rfl⟩
  exact this
 ·rw[hh]
  have nex:e≠x:=λz=>ne (by rw[hh,z])
  refine m6 (λ_=>?_) λz=>absurd (by simp[nex]) z
  refine aj (eT (uQ he hd h2 ?_))
  unfold updateField
  refine aj (aj (wpAny_load hx ?_))
  rw[dx]
  refine m6 (λ_=>?_) λz=>absurd zx z
  refine wpAny_update hx ?_
  refine wpAny_throw (h _ (λb o hb z=>(jl _ _ hb.symm).trans z) ⟨vx.setIfInBounds 2 (.ref e),?_⟩)
  have d3:=sD dx (·.setIfInBounds 2 (Value.ref e))
  rw[jt (Obj.mapFields (·.setIfInBounds 2 (Value.ref e))) hx (uE d3)]
  obtain⟨oc,od,Za,rO⟩:=ox
  dsimp only at dx
  subst dx
  rfl
theorem iw.old{h:Heap}(x:iw A h){b:Addr}(hb:h.objs.size<=b):A.handled≠some (.ref b):=λz=>by
 rcases x with x | ⟨e,o,vs,x,y,_⟩
 ·rw[x]at z;cases z
 ·rw[x]at z;cases z
  exact absurd (bf y) (lX.mpr hb)
theorem y7{α:Type}{hp:Heap}{o1 o2:Obj}{vx:Array Value}{Q:α->Shared->Prop}{E':Value->Shared->Prop}(hh:iw A hp)(f2:o2.isFreed=false)(d2:o2.data=.fields vx)(z2:2<vx.size)
  (h:∀h',(∀b o,hp.get? b=some o->h'.get? b=some o)->(∃Qc,h'.get? (hp.push o1).objs.size=some { o2 with data:=.fields Qc })->E' (.ref (hp.push o1).objs.size) { s with heap:=h' }) :
  wpAny (model prog w) A (raiseNew (.ref (hp.push o1).objs.size):Sem α) Q E' { s with heap:=(hp.push o1).push o2 }:=by
 have k:∀b o,hp.get? b=some o->((hp.push o1).push o2).get? b=some o:=λb o z=>bC _ (bC _ z)
 have sz:hp.objs.size<=(hp.push o1).objs.size:=by simp[Heap.push]
 refine zb (s:={ s with heap:=(hp.push o1).push o2 }) (hh.keep λe _ o z=>k e o z) (eG _ f2) d2 z2 (hh.old sz) (λh' kp hx=>h h' (λb o z=>kp b o (λy=>?_) (k b o z)) hx)
 have:=bf z
 rw[y]at this
 exact absurd this (lX.mpr sz)
theorem yS{it t:Addr}{i:Nat}{items:Array Value}{Q:Option Value->Shared->Prop}(hh:iw A s.heap)(ni:A.handled≠some (.ref it))
  (hit:s.heap.IsTupleIter it t i) (ht:s.heap.IsTuple t items) (hx:items[i]?=none)
  (hQ:∀h',Heap.ExtBut it s.heap h'->Q none { s with heap:=h' }):wpAny (model prog w) A (pyNext (.ref it)) Q E s:=by
 obtain⟨o,ho,hc,hd⟩:=id hit
 obtain⟨ol,KS,_,nl,K3⟩:=ht
 unfold pyNext
 refine aj (nO (pA (name:=Str.ofString "__next__") hit.typeIs Fh
  (kz Fh hit.typeIs PySem.F.entry_tuple_iterator_next ?_ (PySem.F.args_tuple_iterator_next_1 _))))
 show wpAny _ _ (field (.ref it) 0 >>= _) _ _ s
 refine aj (fO ho hd (x:=.ref t) rfl ?_)
 show wpAny _ _ (if (Value.ref t==Value.none)=true then _ else _) _ _ s
 rw[aB (show ¬((Value.ref t==Value.none)=true) from dh)]
 show wpAny _ _ (field (.ref it) 1 >>= _) _ _ s
 refine aj (fO ho hd (x:=.int i 0) rfl ?_)
 show wpAny _ _ (seqItems? (.ref t) >>= _) _ _ s
 refine aj (wpAny_seqItems KS K3 ?_)
 simp only[nW,hx]
 refine aj (lj (aj (pF ho hd (by simp) ?_)))
 show wpAny _ _ (newExc (.type "StopIteration") [] >>= _) _ _ _
 refine aj ?_
 simp only[newExc,newTuple]
 refine aj (eK ?_ (by size_fits))
 refine aj (m:=firstArgMember _ _) (lq (a:=Value.none) (by first | rfl | (simp only[firstArgMember];rfl)) ?_)
 refine eK ?_ (by size_fits)
 refine y7 (A:=A.in1) (hh.keep λe he o z=>(jl _ _ (λy=>ni (by rw[he,y]))).trans z) rfl rfl (by simp;omega) λh' kp ⟨Qc,HJ⟩=>?_
 refine aj (sq (T:="StopIteration") (b:=true) ⟨_,HJ,rfl⟩ pE ?_)
 exact aE (hQ _ λb o hb z=>kp b o ((uA ..).extBut b o hb z))
theorem DW{it l:Addr}{i:Nat}{items:Array Value}{Q:Option Value->Shared->Prop}(hh:iw A s.heap)(ni:A.handled≠some (.ref it))
  (hit:s.heap.IsListIter it l i) (hl:s.heap.IsList l items) (hx:items[i]?=none)
  (hQ:∀h',Heap.ExtBut it s.heap h'->Q none { s with heap:=h' }):wpAny (model prog w) A (pyNext (.ref it)) Q E s:=by
 obtain⟨o,ho,hc,hd⟩:=id hit
 obtain⟨ol,KS,_,nl,K3⟩:=hl
 unfold pyNext
 refine aj (nO (pA (name:=Str.ofString "__next__") hit.typeIs slot_listiter_next
  (kz slot_listiter_next hit.typeIs entry_listiter_next ?_ (args_listiter_next _))))
 show wpAny _ _ (field (.ref it) 0 >>= _) _ _ s
 refine aj (fO ho hd (x:=.ref l) rfl ?_)
 show wpAny _ _ (if (Value.ref l==Value.none)=true then _ else _) _ _ s
 rw[aB (show ¬((Value.ref l==Value.none)=true) from dh)]
 show wpAny _ _ (field (.ref it) 1 >>= _) _ _ s
 refine aj (fO ho hd (x:=.int i 0) rfl ?_)
 show wpAny _ _ (seqItems? (.ref l) >>= _) _ _ s
 refine aj (wpAny_seqItems KS K3 ?_)
 simp only[nW,hx]
 refine aj (lj (aj (pF ho hd (by simp) ?_)))
 show wpAny _ _ (newExc (.type "StopIteration") [] >>= _) _ _ _
 refine aj ?_
 simp only[newExc,newTuple]
 refine aj (eK ?_ (by size_fits))
 refine aj (m:=firstArgMember _ _) (lq (a:=Value.none) (by first | rfl | (simp only[firstArgMember];rfl)) ?_)
 refine eK ?_ (by size_fits)
 refine y7 (A:=A.in1) (hh.keep λe he o z=>(jl _ _ (λy=>ni (by rw[he,y]))).trans z) rfl rfl (by simp;omega) λh' kp ⟨Qc,HJ⟩=>?_
 refine aj (sq (T:="StopIteration") (b:=true) ⟨_,HJ,rfl⟩ pE ?_)
 exact aE (hQ _ λb o hb z=>kp b o ((uA ..).extBut b o hb z))
theorem za{it:Addr}{x left step:Int}{Q:Option Value->Shared->Prop}(hh:iw A s.heap)(hit:IsRangeIter s.heap it x left step)(RX:left<=0)
  (hQ:∀h',Heap.ExtBut it s.heap h'->Q none { s with heap:=h' }):wpAny (model prog w) A (pyNext (.ref it)) Q E s:=by
 have hT:s.TypeIs (.ref it) "range_iterator":=⟨_,hit,rfl⟩
 unfold pyNext
 refine aj (nO (pA (name:=Str.ofString "__next__") hT Fg
  (kz Fg hT PySem.F.entry_range_iterator_next ?_ (PySem.F.args_range_iterator_next_1 _))))
 show wpAny _ _ (field (.ref it) 0 >>= _) _ _ s
 refine aj (fO hit rfl (x:=rawInt x) rfl ?_)
 show wpAny _ _ (field (.ref it) 1 >>= _) _ _ s
 refine aj (fO hit rfl (x:=rawInt left) rfl ?_)
 show wpAny _ _ (field (.ref it) 2 >>= _) _ _ s
 refine aj (fO hit rfl (x:=rawInt step) rfl ?_)
 show wpAny _ _ (if left<=0 then _ else _) _ _ s
 rw[aC RX]
 refine aj (lj ?_)
 refine aj ?_
 show wpAny _ _ (newExc (.type "StopIteration") [] >>= _) _ _ _
 refine aj ?_
 simp only[newExc,newTuple]
 refine aj (eK ?_ (by size_fits))
 refine aj (m:=firstArgMember _ _) (lq (a:=Value.none) (by first | rfl | (simp only[firstArgMember];rfl)) ?_)
 refine eK ?_ (by size_fits)
 refine y7 (A:=A.in1) hh rfl rfl (by simp;omega) λh' kp ⟨Qc,HJ⟩=>?_
 refine aj (sq (T:="StopIteration") (b:=true) ⟨_,HJ,rfl⟩ pE ?_)
 exact aE (hQ _ λb o _ z=>kp b o z)
end
def ym(X:Cx):Prop:=X.A.handled=none\/∃e o vs,X.A.handled=some (.ref e)/\X.s₀.heap.get? e=some o/\X.H₀ e=none/\e∉X.fs/\e∉X.ex/\o.data=.fields vs/\vs[2]?=some .none
section
variable {X:Cx}{pins:List (Addr×Obj)}{σ:St}{H:Hp}{s:Shared}
theorem ym.now(x:ym X)(I:Inv X pins σ H s):iw X.A s.heap:=by
 rcases x with x | ⟨e,o,vs,x,y,n,f,g,d⟩
 ·exact .inl x
 ·exact .inr ⟨e,o,vs,x,I.base.keep e o y n f g,d⟩
theorem ym.fresh(x:ym X){b:Addr}(h:b∈X.ex\/X.s₀.heap.objs.size<=b):X.A.handled≠some (.ref b):=λz=>by
 rcases x with x | ⟨e,o,vs,x,y,n,f,g,d⟩
 ·rw[x]at z;cases z
 ·rw[x]at z;cases z
  rcases h with h | h
  ·exact g h
  ·exact absurd (bf y) (lX.mpr h)
theorem ym.block{scope:Scope}{N:List Str}{C:Addr}{cl:List (Str×Addr)}{fp:List Addr}(x:ym X)(I:Inv X pins σ H s)(f2:∀b∈fp,lN X pins H b):ym (ft X scope N ⟨C,cl,s,H,fp⟩):=by
 rcases id x with x' | ⟨e,o,vs,x',y,n,f,g,d⟩
 ·exact .inl x'
 ·refine .inr ⟨e,o,vs,x',I.base.keep e o y n f g,I.base.free e o y n g,λz=>?_,λz=>x.fresh (f2 e z).2.2.2.1 x',d⟩
  rcases ck.mp (I.lz e z) with q | q
  ·exact absurd (bf y) (lX.mpr (by rw[q];exact I.ok.above))
  ·exact f q
end
structure yj(P:Program)(w:World)(K:PySem.W.Frag)(tg:Expr)(J:It)(fp:List Addr)(it:Addr)(tn:Nat->Heap->Prop):Prop where
 mem:it∈fp
 obj:∀i h,tn i h->∀b∈fp,∃o,h.get? b=some o/\∀v,o.data≠.cell v
 keep:∀i h h',tn i h->(∀b∈fp,∀o,h.get? b=some o->h'.get? b=some o)->tn i h'
 item:∀(X:Cx),X.prog=P->X.w=w->X.K=K->ym X->∀(i:Nat) (pins:List (Addr×Obj)) (s:Shared) (σ:St) (H:Hp) (E:Value->Shared->Prop),Inv X pins σ H s->(∀b∈fp,lN X pins H b)->tn i s.heap->J.go i H->
  wpAny (model P w) X.A (pyNext (.ref it)) (λr s1=>∃u,r=some u/\
   wpAny (model P w) X.A (letOwnedTupleGo tg (.ref it) u) (λ_ s2=>∃x H',Inv X pins σ H' s2/\RelV x u/\J.yP i H x H'/\tn (i+1) s2.heap/\∀b∈fp,H' b=none) E s1) E s
 done:∀(X:Cx),X.prog=P->X.w=w->X.K=K->ym X->∀(i:Nat) (pins:List (Addr×Obj)) (s:Shared) (σ:St) (H:Hp) (E:Value->Shared->Prop),Inv X pins σ H s->(∀b∈fp,lN X pins H b)->tn i s.heap->J.stop i H->
  wpAny (model P w) X.A (pyNext (.ref it)) (λr s1=>r=none/\Inv X pins σ H s1) E s
 self:∀(A:Around) (i:Nat) (s:Shared) (Q:Value->Shared->Prop) (E:Value->Shared->Prop),tn i s.heap->Q (.ref it) s->wpAny (model P w) A (pyIter (.ref it)) Q E s
def Tf(X:Cx)(pins:List (Addr×Obj))(σ:St)(tg:Expr)(R:It->Hp->Prop)(Ox:Value)(s2:Shared):Prop:=
 ∃(it:Addr) (fp:List Addr) (tn:Nat->Heap->Prop) (J:It) (H':Hp),Ox=.ref it/\Inv X pins σ H' s2/\yj X.prog X.w X.K tg J fp it tn/\tn 0 s2.heap/\(∀b∈fp,lN X pins H' b)/\R J H'
def Uh(X:Cx)(tg iter:Expr)(wi:TI):Prop:=
 ∀(pins:List (Addr×Obj)) (s:Shared) (σ:St) (H:Hp) (R:It->Hp->Prop),Inv X pins σ H s->wi σ H R->
  wpAny (model X.prog X.w) X.A (eval iter X.env) (λv s1=>wpAny (model X.prog X.w) X.A (pyIter v) (Tf X pins σ tg R) X.xe s1) X.xe s
theorem wy{P:Program}{w:World}{K:PySem.W.Frag}{tg:Expr}(a it:Addr):yj P w K tg (JF K a) [it] it (λi h=>h.IsTupleIter it a i) where
 mem:=by simp
 obj:=λi h st b hb=>by
  have e:b=it:=by simpa using hb
  subst e
  obtain⟨o,e,c,d⟩:=st
  exact⟨o,e,λv z=>by rw[d]at z;cases z⟩
 keep:=λi h h' st k=>st.at λo e=>k it (by simp) o e
 item:=by
  intro X hP hw hK hc i pins s σ H E I hf st hg
  subst hP hw hK
  obtain⟨xs,x,hq,hx⟩:=hg
  obtain⟨its,rv,p,hz⟩:=I.tuple hq
  obtain⟨u,hu,ru⟩:=rv.get hx
  obtain⟨f0,f1,f2,f3,f4,f5⟩:=hf it (by simp)
  refine wpAny_pyNext_tuple_item st (show s.heap.IsTuple a its.toArray from p) (x:=u) (by simpa using hu) λh' yq sb=>?_
  have I1:Inv X pins σ H { s with heap:=h' }:=I.turned (t':=s.toks) (λb o hb e=>(sb.2 b hb).trans e) f0 f1 f3 f4 f5
  obtain⟨o,e,c,d⟩:=id yq
  exact⟨u,rfl,xU (s:={ s with heap:=h' }) e c d (by decide) ⟨x,H,I1,ru,⟨rfl,λys hy=>by rw[I.tu hy hq];exact hx⟩,yq,λb hb=>(hf b hb).1⟩⟩
 done:=by
  intro X hP hw hK hc i pins s σ H E I hf st hg
  subst hP hw hK
  obtain⟨xs,hq,hx⟩:=hg
  obtain⟨its,rv,p,hz⟩:=I.tuple hq
  obtain⟨f0,f1,f2,f3,f4,f5⟩:=hf it (by simp)
  have hl:=rv.length
  exact yS (hc.now I) (hc.fresh f3) st (show s.heap.IsTuple a its.toArray from p) (by simp;lia) λh' eb=>⟨rfl,I.turned (t':=s.toks) (λb o hb e=>eb b o hb e) f0 f1 f3 f4 f5⟩
 self:=λ_ _ _ _ _ st h=>wpAny_pyIter_tupleiter st h
theorem wz{P:Program}{w:World}{K:PySem.W.Frag}{tg:Expr}(it:Addr)(lo:Int)(n:Nat):yj P w K tg (yk lo n) [it] it (λi h=>IsRangeIter h it (lo+(i:Nat)*1) ((n:Int)-(i:Nat)) 1) where
 mem:=by simp
 obj:=λi h st b hb=>by
  have e:b=it:=by simpa using hb
  subst e
  exact⟨_,st,λv z=>by
   have z':Data.fields _=Data.cell v:=z
   cases z'⟩
 keep:=λi h h' st k=>k it (by simp) _ st
 item:=by
  intro X hP hw hK hc i pins s σ H E I hf st hg
  subst hP hw hK
  obtain⟨f0,f1,f2,f3,f4,f5⟩:=hf it (by simp)
  have hi:i<n:=hg
  refine wpAny_pyNext_range_item st (by omega) λh' Pb OJ=>?_
  have yq:IsRangeIter h' it (lo+((i+1:Nat):Int)*1) ((n:Int)-((i+1:Nat):Int)) 1:=by
   have e1:lo+((i+1:Nat):Int)*1=lo+(i:Int)*1+1:=by push_cast;omega
   have e2:(n:Int)-((i+1:Nat):Int)=(n:Int)-(i:Int)-1:=by push_cast;omega
   rw[e1,e2];exact Pb
  have I1:Inv X pins σ H { s with heap:=h',toks:=s.toks+1 }:=I.turned (λb o hb e=>OJ.extBut b o hb e) f0 f1 f3 f4 f5
  refine⟨_,rfl,xU (s:={ s with heap:=h',toks:=s.toks+1 }) (n:="range_iterator") yq rfl rfl (by decide) ⟨.int (lo+i),H,I1,⟨s.toks,?_⟩,⟨rfl,rfl⟩,yq,λb hb=>(hf b hb).1⟩⟩
  rw[Int.mul_one]
 done:=by
  intro X hP hw hK hc i pins s σ H E I hf st hg
  subst hP hw hK
  obtain⟨f0,f1,f2,f3,f4,f5⟩:=hf it (by simp)
  exact za (hc.now I) st (by have:n<=i:=hg;lia) λh' eb=>⟨rfl,I.turned (t':=s.toks) (λb o hb e=>eb b o hb e) f0 f1 f3 f4 f5⟩
 self:=λ_ _ _ _ _ st h=>wpAny_pyIter_rangeiter st h
section
variable {X:Cx}{tg:Expr}
theorem Km{l:Expr}{tl:TE}(hl:PE X l tl):Uh X tg l (zR X.K tl):=by
 intro pins s σ H R I h
 refine cp (hl pins s σ H _ I h) λv s1 ⟨x,H1,I1,r1,q1⟩=>?_
 obtain⟨a,e,⟨xs,hq⟩,q⟩:=q1
 subst e
 cases r1
 obtain⟨its,rv,p,hz⟩:=I1.tuple hq
 refine wpAny_pyIter_tuple (show s1.heap.IsTuple a its.toArray from p) ?_
 refine⟨s1.heap.objs.size,[s1.heap.objs.size],_,_,H1,rfl,I1.kept (t':=s1.toks) λb o e=>bC _ e,wy a _,⟨_,eG _ rfl,rfl,rfl⟩,λb hb=>?_,q⟩
 have e:b=s1.heap.objs.size:=by simpa using hb
 subst e
 exact I1.Ig (bu _) (I1.bp.fresh (bu _))
theorem Du{pins:List (Addr×Obj)}{σ:St}{H:Hp}{s:Shared}{R:It->Hp->Prop}{E:Value->Shared->Prop}{lo hi:Int}{t u v:Tok}{tk:Nat}(I:Inv X pins σ H s)(h1 : -(2 ^ 62)<=lo)(h2:lo<2 ^ 62)(h3 : -(2 ^ 62)<=hi)(h4:hi<2 ^ 62)
  (q:R (yk lo (hi-lo).toNat) H):wpAny (model X.prog X.w) X.A (pyIter (.ref s.heap.objs.size)) (Tf X pins σ tg R) E { s with heap:=s.heap.push { cls:=.type "range",data:=.fields #[.int lo t,.int hi u,.int 1 v] },toks:=tk }:=by
 refine wpAny_pyIter_range (IsRange.new ..) (small_one h1 h2 h3 h4) ?_
 have I1:Inv X pins σ H { s with heap:=s.heap.push { cls:=.type "range",data:=.fields #[.int lo t,.int hi u,.int 1 v] },toks:=tk }:=I.kept λb o e=>bC _ e
 refine⟨(s.heap.push { cls:=.type "range",data:=.fields #[.int lo t,.int hi u,.int 1 v] }).objs.size,[(s.heap.push { cls:=.type "range",data:=.fields #[.int lo t,.int hi u,.int 1 v] }).objs.size],_,_,H,rfl,
  I1.kept (t':=tk) λb o e=>bC _ e,wz _ lo (hi-lo).toNat,?_,λb hb=>?_,q⟩
 ·have e1:lo+((0:Nat):Int)*1=lo:=by simp
  have e2:(((hi-lo).toNat:Nat):Int)-((0:Nat):Int)=Builtin.Range.rangeSize lo hi 1:=by rw[rangeSize_one];split <;> lia
  show IsRangeIter _ _ (lo+((0:Nat):Int)*1) ((((hi-lo).toNat:Nat):Int)-((0:Nat):Int)) 1
  rw[e1,e2]
  exact eG _ rfl
 ·have e:b=(s.heap.push { cls:=.type "range",data:=.fields #[.int lo t,.int hi u,.int 1 v] }).objs.size:=by simpa using hb
  subst e
  exact I1.Ig (bu _) (I1.bp.fresh (bu _))
theorem zj{a:Expr}{ta:TA}{p pos:Pos}(hg:Gl X "range")(hm:X.mg "range" = none)(ha:PA X [a] ta)(hs:starEach [a] X.env=[(false,eval a X.env)]:=by rfl):Uh X tg (.Call (.Name "range" p) [a] [] pos) (qQ ta):=by
 intro pins s σ H R I h
 refine Call_ (qG I hg hm boot_range (yO (cp (ha pos pins s σ H _ I h) λus s1 ⟨vs,H1,I1,r1,q1⟩=>?_) hs rfl))
 obtain⟨j,e,q1,q2,q⟩:=q1
 subst e
 cases r1 with
 | cons r rr=>
  cases rr
  obtain⟨t,rfl⟩:=r
  exact call_range_1 (Du I1 (by lia) (by lia) q1 q2 (by simpa using q))
end
section
variable {X:Cx}{elt target iter:Expr}{ifs:List Expr}{scope:Scope}{pos:Pos}{xs:List Str}{idx:List Nat}{wi:TI}{g:CB->TG}{tt:CB->TT}{te:CB->TE}
theorem El{pins:List (Addr×Obj)}{σ:St}{H2:Hp}{s2:Shared}{fp:List Addr}{it:Addr}{tn:Nat->Heap->Prop}{J:It}{Q:V->Hp->Prop}{RR:Value->Addr->Result->Shared->Prop}{E:Value->Shared->Prop}(hc:ym X)(S:lR X scope xs idx)
  (hg:∀c,PG (ft X scope (xs++aW X.N idx) c) target (g c)) (ht:∀c,oR (ft X scope (xs++aW X.N idx) c) ifs (tt c)) (he:∀c,PE (ft X scope (xs++aW X.N idx) c) elt (te c))
  (I2:Inv X pins σ H2 s2) (T:yj X.prog X.w X.K target J fp it tn) (wK:tn 0 s2.heap) (f2:∀b∈fp,lN X pins H2 b)
  (h:∀D,H2 D=none->∃W:Nat->Nat->List V->Hp->Prop,(∃m,W 0 m [] (upd H2 D (.lst [])))/\
   ∀i m ys H',W i m ys H'->(J.stop i H'/\Q (.ref D) H')\/(J.go i H'/\∃N:List V->Hp->Prop,(∀j5 lV,N j5 lV->∃m',m'<m/\W (i+1) m' j5 lV)/\∀(c:CB) (own:St),own.length=xs.length->∀x H2,J.yP i H' x H2->g c x (own++bz σ idx) H2 λσ3 H3=>
    (∃cY,cY.length=xs.length/\σ3=cY++bz σ idx)/\tt c σ3 H3 λb H4=>if b=true then te c σ3 H4 λy H5=>H5 D=some (.lst ys)/\ys.length<sizeLine/\N (ys++[y]) (upd H5 D (.lst (ys++[y]))) else N ys H4))
  (Xj:∀D C σ' H' s',s2.heap.objs.size<=C->Inv (ft X scope (xs++aW X.N idx) ⟨C,bO X.env scope.names [],s2,H2,fp⟩) [] σ' H' s'->Q (.ref D) H'->RR (.ref D) C (.ok .next) s') :
  wpAny (model X.prog X.w) X.A (newList []) (λacc s₃=>wpAny (model X.prog X.w) X.A (newFunctionEnv scope X.env.globals (bO X.env scope.names []) [] X.env.qual none .none (some X.env)) (λIz s₄=>
   codeAny (model X.prog X.w) X.A (.compStart (.ListComp elt [⟨target,iter,ifs,0⟩] scope pos) 0 (.ref it) acc { Iz with scope:=relabel scope X.env }) (RR acc Iz.locals) s₄) E s₃) E s2:=by
 refine eK (wpAny_newFunctionEnv S.jG (by intro y hy;simp at hy) (λh₁ zT vE=>?_) S.kind)
 dsimp only at zT vE ⊢
 generalize Pu:s2.heap.push { cls:=.type "list",dict:=none,data:=.seq ([]:List Value).toArray }=HH at zT vE ⊢
 have Px:HH.objs.size=s2.heap.objs.size+1:=by rw[<-Pu,nP]
 have Pw:s2.heap.objs.size≠HH.objs.size:=by rw[Px];exact bj (pM _)
 have zW:s2.heap.objs.size<=HH.objs.size:=by rw[Px];exact jq _
 have old:∀b o,s2.heap.get? b=some o->h₁.get? b=some o:=λb o e=>vE.extBut b o (by rw[Px];exact bj (nX (bf e))) (bC _ (Pu ▸ bC _ e))
 have zV:∃n,h₁.get? s2.heap.objs.size=some { cls:=.type "list",data:=.seq #[] n }:=⟨_,vE.extBut _ _ Pw (bC _ (Pu ▸ eG _ rfl))⟩
 have QX:tn 0 h₁:=T.keep _ _ _ wK λb _ o e=>old b o e
 obtain⟨W,⟨m0,w0⟩,turn⟩:=h s2.heap.objs.size I2.fresh
 have loop:∀s₃:Shared,s₃={ s2 with heap:=h₁,toks:=s2.toks+([]:List (Str×Value)).length }->
   codeAny (model X.prog X.w) X.A (.compLoop (.ListComp elt [⟨target,iter,ifs,0⟩] scope pos) 0 (.ref it) (.ref s2.heap.objs.size) (compEnvC scope (bO X.env scope.names []) HH.objs.size X.env)) (RR (.ref s2.heap.objs.size) HH.objs.size) s₃:=by
  rintro s₃ rfl
  have I3:=I2.block (t':=s2.toks+([]:List (Str×Value)).length) (H1:=H2) S f2 (λb hb=>let ⟨o,e,_⟩:=T.obj _ _ wK b hb;⟨o,e⟩) zW Pw (bu _) zT old zV
  generalize hY:ft X scope (xs++aW X.N idx) ⟨HH.objs.size,bO X.env scope.names [],s2,H2,fp⟩=Y at I3
  have eY:Y=ft X scope (xs++aW X.N idx) ⟨HH.objs.size,bO X.env scope.names [],s2,H2,fp⟩:=hY.symm
  have nof:∀b∈fp,b∉Y.fs:=λb hb z=>by
   rw[eY]at z
   rcases ck.mp (I2.lz b z) with q | q
   ·exact(f2 b hb).2.1 q
   ·exact(f2 b hb).2.2.1 q
  have stat:∀{H':Hp},(∀b∈fp,H' b=none)->∀b∈fp,lN Y [] H' b:=λ{H'} hn b hb=>by
   have lt:b<s2.heap.objs.size:=let ⟨o,e,_⟩:=T.obj _ _ wK b hb;bf e
   refine⟨hn b hb,?_,nof b hb,.inl (by rw[eY];exact hb),λx c e=>?_,λp hp=>?_⟩
   ·rw[eY];exact bj (eF lt zW)
   ·rw[eY]at e
    have xT:=kh (env:=X.env) scope.names [] (λy hy e=>I2.ok.has y.1 (S.free y hy e).2) (λp hp=>nomatch hp)
    exact(f2 b hb).2.2.2.2.1 x c (xT (x,c) (g9 e))
   ·rw[eY]at hp;exact nomatch hp
  have T':yj Y.prog Y.w Y.K target J fp it tn:=by rw[eY];exact T
  have W2:PG Y target (g ⟨HH.objs.size,bO X.env scope.names [],s2,H2,fp⟩):=by rw[eY];exact hg _
  have Wt:oR Y ifs (tt ⟨HH.objs.size,bO X.env scope.names [],s2,H2,fp⟩):=by rw[eY];exact ht _
  have R5:PE Y elt (te ⟨HH.objs.size,bO X.env scope.names [],s2,H2,fp⟩):=by rw[eY];exact he _
  have R9:ym Y:=by rw[eY];exact hc.block I2 f2
  have eA:Y.A=X.A:=by rw[eY]
  have eP:Y.prog=X.prog:=by rw[eY]
  have eW:Y.w=X.w:=by rw[eY]
  have eE:Y.env=compEnvC scope (bO X.env scope.names []) HH.objs.size X.env:=by rw[eY]
  have eX:Y.xe=λ_ _=>False:=by rw[eY]
  have fin:∀σ' H' s',Inv Y [] σ' H' s'->Q (.ref s2.heap.objs.size) H'->RR (.ref s2.heap.objs.size) HH.objs.size (.ok .next) s':=λσ' H' s' I' q=>Xj _ _ σ' H' s' zW (by rw[<-eY];exact I') q
  rw[<-eE,<-eA,<-eP,<-eW]
  have Xz:∀b∈fp,(upd H2 s2.heap.objs.size (.lst [])) b=none:=λb hb=>by
   have lt:b<s2.heap.objs.size:=let ⟨o,e,_⟩:=T.obj _ _ wK b hb;bf e
   rw[ay (bj lt)];exact(f2 b hb).1
  refine fE (λn s'=>∃i ys own H',own.length=xs.length/\Inv Y [] (own++bz σ idx) H' s'/\tn i s'.heap/\(∀b∈fp,H' b=none)/\W i n ys H') ?_ m0
   ⟨0,[],_,_,pz,I3,QX,Xz,w0⟩
  rintro n s4 ⟨i,ys,own,H4,O5,I4,QW,Sr,w4⟩
  rcases turn i n ys H4 w4 with ⟨stop,qn⟩ | ⟨go,NN,Xm,step⟩
  ·exact cp (T'.done Y rfl rfl rfl R9 i [] s4 _ H4 _ I4 (stat Sr) QW stop) λr s5 ⟨hr,I5⟩=>by subst hr;exact fin _ _ _ I5 qn
  ·refine cp (T'.item Y rfl rfl rfl R9 i [] s4 _ H4 _ I4 (stat Sr) QW go) λr s5 ⟨u,hr,h5⟩=>?_
   subst hr
   refine cp h5 λ_ s6 ⟨x,H6,I6,r6,y6,Nf,Xy⟩=>?_
   have YT:=I6.pinned (stat Xy) (T'.obj _ _ Nf)
   have step':=step ⟨HH.objs.size,bO X.env scope.names [],s2,H2,fp⟩ own O5 x H6 y6
   refine bV (W2 _ s6 _ H6 x u _ YT r6 step') (λ_ s7 ⟨σ7,H7,I7,q7⟩=>?_) (λ_ _ z=>by rw[eX]at z;exact z)
   obtain⟨⟨N8,WN,e7⟩,q7⟩:=q7
   refine bV (Wt _ s7 σ7 H7 _ I7 q7) (λb s8 ⟨H8,I8,q8⟩=>?_) (λ_ _ z=>by rw[eX]at z;exact z)
   have again:∀{H9:Hp} {s9:Shared} {j5:List V},Inv Y ([]++nq fp s6.heap) σ7 H9 s9->NN j5 H9->∃m,m<n/\∃i ys own H',own.length=xs.length/\Inv Y [] (own++bz σ idx) H' s9/\tn i s9.heap/\(∀b∈fp,H' b=none)/\W i m ys H':=λ{H9 s9 j5} I9 n9=>by
    obtain⟨m',hm,w9⟩:=Xm _ _ n9
    rw[e7]at I9
    refine⟨m',hm,i+1,j5,N8,H9,WN,I9.jA,T'.keep _ _ _ Nf λb hb o e=>(I9.pin (b,o) (gL _ (gL _ (e8 hb e)))).1,λb hb=>?_,w9⟩
    obtain⟨o,e,d⟩:=T'.obj _ _ Nf b hb
    exact(I9.pin (b,o) (gL _ (gL _ (e8 hb e)))).2.1
   cases b with
   | false=>exact again I8 q8
   | true=>
    refine bV (R5 _ s8 σ7 H8 _ I8 q8) (λu9 s9 ⟨y,H9,I9,r9,hy,hz,q9⟩=>?_) (λ_ _ z=>by rw[eX]at z;exact z)
    have ap:=ka (X:=Y) _ s9 σ7 H9 (.ref s2.heap.objs.size) [y] (.ref s2.heap.objs.size) [u9] (λ_ Jl=>NN (ys++[y]) Jl) I9 rfl (.cons r9 .nil) ⟨_,ys,y,rfl,rfl,hy,hz,q9⟩
    refine bV ap (λ_ Dq ⟨_,Jl,YW,_,Vf⟩=>again YW Vf) (λ_ _ z=>by rw[eX]at z;exact z)
 exact codeAny_compStart_list (loop _ rfl) (T.self _ 0 _ _ _ QX (loop _ rfl))
theorem G'(hc:ym X)(S:lR X scope xs idx)(hi:Uh X target iter wi)
  (hg:∀c,PG (ft X scope (xs++aW X.N idx) c) target (g c)) (ht:∀c,oR (ft X scope (xs++aW X.N idx) c) ifs (tt c)) (he:∀c,PE (ft X scope (xs++aW X.N idx) c) elt (te c))
  (hs:∀x,foldedSetIterable iter X.env x=pure x:=by intro _;rfl):PE X (.ListComp elt [⟨target,iter,ifs,0⟩] scope pos) (mE wi xs.length idx g tt te):=by
 intro pins s σ H Q I h
 rw[eval_ListComp]
 have xS:closureFor scope X.env=pure (bO X.env scope.names []):=fh λy hy e=>I.ok.has y.1 (S.free y hy e).2
 refine yJ (use:=none) rfl hs xS S.kind S.loc (cp (hi pins s σ H _ I h) λxv s₁ h₁=>cp h₁ λOx s₂ h₂=>?_)
 obtain⟨it,fp,tn,J,H2,e,I2,T,wK,f2,hW⟩:=h₂
 subst e
 refine El (Q:=Q) (RR:=λacc C=>compPost (model X.prog X.w) X.A X.xe none (EP X pins σ Q) acc C) hc S hg ht he I2 T wK f2 hW ?_
 intro D C σ' H' s' hC I' q
 obtain⟨m',hn,_⟩:=I'.loc
 refine⟨m',hn,λXv HN=>?_⟩
 obtain⟨hh,gg,d,t,os⟩:=s'
 obtain rfl:os=s₂.os:=I'.os
 have Cn:s₂.heap.get? C=none:=pw hC
 refine⟨.ref D,H',I2.call (s:=s₂) (h':=Xv) (g':=gg) (d':=d) (t':=t) (ch:=fp) (I'.base.but Cn HN) (I'.bp.but I'.free HN) I'.bare (λb hb=>?_),rfl,q⟩
 obtain⟨_,f1,_,f3,f4,f5⟩:=f2 b hb
 exact⟨f3,f1,f4,f5⟩
end
structure YL(X:Cx)(tg iter:Expr)(wi:TI):Prop where
 to:Uh X tg iter wi
section
variable {X:Cx}{tg:Expr}
theorem Fl{l:Expr}{tl:TE}(h:ZE X l tl):YL X tg l (zR X.K tl):=⟨Km h.to⟩
theorem wg{a:Expr}{ta:TA}{p pos:Pos}(hg:Gl X "range")(hm:X.mg "range" = none)(ha:ZA X [a] ta)(hs:starEach [a] X.env=[(false,eval a X.env)]:=by rfl):YL X tg (.Call (.Name "range" p) [a] [] pos) (qQ ta):=⟨zj hg hm ha.to hs⟩
end
end L2
end
section
namespace L2
open PySem PySem.Spec PyProof.Rows
open PySem.W (Frag Looks)
def hdL(A:Around):List Addr:=match A.handled with | some (.ref e)=>[e] | _=>[]
theorem wu{prog:Program}{w:World}{A:Around}(I ax:Addr)(o6:ax≠I)(ni:A.handled≠some (.ref I))(items:Array Value) :
  Walks prog w A I ([I,ax]++hdL A) [I] items.size (λi v=>items[i]?=some v) (λi h=>h.IsListIter I ax i/\h.IsList ax items/\iw A h) where
 sub:=λb hb=>by simp at hb;simp[hb]
 frame:=λ_ _ _ st hk=>⟨st.1.at λo e=>hk I (by simp) o e,st.2.1.at λo e=>hk ax (by simp) o e,st.2.2.keep λe he o z=>hk e (by unfold hdL;rw[he];simp) o z⟩
 item:=λi s Q E hi st hQ=>by
  refine wpAny_pyNext_list_item st.1 st.2.1 (x:=items[i]) (by simp[hi]) λh' Pb OJ=>?_
  exact hQ _ h' s.toks (by simp[hi]) ⟨Pb,st.2.1.extBut OJ.extBut o6,st.2.2.keep λe he o z=>OJ.extBut e o (λy=>ni (by rw[he,y])) z⟩ λb o hb e=>OJ.extBut b o (λh=>hb (by simp[h])) e
 done:=λs Q E st hQ=>DW st.2.2 ni st.1 st.2.1 (by simp) λh' R5=>hQ h' s.toks λb o hb e=>R5 b o (λh=>hb (by simp[h])) e
 self:=λ_ _ _ _ st hQ=>wpAny_pyIter_listiter st.1 hQ
section
variable {X:Cx}
theorem t8(hh:ym X):cD X (.builtin "all") wR:=by
 intro pins s σ H vs us Q I rv h
 obtain⟨a,rfl,bs,hq,q⟩:=h
 obtain⟨u,rfl,ru⟩:=vals1 rv
 cases ru
 obtain⟨its,r,pl,hz⟩:=I.list (dk hq)
 have hl:=r.length
 rw[bN]at hl
 have lt:a<s.heap.objs.size:=let ⟨_,e,_⟩:=pl.isList;bf e
 have hn:iw X.A.in1 s.heap:=hh.now I
 refine call_all_walkS (pI pl.isList ⟨s.heap.objs.size,_,_,_,its.toArray.size,_,_,λi=>bs.getD i true,rfl,(wu (A:=X.A.in1) _ a (bj lt) (hn.old (bu _)) its.toArray).toS,⟨⟨_,eG _ rfl,rfl,rfl⟩,(pl.isList).push _,hn.keep λe _ o z=>bC _ z⟩,?_,λs' mv=>?_⟩)
 ·intro i v s1 Q1 E1 hv RL
  have:v=.bool (bs.getD i true):=yc r i v (by simpa using hv)
  subst this
  exact aE RL
 ·rw[dE,<-hl,all_range]
  have k:∀b o,s.heap.get? b=some o->s'.heap.get? b=some o:=λb o e=>mv.heap b o (λz=>absurd (bf e) (by rw[di.mp z];exact gJ _)) (bC _ e)
  have I1:Inv X pins σ H { s with heap:=s'.heap,toks:=s.toks }:=I.un (Un.kept k) (I.bp.kept k)
  exact⟨.bl (bs.all id),H,I1.same rfl mv.gens mv.os,rfl,q⟩
end
section
variable {X:Cx}{N:List Str}{fZ:Scope}{elt target iter:Expr}{ifs:List Expr}{scope:Scope}{pos:Pos}{wi:TI}{g:CB->TG}{tt:CB->TT}{te:CB->TE}
theorem pR(hd:ym X)(hc:HC X N fZ)(xs:List Str)(idx:List Nat)(S:z7 fZ N scope idx=true)(hi:YL X target iter wi)
  (hg:∀c,HC (ft X scope (xs++aW X.N idx) c) (xs++aW N idx) (bL scope fZ)->ZG (ft X scope (xs++aW X.N idx) c) target (g c))
  (ht:∀c,HC (ft X scope (xs++aW X.N idx) c) (xs++aW N idx) (bL scope fZ)->Jj (ft X scope (xs++aW X.N idx) c) ifs (tt c))
  (he:∀c,HC (ft X scope (xs++aW X.N idx) c) (xs++aW N idx) (bL scope fZ)->ZE (ft X scope (xs++aW X.N idx) c) elt (te c))
  (hs:∀x,foldedSetIterable iter X.env x=pure x:=by intro _;rfl):ZE X (.ListComp elt [⟨target,iter,ifs,0⟩] scope pos) (mE wi xs.length idx g tt te):=
 ⟨G' hd (nE S hc.s hc.n) hi.to (λc=>(hg c (eQ hc c)).to) (λc=>(ht c (eQ hc c)).to) (λc=>(he c (eQ hc c)).to) hs⟩
end
def Ui(A:Around)(outer:List Env)(s:Shared)(H:Hp):Prop:=A.handled=none\/∃e o vs,A.handled=some (.ref e)/\s.heap.get? e=some o/\H e=none/\e∉ke outer/\o.data=.fields vs/\vs[2]?=some .none
structure Ul(P:Program)(w:World)(K:Frag)(mg:Str->Option Value)(base:Heap)(k:Nat)(f:Addr)(fd:FuncData)(ps:List Str)(sp:Sp):Prop where
 len:∀vs H Q E,sp vs H Q E->vs.length=ps.length
 run:∀(A:Around) (outer:List Env) (s:Shared) (H:Hp) (args:Args) (us:List Value) (vs:List V) (Q:VK) (E:XK),gD k A->Ui A outer s H->lQ P w K mg base A outer s H->BindsTo s fd args (ps.zip us)->Vals vs us->sp vs H Q E->
  codeAny (model P w) A (.call (.ref f) args) (CR eB outer P w H s Q E) s
section
variable {P:Program}{w:World}{K:Frag}{mg:Str->Option Value}{base:Heap}
theorem Ui.body{N:List Str}{qual:Str}{scope:Scope}{f:Addr}{cd:Value}{A:Around}{outer:List Env}{s:Shared}{H:Hp}{E:XK}(x:Ui A outer s H):ym (cM eB P w K mg base N qual scope f cd A outer s H E).still:=by
 rcases x with x | ⟨e,o,vs,a,b,c,d,q⟩
 ·exact .inl x
 ·exact .inr ⟨e,o,vs,a,b,c,d,λz=>(lY z).elim,q⟩
theorem PB{k:Nat}{f:Addr}{name qual:Str}{params:Arguments}{body:List Stmt}{scope:Scope}{dV kV doc pm bE ct oc:Value}{an od:Option Addr}
  {rO:Array (Option Value)} {N ps:List Str} {sp:Sp} (lk:K.lookup f=some ⟨oc,od,.func (PySem.W.fnOf name qual params body scope dV kV doc pm an bE ct),rO⟩) (nA:PySem.W.codeIn K bE qual=true) (S:aL N ps scope)
  (len:∀vs H Q E,sp vs H Q E->vs.length=ps.length)
  (dm:∀(A:Around) (outer:List Env) (s:Shared) (H:Hp) (vs:List V) (Q:VK) (E:XK),gD k (A.deeper (envOfC qual scope s.heap.objs.size f bE))->ym (cM eB P w K mg base N qual scope f bE A outer s H E).still->sp vs H Q E->
   ∃t,o9 (cM eB P w K mg base N qual scope f bE A outer s H E).still body t/\t { nx:=λ_ H'=>Q .non H',rt:=Q } (start N vs) H) :
  Ul P w K mg base (k+1) f (PySem.W.fnOf name qual params body scope dV kV doc pm an bE ct) ps sp:=by
 refine⟨len,λA outer s H args us vs Q E hr hd e0 hb r o4=>?_⟩
 have hl:=len _ _ _ _ o4
 have KX:K.In s.heap:=e0.mod.Jt.keeps λb o e=>(e0.bs b o e).1
 have lim:s.heap.NoLimit:=e0.mod.nolimit.keeps λb o e=>(e0.bs b o e).1
 have xQ:∀y∈ps.zip us,scope.names.lookup y.1=some .local\/(scope.names.lookup y.1=some .cell/\((cellsFrom (s.heap.objs.size+1) scope.names []).lookup y.1).isSome=true):=λ⟨n,v⟩ hy=>by
  rcases S.par n (sy hy).1 with q | q
  ·exact .inl q
  ·exact .inr ⟨q,uH _ _ _ (.inl q)⟩
 refine yC (by have:=hr.dp;lia) (KX _ _ lk) rfl S.co S.gen rfl (yB KX nA) (hb _ _ _ _ ?_)
 refine yM S.kind xQ λenv he s1 x=>?_
 subst he
 refine⟨lim.keeps x.toInCall.keep,codeAny_func ?_⟩
 obtain⟨t,ht,hq⟩:=dm A outer s H vs Q E (hr.deeper _) hd.body o4
 have I:Inv (cM eB P w K mg base N qual scope f bE A outer s H E).still [] (start N vs) H s1:=qH S e0 hl r x
 refine bV (ht [] s1 (start N vs) H _ I hq) (λfl s' hs=>?_) λe s' hs=>hs
 have fin:∀{σ':St} {H':Hp} {v:V} {u:Value},Inv (cM eB P w K mg base N qual scope f bE A outer s H E).still [] σ' H' s'->RelV v u->Q v H'->CE outer P w H s Q u s':=
  λ{σ' H' v u} J rv q=>⟨v,H',J.os,J.bare,J.base,J.bp,rv,q⟩
 cases fl with
 | ret u=>
  obtain⟨v,σ',H',J,rv,q⟩:=hs
  exact fin J rv q
 | next=>
  obtain⟨σ',H',J,q⟩:=hs
  exact fin (v:=V.non) (u:=Value.none) J rfl q
 | brk=>
  obtain⟨_,_,_,q⟩:=hs
  exact False.elim q
 | cont=>
  obtain⟨_,_,_,q⟩:=hs
  exact False.elim q
theorem ji.okH{x qual:Str}{st:Stmt}{f:Addr}{fd:FuncData}{N ps:List Str}{k:Nat}{sp:Sp}(F:ji K x qual st f fd)(S:aL N ps (ag st))(len:∀vs H Q E,sp vs H Q E->vs.length=ps.length)
  (dm:∀(bE:Value) (A:Around) (outer:List Env) (s:Shared) (H:Hp) (vs:List V) (Q:VK) (E:XK),gD k (A.deeper (envOfC qual (ag st) s.heap.objs.size f bE))->ym (cM eB P w K mg base N qual (ag st) f bE A outer s H E).still->sp vs H Q E->
   HC (cM eB P w K mg base N qual (ag st) f bE A outer s H E).still N (ag st)->(∀x,(cM eB P w K mg base N qual (ag st) f bE A outer s H E).still.fn x=true)->
   ∃t,uh (cM eB P w K mg base N qual (ag st) f bE A outer s H E).still (aI st) t/\t { nx:=λ_ H'=>Q .non H',rt:=Q } (start N vs) H):Ul P w K mg base (k+1) f fd ps sp:=by
 obtain⟨oc,od,kV,doc,pm,an,bE,ct,rO,rfl,lk,nA⟩:=F.ex
 refine PB lk nA S len λA outer s H vs Q E hr hd o4=>?_
 obtain⟨t,h,q⟩:=dm bE A outer s H vs Q E hr hd o4 ⟨rfl,rfl⟩ (λ_=>rfl)
 exact⟨t,h.to,q⟩
end
section
variable {X:Cx}{k:Nat}{f:Addr}{fd:FuncData}{ps:List Str}{sp:Sp}{x:Str}{p pos:Pos}{e:Expr}{es:List Expr}{t:TA}{pins:List (Addr×Obj)}{σ:St}{H:Hp}{s:Shared}
theorem Inv.J0{σ':St}{H':Hp}{s':Shared}{a:Addr}{φ:Heap->Prop}(I1:Inv X pins σ H s)(h1:H a=some (.ext φ))(I:Inv X pins σ' H' s')(n2:H' a=none)(hφ:bW X.prog X.w (upd H' a (.ext φ)) s'.heap a (.ext φ)):Inv X pins σ' (upd H' a (.ext φ)) s':=by
 have n3:a≠X.env.locals:=λz=>by have:=I1.free;rw[<-z,h1]at this;cases this
 have n4:∀x c,X.env.cells.lookup x=some c->c≠a:=λx c q z=>by have:=I1.dC x c q;rw[z,h1]at this;cases this
 have n5:∀p∈X.pn++pins,p.1≠a:=λp hp z=>by have:=(I1.pin p hp).2.1;rw[z,h1]at this;cases this
 have ne:∀{b:Addr} {u:HO},H' b=some u->b≠a:=λz y=>by rw[y,n2]at z;cases z
 refine⟨I.ok,I.os,I.bare,⟨I.base.keep,I.base.slot,λb ob z n hx=>?_,I.base.there,λb xs z=>?_,λb ob u z=>?_,λb ps z=>?_⟩,I.loc,I.cell,by rw[ay n3.symm];exact I.free,λx c z=>by rw[ay (n4 x c z)];exact I.dC x c z,λp hp=>?_,λb u z=>?_,I.len⟩
 ·have nb:b≠a:=λy=>by have:=I1.base.free b ob z n hx;rw[y,h1]at this;cases this
  rw[ay nb];exact I.base.free b ob z n hx
 ·have e1:=I.base.tups b xs z
  rw[ay (ne e1)];exact e1
 ·have e1:=I.base.frzs b ob u z
  rw[ay (ne e1)];exact e1
 ·obtain⟨m,e1⟩:=I.base.tbls b ps z
  exact⟨m,by rw[ay (ne e1)];exact e1⟩
 ·obtain⟨p1,p2,p3⟩:=I.pin p hp
  exact⟨p1,by rw[ay (n5 p hp)];exact p2,p3⟩
 ·by_cases hb:b=a
  ·subst hb;rw[ak]at z;cases z;exact hφ
  ·rw[ay hb]at z
   exact(I.bp b u z).stay (λ_ _ _ q=>q) (λc q=>by rw[ay (ne q)];exact q) λc xs q=>by rw[ay (ne q)];exact q
def y4(a:Addr)(sp:Sp)(t:TA):TE:=λσ H Q=>t σ H λvs H1=>∃C dx,H1 a=some (.ext (kx a C dx))/\sp vs (fD H1 a) (λv H2=>H2 a=none->Q v (upd H2 a (.ext (kx a C dx)))) E0
theorem sO{a:Addr}(F:Ul X.prog X.w X.K X.mg X.base k f fd ps sp)(hh:X.A.handled=some (.ref a))(hr:gD k X.A)(hg:Gl X x)(hm:X.mg x=some (.ref f))(hk:PySem.W.keepIn X.K (.ref f)=true)(hb:Binds X.K fd ps [])(hx:Passes eB X E0)
  (ha:ZA X (e::es) t) (jI:(x==("__debug__" : Str))=false:=by decide) (he:starEach (e::es) X.env=(false,eval e X.env)::starEach es X.env:=by rfl) (jo:(backTo pos (starEach es X.env)).any (·.1)=false:=by rfl) :
  ZE X (.Call (.Name x p) (e::es) [] pos) (y4 a sp t):=by
 refine⟨?_⟩
 intro pins s σ H Q I h
 refine lZ (fW I hg hm ?_ jI)
 refine sH (h₀:=X.base) I.ok.mod.Jt hk (cp (ha.to pos pins s σ H _ I h) λus s1 ⟨vs,H1,I1,r,C,dx,ea,q⟩=>⟨I1.jn,?_⟩) he jo
 have r2:Vals vs (us++[]):=by rw[gh];exact r
 have hl:(us++[]).length=ps.length:=by rw[<-r2.length];exact F.len _ _ _ _ q
 obtain⟨ws,sl,oa,cx⟩:kx a C dx s1.heap:=(I1.bp a _ ea).1
 have nf:a∉ke X.stack:=λz=>by have:=I1.mF a z;rw[ea]at this;cases this
 have J:=I1.forget ea
 have hd:Ui X.A X.stack s1 (fD H1 a):=.inr ⟨a,_,ws,hh,oa,cL,nf,rfl,cx⟩
 refine gH (gI (F.run X.A X.stack s1 (fD H1 a) ⟨us,[]⟩ (us++[]) vs _ E0 hr hd J.z5 (hb s1 us I1.jn hl) r2 q) λr s' hq=>?_)
 cases r with
 | error e=>exact hx pins σ (fD H1 a) s1 e s' J hq
 | ok fl=>
  cases fl with
  | ret u=>
   have O2:=hq
   obtain⟨v,H2,os,bare,un,bp,rv,q2⟩:=O2
   have o2:=un.keep a _ oa cL nf (λz=>(lY z).elim)
   have f2:=un.free a _ oa cL (λz=>(lY z).elim)
   obtain⟨v',H2',I2,U9,e2⟩:=J.after (Q:=λv' H'=>v'=v/\H'=H2) ⟨v,H2,os,bare,un,bp,rv,rfl,rfl⟩
   obtain⟨rfl,rfl⟩:=e2
   exact⟨v',_,I1.J0 ea I2 f2 (Fo ⟨ws,sl,o2,cx⟩),U9,q2 f2⟩
  | next=>exact False.elim hq
  | brk=>exact False.elim hq
  | cont=>exact False.elim hq
end
def Fy(K:Frag)(i:Nat)(B:Addr)(tb:(St->XK)->TS)(ts:Addr->TS):TS:=λD σ H=>∃EH:St->XK,tb EH D σ H/\∀σ' C dx H',EH σ' (.ref C) dx H'->PySem.W.subIn K (.ref C) (.ref B)=some true/\∀e,H' e=none->ts e (D.Qd i) (σ'.set i (some (.ref e))) (upd H' e (.ext (kx e C dx)))
def Fz(K:Frag)(B:Addr)(tb:(St->XK)->TS)(ts:Addr->TS):TS:=λD σ H=>∃EH:St->XK,tb EH D σ H/\∀σ' C dx H',EH σ' (.ref C) dx H'->PySem.W.subIn K (.ref C) (.ref B)=some true/\∀e,H' e=none->ts e D σ' (upd H' e (.ext (kx e C dx)))
section
variable {X:Cx}{B:Addr}{x n:Str}{np qR pos:Pos}{body suite:List Stmt}{b₀:Stmt}{tb:(St->XK)->TS}{ts:Addr->TS}{i:Nat}
theorem comes{nm:Option Str}{pins:List (Addr×Obj)}{σ:St}{H:Hp}{s:Shared}{e C:Addr}{dx:Option Addr}{D:Ends}(I:Inv X pins σ H s)(BV:X.stack=X.env::X.outer)(o7:X.env.frame=some X.env.locals)(q:gQ X.K B=true)(hg:Gl X x)(hm:X.mg x=some (.ref B))
  (xa:yi (XN X pins H) s.heap e C dx) (sb:PySem.W.subIn X.K (.ref C) (.ref B)=some true) (jI:(x==("__debug__" : Str))=false)
  (h:∀s1,Inv X pins σ H s1->yi (XN X pins H) s1.heap e C dx->
   codeAny (model X.prog X.w) (X.A.mark (some (.ref e))) (.handlers (.ref e) [.ExceptHandler none nm (b₀::suite) qR] X.env) (λr s₂=>match r with
     | .ok f=>(match nm with
      | none=>SP X pins D f s₂
      | some n=>wpAny (model X.prog X.w) X.A (do bindName X.env n .none;unbindBehindTheSuite X.env n qR) (λ_ s₃=>SP X pins D f s₃) X.xe s₂)
     | .error y=>cameBackBy (model X.prog X.w) X.A X.env X.xe y s₂) s1) :
  wpAny (model X.prog X.w) X.A (noteFrame (.ref e) X.env) (λ_ s₂=>wpAny (model X.prog X.w) X.A (setFlight (.ref e) none) (λ_ s₃=>wpAny (model X.prog X.w) X.A (handleBy (.ref e) X.env [.ExceptHandler (some (.Name x np)) nm (b₀::suite) qR]) (SP X pins D) X.xe s₃) X.xe s₂) X.xe s:=by
 have Mt:=I.ok.frames
 have Y1:=I.stack
 rw[BV]at Mt Y1
 refine Fq (L:=X.env.locals) (base:=X.base) Mt Y1 o7 (λb hb=>.new I hb (I.bp.fresh hb)) xa λh' ch rZ QB lv=>?_
 rw[<-BV]at lv
 have I1:=I.left (λb hb=>(rZ b hb).1) lv
 obtain⟨ne,vs,sl,o1,c1,tb1⟩:=QB
 refine wpAny_handleBy_cons (codeAny_handlers_test (fW (X:=X.wJ e) I1.wJ hg hm (M4 I1.jn q sb ⟨vs,sl,o1,c1⟩ ?_) jI)) (by intro z;cases z)
 exact h _ I1 ⟨ne,vs,sl,o1,c1,tb1⟩
theorem taken{pins:List (Addr×Obj)}{σ:St}{H:Hp}{s:Shared}{e C:Addr}{dx:Option Addr}{M:Model}{A:Around}{E:Value->Shared->Prop}{Q:Unit->Shared->Prop}(I:Inv X pins σ H s)(xa:yi (XN X pins H) s.heap e C dx)
  (h:∀s',Inv (X.wJ e) pins σ (upd H e (.ext (kx e C dx))) s'->Q () s'):wpAny M A (setFlight (.ref e) none) Q E s:=by
 refine JK (fs:=ke X.stack) (N:=XN X pins H) (λb hb o ws z=>?_) xa λh2 ch2 W9 xa2 lv2=>?_
 ·obtain⟨_,o',z',nd⟩:=I.stack.mem hb
  rw[z]at z';cases z'
  exact nd ws
 have I2:=I.left W9 lv2
 obtain⟨ne2,vs2,Gg,o2,c2,_⟩:=xa2
 exact h _ ((I2.adopt (φ:=kx e C dx) ne2 (Fo ⟨vs2,Gg,o2,c2⟩)).wJ (e:=e))
theorem Lf{pins:List (Addr×Obj)}{σ:St}{H:Hp}{s:Shared}{e C:Addr}{dx:Option Addr}{D:Ends}{t:TS}(I:Inv X pins σ H s)(BV:X.stack=X.env::X.outer)(o7:X.env.frame=some X.env.locals)(hN:X.N.Nodup)(hi:X.N[i]?=some n)(hk:X.env.scope.names.lookup n=some .local)(q:gQ X.K B=true)(hg:Gl X x)(hm:X.mg x=some (.ref B))
  (hs:o9 (X.wJ e) (b₀::suite) t) (xa:yi (XN X pins H) s.heap e C dx) (sb:PySem.W.subIn X.K (.ref C) (.ref B)=some true) (h:t (D.Qd i) (σ.set i (some (.ref e))) (upd H e (.ext (kx e C dx)))) (jI:(x==("__debug__" : Str))=false) :
  wpAny (model X.prog X.w) X.A (noteFrame (.ref e) X.env) (λ_ s₂=>wpAny (model X.prog X.w) X.A (setFlight (.ref e) none) (λ_ s₃=>wpAny (model X.prog X.w) X.A (handleBy (.ref e) X.env [.ExceptHandler (some (.Name x np)) (some n) (b₀::suite) qR]) (SP X pins D) X.xe s₃) X.xe s₂) X.xe s:=by
 refine comes I BV o7 q hg hm xa sb jI λs1 I1 Uq=>codeAny_handlers_suite_as (taken I1 Uq λs3 I3=>?_)
 refine gi (X:=X.wJ e) (v:=.ref e) I3 hN hi (.inl hk) rfl (λs4 I4=>?_) (.inr hk)
 refine bV (hs pins s4 _ _ (D.Qd i) I4 h) (λf s5 q5=>?_) λ_ _ z=>False.elim z
 show wpAny _ _ (do bindName X.env n .none;unbindBehindTheSuite X.env n qR) _ _ _
 cases f with
 | next=>
  obtain⟨σ5,H5,I5,q5⟩:=q5
  exact j6 (I5.n8 I.ok) hN hi hk λs6 I6=>⟨_,H5,I6,q5⟩
 | brk=>
  obtain⟨σ5,H5,I5,q5⟩:=q5
  exact j6 (I5.n8 I.ok) hN hi hk λs6 I6=>⟨_,H5,I6,q5⟩
 | cont=>
  obtain⟨σ5,H5,I5,q5⟩:=q5
  exact j6 (I5.n8 I.ok) hN hi hk λs6 I6=>⟨_,H5,I6,q5⟩
 | ret u=>
  obtain⟨v,σ5,H5,I5,ru,q5⟩:=q5
  exact j6 (I5.n8 I.ok) hN hi hk λs6 I6=>⟨v,_,H5,I6,ru,q5⟩
theorem Lg{pins:List (Addr×Obj)}{σ:St}{H:Hp}{s:Shared}{e C:Addr}{dx:Option Addr}{D:Ends}{t:TS}(I:Inv X pins σ H s)(BV:X.stack=X.env::X.outer)(o7:X.env.frame=some X.env.locals)(q:gQ X.K B=true)(hg:Gl X x)(hm:X.mg x=some (.ref B))
  (hs:o9 (X.wJ e) (b₀::suite) t) (xa:yi (XN X pins H) s.heap e C dx) (sb:PySem.W.subIn X.K (.ref C) (.ref B)=some true) (h:t D σ (upd H e (.ext (kx e C dx)))) (jI:(x==("__debug__" : Str))=false) :
  wpAny (model X.prog X.w) X.A (noteFrame (.ref e) X.env) (λ_ s₂=>wpAny (model X.prog X.w) X.A (setFlight (.ref e) none) (λ_ s₃=>wpAny (model X.prog X.w) X.A (handleBy (.ref e) X.env [.ExceptHandler (some (.Name x np)) none (b₀::suite) qR]) (SP X pins D) X.xe s₃) X.xe s₂) X.xe s:=by
 refine comes I BV o7 q hg hm xa sb jI λs1 I1 Uq=>codeAny_handlers_suite (taken I1 Uq λs3 I3=>?_)
 refine bV (hs pins s3 _ _ D I3 h) (λf s5 q5=>?_) λ_ _ z=>False.elim z
 cases f with
 | next=>
  obtain⟨σ5,H5,I5,q5⟩:=q5
  exact⟨_,H5,I5.n8 I.ok,q5⟩
 | brk=>
  obtain⟨σ5,H5,I5,q5⟩:=q5
  exact⟨_,H5,I5.n8 I.ok,q5⟩
 | cont=>
  obtain⟨σ5,H5,I5,q5⟩:=q5
  exact⟨_,H5,I5.n8 I.ok,q5⟩
 | ret u=>
  obtain⟨v,σ5,H5,I5,ru,q5⟩:=q5
  exact⟨v,_,H5,I5.n8 I.ok,ru,q5⟩
theorem tried{hd:ExceptHandler}{pins:List (Addr×Obj)}{σ:St}{H:Hp}{s:Shared}{D:Ends}{EH:St->XK}(I:Inv X pins σ H s)
  (hb:∀(EH:St->XK) (xe:Value->Shared->Prop) (pn:List (Addr×Obj)),fH (X.tri xe pn) EH->PassesOwn (model X.prog X.w) X.A X.env xe->o9 (X.tri xe pn) body (tb EH)) (h1:tb EH D σ H)
  (h2:∀σ' H' s' e C dx,Inv X pins σ' H' s'->yi (XN X pins H') s'.heap e C dx->EH σ' (.ref C) dx H'->
   wpAny (model X.prog X.w) X.A (noteFrame (.ref e) X.env) (λ_ s₂=>wpAny (model X.prog X.w) X.A (setFlight (.ref e) none) (λ_ s₃=>wpAny (model X.prog X.w) X.A (handleBy (.ref e) X.env [hd]) (SP X pins D) X.xe s₃) X.xe s₂) X.xe s') :
  wpAny (model X.prog X.w) X.A (exec (.Try body [hd] [] [] pos) X.env) (SP X pins D) X.xe s:=by
 refine wpAny_Try_except ?_
 have L:fH (X.tri (λv s₁=>wpAny (model X.prog X.w) X.A (noteFrame v X.env) (λ_ s₂=>wpAny (model X.prog X.w) X.A (setFlight v none) (λ_ s₃=>wpAny (model X.prog X.w) X.A (handleBy v X.env [hd]) (SP X pins D) X.xe s₃) X.xe s₂) X.xe s₁) (X.pn++pins)) EH:=by
  intro wV σ' H' s' e C dx I' QB q'
  exact h2 σ' H' s' e C dx I'.wx (QB.mono λb hb=>⟨hb.1,hb.2.1,hb.2.2.1,hb.2.2.2.1,λp hp=>hb.2.2.2.2 p (uF _ hp)⟩) q'
 refine bV (hb EH _ _ L PassesOwn.looking [] s σ H D I.tri h1) (λf s1 q1=>?_) λ_ _ z=>z
 cases f with
 | next=>
  obtain⟨σ1,H1,I1,q1⟩:=q1
  exact aE ⟨σ1,H1,I1.wx,q1⟩
 | brk=>
  obtain⟨σ1,H1,I1,q1⟩:=q1
  exact⟨σ1,H1,I1.wx,q1⟩
 | cont=>
  obtain⟨σ1,H1,I1,q1⟩:=q1
  exact⟨σ1,H1,I1.wx,q1⟩
 | ret u=>
  obtain⟨v,σ1,H1,I1,ru,q1⟩:=q1
  exact⟨v,σ1,H1,I1.wx,ru,q1⟩
variable {N:List Str}{sc:Scope}
theorem sN(hc:HC X N sc)(nd:N.Nodup)(i:Nat)(h:zt N sc i n=true)(BV:X.stack=X.env::X.outer)(o7:X.env.frame=some X.env.locals)(q:gQ X.K B=true)(hg:Gl X x)(hm:X.mg x=some (.ref B))
  (hb:∀(EH:St->XK) (xe:Value->Shared->Prop) (pn:List (Addr×Obj)),fH (X.tri xe pn) EH->PassesOwn (model X.prog X.w) X.A X.env xe->uh (X.tri xe pn) body (tb EH)) (hs:∀e,uh (X.wJ e) (b₀::suite) (ts e)) (jI:(x==("__debug__" : Str))=false:=by decide) :
  ZS X (.Try body [.ExceptHandler (some (.Name x np)) (some n) (b₀::suite) qR] [] [] pos) (Fy X.K i B tb ts):=by
 refine⟨?_⟩
 intro pins s σ H D I w
 obtain⟨EH,h1,h2⟩:=w
 exact tried I (λEH xe pn l p=>(hb EH xe pn l p).to) h1 λσ' H' s' e C dx I' xa q'=>Lf I' BV o7 (by rw[hc.n];exact nd) (gj hc h).1 (gj hc h).2 q hg hm (hs e).to xa (h2 σ' C dx H' q').1 ((h2 σ' C dx H' q').2 e xa.1.2.1) jI
theorem Fj(BV:X.stack=X.env::X.outer)(o7:X.env.frame=some X.env.locals)(q:gQ X.K B=true)(hg:Gl X x)(hm:X.mg x=some (.ref B))
  (hb:∀(EH:St->XK) (xe:Value->Shared->Prop) (pn:List (Addr×Obj)),fH (X.tri xe pn) EH->PassesOwn (model X.prog X.w) X.A X.env xe->uh (X.tri xe pn) body (tb EH)) (hs:∀e,uh (X.wJ e) (b₀::suite) (ts e)) (jI:(x==("__debug__" : Str))=false:=by decide) :
  ZS X (.Try body [.ExceptHandler (some (.Name x np)) none (b₀::suite) qR] [] [] pos) (Fz X.K B tb ts):=by
 refine⟨?_⟩
 intro pins s σ H D I w
 obtain⟨EH,h1,h2⟩:=w
 exact tried I (λEH xe pn l p=>(hb EH xe pn l p).to) h1 λσ' H' s' e C dx I' xa q'=>Lg I' BV o7 q hg hm (hs e).to xa (h2 σ' C dx H' q').1 ((h2 σ' C dx H' q').2 e xa.1.2.1) jI
end
end L2
end
namespace My
open PySem L2
def top(i:Nat):Stmt:=PySem.Challenge.pw_truceroll_k53_refused_by_asking.main.body.getD i (.Pass ⟨0,0,0,0⟩)
abbrev ic:Stmt:=top 7
abbrev fY:Stmt:=top 8
abbrev j8:Stmt:=top 10
abbrev ib:Stmt:=top 11
abbrev dZ:Stmt:=top 13
abbrev dY:Stmt:=top 14
abbrev dW:Stmt:=top 15
abbrev ej:Stmt:=top 16
abbrev bU:Stmt:=top 17
abbrev cu:Stmt:=top 18
abbrev dc:Stmt:=top 19
abbrev cJ:Stmt:=top 20
abbrev dX:Stmt:=top 21
abbrev dy:Stmt:=top 22
abbrev dv:Stmt:=top 23
abbrev dz:Stmt:=top 24
abbrev cZ:Stmt:=top 25
abbrev cK:Stmt:=top 26
abbrev dw:Stmt:=top 27
abbrev fS:Stmt:=top 28
abbrev DT:List Str:=["numbers"]
abbrev zy:List Str:=["whole","part"]
abbrev Hr:List Str:=["whole","ask","part","peace","member","more"]
abbrev DS:List Str:=["ask","part","clash","member","fewer"]
abbrev vw:List Str:=["_law_script"]
abbrev vv:List Str:=["_law_hand_here"]
abbrev vr:List Str:=["_law_hand_here","_law_cell"]
abbrev vy:List Str:=["_law_hand_here","_law_many","_law_got","_law_value","_law_size"]
abbrev mQ:List Str:=["_law_one","_law_other_here"]
abbrev nr:List Str:=["_law_thing"]
abbrev qA:List Str:=["_law_thing"]
abbrev oH:List Str:=["_law_hand_here","_law_most","_law_far","_law_step","_law_at","_law_row","_law_k"]
abbrev vt:List Str:=["_law_hand_here","_law_whole"]
abbrev rR:List Str:=["_law_hand_here","_law_whole","_law_way","_law_weights","_law_alike","_law_one","_law_most","_law_sets","_law_at"]
abbrev rP:List Str:=["_law_model_here","_law_part"]
abbrev rT:List Str:=["_law_whole","_law_ask_here","_law_part","e"]
abbrev qz:List Str:=["_law_ask_here","_law_part","e"]
abbrev oI:List Str:=["_law_whole","_law_ask_here","_law_part","_law_peaceful"]
abbrev rQ:List Str:=["_law_model_here","_law_part"]
abbrev Hq:List Str:=["_law_script","_law_hand_here","_law_whole","_law_models","_law_part","_law_model_here","_law_ask","_law_peaceful"]
def Mj(s:Stmt)(j:Nat):Stmt:=match s with
 | .ClassDef _ _ _ b _ _ _ _ _ _ _=>b.getD j (.Pass ⟨0,0,0,0⟩)
 | _=>.Pass ⟨0,0,0,0⟩
abbrev bH:Stmt:=Mj (top 3) 0
abbrev bQ:List Str:=["self","part"]
abbrev bI:Stmt:=Mj (top 4) 0
abbrev bR:List Str:=["self","part"]
def RG(s:Stmt)(j:Nat):Stmt:=match s with
 | .For _ _ b _ _=>b.getD j (.Pass ⟨0,0,0,0⟩)
 | _=>.Pass ⟨0,0,0,0⟩
abbrev aO:Stmt:=RG ((aI fS).getD 5 (.Pass ⟨0,0,0,0⟩)) 0
abbrev lA:List Str:=["_law_some_here"]
abbrev bt:List Str:=["_law_model_here"]
structure Adr where
 rn:Addr
 qV:FuncData
 nH:Addr
 nC:FuncData
 vQ:Addr
 vH:FuncData
 rk:Addr
 qU:FuncData
 jS:Addr
 jN:FuncData
 jR:Addr
 jM:FuncData
 jP:Addr
 jK:FuncData
 jT:Addr
 jO:FuncData
 fi:Addr
 fc:FuncData
 fN:Addr
 fM:FuncData
 gY:Addr
 gW:FuncData
 gA:Addr
 gx:FuncData
 jQ:Addr
 jL:FuncData
 jg:Addr
 iZ:FuncData
 je:Addr
 iX:FuncData
 jh:Addr
 ja:FuncData
 gX:Addr
 gU:FuncData
 gB:Addr
 gy:FuncData
 jf:Addr
 iY:FuncData
 CG:Addr
 Cj:FuncData
 aA:Addr
 bA:Addr
 au:Addr
 aQ:Addr
 dO:FuncData
 av:Addr
 aR:Addr
 dP:FuncData
 aU:Addr
structure Txt(K:PySem.W.Frag)(mg:Str->Option Value)(t:Adr):Prop where
 yp:ji K "set_of" "set_of" ic t.rn t.qV
 Jc:Binds K t.qV ["numbers"] []
 Ht:mg "set_of" = some (.ref t.rn)
 nM:ji K "rest_of" "rest_of" fY t.nH t.nC
 uf:Binds K t.nC ["whole","part"] []
 tN:mg "rest_of" = some (.ref t.nH)
 vW:ji K "grown" "grown" j8 t.vQ t.vH
 Cu:Binds K t.vH ["whole","ask","part"] []
 BM:mg "grown" = some (.ref t.vQ)
 rE:ji K "shrunk" "shrunk" ib t.rk t.qU
 yd:Binds K t.qU ["ask","part"] []
 xc:mg "shrunk" = some (.ref t.rk)
 oF:ji K "_law_hand" "_law_hand" dZ t.jS t.jN
 yg:Binds K t.jN ["_law_script"] []
 xg:mg "_law_hand" = some (.ref t.jS)
 fK:ji K "_law_next" "_law_next" dY t.jR t.jM
 gO:Binds K t.jM ["_law_hand_here"] []
 gM:mg "_law_next" = some (.ref t.jR)
 oE:ji K "_law_take" "_law_take" dW t.jP t.jK
 yf:Binds K t.jK ["_law_hand_here"] []
 xf:mg "_law_take" = some (.ref t.jP)
 aV:ji K "_law_draw" "_law_draw" ej t.jT t.jO
 aZ:Binds K t.jO ["_law_hand_here","_law_many"] []
 aY:mg "_law_draw" = some (.ref t.jT)
 fj:ji K "_law_is_within" "_law_is_within" bU t.fi t.fc
 ip:Binds K t.fc ["_law_one","_law_other_here"] []
 ik:mg "_law_is_within" = some (.ref t.fi)
 jm:ji K "_law_is_whole" "_law_is_whole" cu t.fN t.fM
 oP:Binds K t.fM ["_law_thing"] []
 oJ:mg "_law_is_whole" = some (.ref t.fN)
 g0:ji K "_law_is_set" "_law_is_set" dc t.gY t.gW
 kX:Binds K t.gW ["_law_thing"] []
 kQ:mg "_law_is_set" = some (.ref t.gY)
 jW:ji K "_law_members" "_law_members" cJ t.gA t.gx
 qZ:Binds K t.gx ["_law_hand_here","_law_most"] []
 qC:mg "_law_members" = some (.ref t.gA)
 jV:ji K "_law_some" "_law_some" dX t.jQ t.jL
 oC:Binds K t.jL ["_law_hand_here","_law_whole"] []
 oi:mg "_law_some" = some (.ref t.jQ)
 mZ:ji K "_law_model" "_law_model" dy t.jg t.iZ
 vN:Binds K t.iZ ["_law_hand_here","_law_whole"] []
 vB:mg "_law_model" = some (.ref t.jg)
 fX:ji K "_law_tells" "_law_tells" dv t.je t.iX
 jc:Binds K t.iX ["_law_model_here","_law_part"] []
 iJ:mg "_law_tells" = some (.ref t.je)
 m4:ji K "_law_grown" "_law_grown" dz t.jh t.ja
 vO:Binds K t.ja ["_law_whole","_law_ask_here","_law_part"] []
 vC:mg "_law_grown" = some (.ref t.jh)
 lg:ji K "_law_shrunk" "_law_shrunk" cZ t.gX t.gU
 sg:Binds K t.gU ["_law_ask_here","_law_part"] []
 rV:mg "_law_shrunk" = some (.ref t.gX)
 jX:ji K "_law_by_base" "_law_by_base" cK t.gB t.gy
 q0:Binds K t.gy ["_law_whole","_law_ask_here","_law_part","_law_peaceful"] []
 qD:mg "_law_by_base" = some (.ref t.gB)
 mY:ji K "_law_other" "_law_other" dw t.jf t.iY
 vM:Binds K t.iY ["_law_model_here","_law_part"] []
 vA:mg "_law_other" = some (.ref t.jf)
 Tp:ji K "law" "law" fS t.CG t.Cj
 aAb:Binds K t.Cj ["_law_script"] []
 Zj:mg "law" = some (.ref t.CG)
 eM:mg "ValueError" = none
 Az:mg "abs" = none
 sP:mg "all" = none
 wq:mg "any" = none
 uL:mg "bool" = none
 Ay:mg "int" = none
 aN:mg "isinstance" = none
 n6:mg "len" = none
 uK:mg "list" = none
 j4:mg "range" = none
 Ax:mg "set" = none
 mw:mg "sorted" = none
 wo:mg "sum" = none
 fV:mg "tuple" = none
 eO:mg "TruceError" = some (.ref t.aA)
 uN:XC K t.aA
 gS:PySem.W.keepIn K (.ref t.aA)=true
 gT:PySem.W.findIn K (.ref t.aA) "__init__" = some (some (.builtin "ValueError.__init__"))
 dH:PySem.W.readsIn K t.aA (.type "type")=true
 dI:PySem.W.findCls K (.ref t.aA) (.type "type") "__init__" = some (.val (.builtin "ValueError.__init__"))
 dG:PySem.W.specialIn K (.ref t.aA) "__getattribute__" = some (some (.builtin "type.__getattribute__"))
 xh:mg "NoFact" = some (.ref t.bA)
 QC:XC K t.bA
 nz:PySem.W.keepIn K (.ref t.bA)=true
 nu:mg "NoPeace" = some (.ref t.au)
 cH:XC K t.au
 iM:PySem.W.keepIn K (.ref t.au)=true
 lO:ji K "__init__" "NoPeace.__init__" bH t.aQ t.dO
 lL:Binds K t.dO bQ []
 iP:PySem.W.findIn K (.ref t.au) "__init__" = some (some (.ref t.aQ))
 iR:PySem.W.typeIn K (.ref t.aQ)=some (.type "function")
 iD:PySem.W.takerIn K t.au "part" = some none
 gk:PySem.W.findIn K (.ref t.au) "part" = some none
 nv:mg "NoClash" = some (.ref t.av)
 cI:XC K t.av
 iN:PySem.W.keepIn K (.ref t.av)=true
 lP:ji K "__init__" "NoClash.__init__" bI t.aR t.dP
 lM:Binds K t.dP bR []
 iQ:PySem.W.findIn K (.ref t.av) "__init__" = some (some (.ref t.aR))
 iS:PySem.W.typeIn K (.ref t.aR)=some (.type "function")
 iE:PySem.W.takerIn K t.av "part" = some none
 gp:PySem.W.findIn K (.ref t.av) "part" = some none
 tO:mg "NoTruce" = some (.ref t.aU)
 Qa:XC K t.aU
 lF:PySem.W.keepIn K (.ref t.aU)=true
 lG:PySem.W.findIn K (.ref t.aU) "__init__" = some (some (.builtin "ValueError.__init__"))
 cR:PySem.W.subIn K (.ref t.au) (.ref t.au)=some true
 bX:PySem.W.subIn K (.ref t.au) (.ref t.aA)=some true
 cU:PySem.W.kitOne K (.ref t.au) (.ref t.av)=some false
 cT:PySem.W.kitOne K (.ref t.au) (.ref t.aU)=some false
 de:PySem.W.kitOne K (.ref t.au) (.ref t.bA)=some false
 bZ:PySem.W.kitOne K (.ref t.au) (.ref t.aA)=some true
 dM:PySem.W.kitOne K (.ref t.au) (.ref t.au)=some true
 iK:PySem.W.kitOne K (.ref t.au) (.type "ValueError")=some true
 cS:PySem.W.subIn K (.ref t.av) (.ref t.av)=some true
 bY:PySem.W.subIn K (.ref t.av) (.ref t.aA)=some true
 dN:PySem.W.kitOne K (.ref t.av) (.ref t.av)=some true
 cV:PySem.W.kitOne K (.ref t.av) (.ref t.aU)=some false
 df:PySem.W.kitOne K (.ref t.av) (.ref t.bA)=some false
 cg:PySem.W.kitOne K (.ref t.av) (.ref t.aA)=some true
 cW:PySem.W.kitOne K (.ref t.av) (.ref t.au)=some false
 iL:PySem.W.kitOne K (.ref t.av) (.type "ValueError")=some true
local macro_rules | `(tactic| walk_at "r") => `(tactic| repeat (walk_at "rl"))
local macro_rules | `(tactic| walk_at "s") => `(tactic| exact ⟨rfl,rfl,rfl,by decide +kernel,rfl,by decide +kernel,by decide +kernel⟩)
theorem ko:aL bQ bQ (ag bH):=by walk_at "s"
theorem kr:aL bR bR (ag bI):=by walk_at "s"
theorem Dn:aL DT ["numbers"] (ag ic):=by walk_at "s"
theorem y9:aL zy ["whole","part"] (ag fY):=by walk_at "s"
theorem jC:aL Hr ["whole","ask","part"] (ag j8):=by walk_at "s"
theorem ia:aL DS ["ask","part"] (ag ib):=by walk_at "s"
theorem u3:aL vw ["_law_script"] (ag dZ):=by walk_at "s"
theorem u0:aL vv ["_law_hand_here"] (ag dY):=by walk_at "s"
theorem iH:aL vr ["_law_hand_here"] (ag dW):=by walk_at "s"
theorem du:aL vy ["_law_hand_here","_law_many"] (ag ej):=by walk_at "s"
theorem mL:aL mQ ["_law_one","_law_other_here"] (ag bU):=by walk_at "s"
theorem nh:aL nr ["_law_thing"] (ag cu):=by walk_at "s"
theorem qu:aL qA ["_law_thing"] (ag dc):=by walk_at "s"
theorem bP:aL oH ["_law_hand_here","_law_most"] (ag cJ):=by walk_at "s"
theorem uZ:aL vt ["_law_hand_here","_law_whole"] (ag dX):=by walk_at "s"
theorem bJ:aL rR ["_law_hand_here","_law_whole"] (ag dy):=by walk_at "s"
theorem rM:aL rP ["_law_model_here","_law_part"] (ag dv):=by walk_at "s"
theorem kP:aL rT ["_law_whole","_law_ask_here","_law_part"] (ag dz):=by walk_at "s"
theorem jD:aL qz ["_law_ask_here","_law_part"] (ag cZ):=by walk_at "s"
theorem oG:aL oI ["_law_whole","_law_ask_here","_law_part","_law_peaceful"] (ag cK):=by walk_at "s"
theorem rN:aL rQ ["_law_model_here","_law_part"] (ag dw):=by walk_at "s"
theorem jB:aL Hq ["_law_script"] (ag fS):=by walk_at "s"
theorem mV:bootBuiltins "ValueError" = some (.type "ValueError"):=by decide +kernel
theorem Tc:bootBuiltins "abs" = some (.builtin "abs"):=by decide +kernel
theorem Jd:bootBuiltins "all" = some (.builtin "all"):=by decide +kernel
theorem MP:bootBuiltins "any" = some (.builtin "any"):=by decide +kernel
theorem P5:bootBuiltins "bool" = some (.type "bool"):=by decide +kernel
theorem Tb:bootBuiltins "int" = some (.type "int"):=by decide +kernel
theorem bh:bootBuiltins "isinstance" = some (.builtin "isinstance"):=by decide +kernel
theorem ye:bootBuiltins "len" = some (.builtin "len"):=by decide +kernel
theorem P4:bootBuiltins "list" = some (.type "list"):=by decide +kernel
theorem Ta:bootBuiltins "set" = some (.type "set"):=by decide +kernel
theorem Jb:bootBuiltins "sorted" = some (.builtin "sorted"):=by decide +kernel
theorem MN:bootBuiltins "sum" = some (.builtin "sum"):=by decide +kernel
theorem kl:bootBuiltins "tuple" = some (.type "tuple"):=by decide +kernel
local macro_rules | `(tactic| walk_at "rd") => `(tactic| walk_at "rc")
local macro_rules | `(tactic| walk_at "rl") => `(tactic| first | (refine fL fun R hR => ?_) | walk_at "ry" | (refine Nx.to (by assumption) _ _ ?_))
local macro_rules | `(tactic| walk_at "rc") => do
  let ids := ("L2.start tSeq tD Dh wB tB FJ Us yW tC qp cP Sn MK Sq Mb Ic FH FG wF tE wG FN Nb yX qm FP Fw Gu rI rU TB Tz Gm wH Qg GJ J9 Nt J7 J6 Bn Bp Bo vg zf oY zg zh vd GC qx wR Nz qv y0 GF Nw GL Nv Ny J' J8 QM wC mD Nq QV Nc oX va qw zc vb nk J1 M8 FT QS FK wI M9 wD Ut List.map_cons List.map_nil List.cons_append List.nil_append List.append_nil List.length_cons List.length_nil List.replicate List.getElem?_cons_zero List.getElem?_cons_succ List.set_cons_zero List.set_cons_succ Nat.reduceAdd Nat.reduceSub Nat.reduceLeDiff Option.some.injEq V.int.injEq V.ref.injEq V.str.injEq V.bl.injEq V.ty.injEq List.cons.injEq HO.lst.injEq HO.tup.injEq HO.dK.injEq exists_eq_left exists_eq_left' exists_and_left and_true true_and and_assoc exists_const reduceCtorEq ak uP decide_eq_true_eq List.length_map ite_true ite_false Bool.false_eq_true Bool.true_and Bool.and_true Cz Cy Cw Cv Jg Jf zP zO zN zM zL Iy Iw Iv Iu Af Ae Ad Ac z8 bz Option.join_some Option.join_none qo uS qQ HF HD Br y2 yZ Bs Bq GP u6 Nu nk GD vf j9 xP Oz zR uR Fv Int.zero_add Int.reduceMul Int.reduceAdd Int.reduceSub Int.reduceLT Int.reduceLE Int.reducePow Int.reduceToNat Int.reduceNeg gt_iff_lt ge_iff_le uW hv QT Q7 LR LW Ends.Qd HO.ext.injEq HO.xd.injEq Mk Mf Ma GK vi vh wQ Gv Bk Bf uV FQ Bc QR Bb oW LQ QL Gz uT uU L5 Bd Fy Fz y4".splitOn " ").toArray.map fun x => Lean.mkIdent x.toName
  `(tactic| simp only [$[$ids:ident],*])
local macro_rules | `(tactic| walk_at "ry") => do
  let ids := ("L2.start tD Dh wB tB FJ Us yW tC qp cP Sn MK Sq Mb Ic FH FG wF tE wG FN Nb yX qm FP Fw Gu rI rU TB Tz Gm wH Qg GJ J9 Nt J7 J6 Bn Bp Bo vg zf oY zg zh vd GC qx wR Nz qv y0 GF Nw GL Nv Ny J' J8 QM wC mD Nq QV Nc oX va qw zc vb nk J1 M8 FT QS FK wI M9 wD Ut List.map_cons List.map_nil List.cons_append List.nil_append List.append_nil List.length_cons List.length_nil List.replicate List.getElem?_cons_zero List.getElem?_cons_succ List.set_cons_zero List.set_cons_succ Nat.reduceAdd Nat.reduceSub Nat.reduceLeDiff Option.some.injEq V.int.injEq V.ref.injEq V.str.injEq V.bl.injEq V.ty.injEq List.cons.injEq HO.lst.injEq HO.tup.injEq HO.dK.injEq exists_eq_left exists_eq_left' exists_and_left and_true true_and and_assoc exists_const reduceCtorEq ak uP decide_eq_true_eq List.length_map ite_true ite_false Bool.false_eq_true Bool.true_and Bool.and_true Cz Cy Cw Cv Jg Jf zP zO zN zM zL Iy Iw Iv Iu Af Ae Ad Ac z8 bz Option.join_some Option.join_none qo uS qQ HF HD Br y2 yZ Bs Bq GP u6 Nu nk GD vf j9 xP Oz zR uR Fv Int.zero_add Int.reduceMul Int.reduceAdd Int.reduceSub Int.reduceLT Int.reduceLE Int.reducePow Int.reduceToNat Int.reduceNeg gt_iff_lt ge_iff_le uW hv QT Q7 LR LW Ends.Qd HO.ext.injEq HO.xd.injEq Mk Mf Ma GK vi vh wQ Gv Bk Bf uV FQ Bc QR Bb oW LQ QL Gz uT uU L5 Bd Fy Fz y4".splitOn " ").toArray.map fun x => Lean.mkIdent x.toName
  `(tactic| simp only [$[$ids:ident],*])
section
variable {P:Program}{w:World}{K:PySem.W.Frag}{mg:Str->Option Value}{base:Heap}{t:Adr}
theorem BK(T:Txt K mg t):cw P w K mg base eB 1 t.nH t.nC ["whole","part"] Ni:=by
 refine T.nM.wZ y9 (λvs H Q E h=>?_) (λbE A outer s H vs Q E hr h hc hf=>?_)
 ·obtain⟨a,b,rfl,_⟩:=h;rfl
 obtain⟨a,b,rfl,x,y,ha,hb,lx,q⟩:=h
 have hu:=kS hr
 have KQ:=hr.gR
 refine⟨_,(by exact az (aK (dJ fF (bS hc) T.fV kl (ae (dU hc ["member"] [1] rfl (by decide +kernel) (fU (ao hc 0)) (λ_ hc=>pQ hc (by decide +kernel) 0 (by decide +kernel)) (λ_ hc=>m8 (bK Dz (ao hc 0) (ao hc 1) (by with_unfolding_all rfl))) (λ_ hc=>(ao hc 0))) ai)))),?_⟩
 repeat (walk_at "rd")
 refine⟨⟨_,bG ha⟩,?_⟩
 obtain⟨Pc,iV⟩:∃Pc:Addr->Nat->List V->Hp->Prop,∀Z i ys H',Pc Z i ys H'↔ys=List.map V.int (cC (x.take i) y)/\bB H H'/\H' Z=some (.lst ys):=⟨_,λ_ _ _ _=>fw⟩
 refine gN (zs:=List.map V.int x) Pc (λZ hZ=>(iV _ _ _ _).mpr ⟨rfl,aD hZ _,ak⟩) (λZ hZ i ys H' _ pv=>?_) (λZ hZ i z ys H' hz pv cb=>?_) (λZ hZ ys H' pv=>?_)
 ·obtain⟨_,s,_⟩:=(iV _ _ _ _).mp pv
  exact s _ _ ha
 ·obtain⟨rfl,s1,nB⟩:=(iV _ _ _ _).mp pv
  obtain⟨n,en,rfl⟩:=int_at hz
  have hi:i<x.length:=(fQ.mp en).1
  have hb1:=s1 _ _ hb
  have ef:cC (x.take (i+1)) y=cC (x.take i) y++(if n∈y then [] else [n]):=by
   unfold cC
   rw[pk,en,List.filter_append]
   by_cases hm:n∈y <;> simp[hm]
  walk_at "rc"
  repeat (first | walk_at "rd" | simp only[hb1])
  refine⟨rfl,tW y,?_⟩
  rw[xF]
  by_cases hm:n∈y
  ·rw[aB (by simp[hm])]
   refine(iV _ _ _ _).mpr ⟨?_,s1,nB⟩
   rw[ef,aC hm,gh]
  ·rw[aC (by simp[hm])]
   have ll:(cC (x.take i) y).length<=900:=fz (yH _ _) (by rw[kB];omega)
   refine⟨nB,dn (by omega),(iV _ _ _ _).mpr ⟨?_,nj s1 hZ,ak⟩⟩
   rw[ef,aB hm,g6]
   rfl
 ·obtain⟨rfl,s1,nB⟩:=(iV _ _ _ _).mp pv
  rw[bN,pj]at nB
  refine⟨Z,rfl,_,nB,λp hp=>q p _ (s1.trans (aD hp _)) (s1.free hp) ?_⟩
  exact ak
def Ga:Sp:=λvs H Q _=>∃L,vs=[.ref L]/\∃ns:List Int,H L=some (.tup (List.map V.int ns))/\ns.length<64/\∀p ms H',bB H H'->H p=none->H' p=some (.tup (List.map V.int ms))->nI ms->(∀x,x∈ms↔x∈ns)->Q (.ref p) H'
theorem DN(T:Txt K mg t):cw P w K mg base eB 1 t.rn t.qV ["numbers"] Ga:=by
 refine T.yp.wZ Dn (λvs H Q E h=>?_) (λbE A outer s H vs Q E hr h hc hf=>?_)
 ·obtain⟨L,rfl,_⟩:=h;rfl
 obtain⟨L,rfl,ns,hL,l64,q⟩:=h
 refine⟨_,(by exact az (aK (dJ fF (bS hc) T.fV kl (ae (aH (qX hr.hd) (bS hc) T.mw Jb (ae (dJ (Ag hr.hd) (bS hc) T.Ax Ta (ae (ao hc 0) ai)) ai)) ai)))),?_⟩
 repeat (first | walk_at "rd" | simp only[hL])
 refine⟨ns,rfl,by omega,λp hp=>⟨ns,rfl,l64,λss' mem up p1 o5 l hl=>?_⟩⟩
 exact q l ss' _ (((aD hp _).trans (aD o5 _)).trans (aD hl _)) (((aD hp _).trans (aD o5 _)).free hl) ak up mem
local macro_rules | `(tactic| walk_at "rd") => `(tactic| walk_at "rc")
local macro_rules | `(tactic| walk_at "rc") => do
  let ids := ("L2.start tSeq tD Dh wB tB FJ Us yW tC qp cP Ic FH FG wF tE wG FN Nb yX qm FP Fw Gu rI rU TB Tz Gm wH Qg GJ J9 Nt J7 J6 Bn Bp Bo vg zf oY zg zh vd GC qx wR Nz qv y0 GF Nw GL Nv Ny J' J8 QM wC mD Nq QV Nc oX va qw zc vb nk J1 M8 FT QS FK wI M9 wD Ut List.map_cons List.map_nil List.cons_append List.nil_append List.append_nil List.length_cons List.length_nil List.replicate List.getElem?_cons_zero List.getElem?_cons_succ List.set_cons_zero List.set_cons_succ Nat.reduceAdd Nat.reduceSub Nat.reduceLeDiff Option.some.injEq V.int.injEq V.ref.injEq V.str.injEq V.bl.injEq V.ty.injEq List.cons.injEq HO.lst.injEq HO.tup.injEq HO.dK.injEq exists_eq_left exists_eq_left' exists_and_left and_true true_and and_assoc exists_const reduceCtorEq ak uP decide_eq_true_eq List.length_map ite_true ite_false Bool.false_eq_true Bool.true_and Bool.and_true Cz Cy Cw Cv Jg Jf zP zO zN zM zL Iy Iw Iv Iu Af Ae Ad Ac z8 bz Option.join_some Option.join_none qo uS qQ HF HD Br y2 yZ Bs Bq GP u6 Nu nk GD vf j9 xP Oz zR uR Fv Int.zero_add Int.reduceMul Int.reduceAdd Int.reduceSub Int.reduceLT Int.reduceLE Int.reducePow Int.reduceToNat Int.reduceNeg gt_iff_lt ge_iff_le uW hv".splitOn " ").toArray.map fun x => Lean.mkIdent x.toName
  `(tactic| simp only [$[$ids:ident],*])
theorem BL(T:Txt K mg t):cw P w K mg base eB 1 t.jR t.jM ["_law_hand_here"] uW:=by
 refine T.fK.wZ u0 (λvs H Q E h=>?_) (λbE A outer s H vs Q E hr h hc hf=>?_)
 ·obtain⟨h,rfl,_⟩:=h;rfl
 obtain⟨h,rfl,l,a,b,c,d,e,hh,q⟩:=h
 refine⟨_,(by apply aq;exact(iz (aS jF (aS lD (aX gq (ao hc 0) ah (λ_ _=>rfl)) ah) ah) (iA (ao hc 0) ah mK));apply aq;exact(iz (aS jF (aS lD (aX gq (ao hc 0) ah (λ_ _=>rfl)) ah) ah) (iA (ao hc 0) ah mK));exact az (aK (aS eZ (aX gq (ao hc 0) ah (λ_ _=>rfl)) (aX gq (ao hc 0) ah (λ_ _=>rfl))))),?_⟩
 unfold hv at *
 walk_at "rd"
 simp only[hh]
 walk_at "rd"
 exact q
theorem Kx(T:Txt K mg t):cw P w K mg base eB 2 t.jP t.jK ["_law_hand_here"] Ng:=by
 have fJ:=BL (P:=P) (w:=w) (base:=base) T
 refine T.oE.wZ iH (λvs H Q E h=>?_) (λbE A outer s H vs Q E hr h hc hf=>?_)
 ·obtain⟨h,rfl,_⟩:=h;rfl
 obtain⟨h,rfl,l,ns,o,hh,⟨a,b,c,d,e,rfl,ha⟩,hl,q⟩:=h
 refine⟨_,(by apply aq;exact(aM hc iH.nd hf 1 (by decide +kernel) ah);apply ml;exact(cz (bK Hg (aX gq (ao hc 0) ah (λ_ _=>rfl)) (aH Eo (bS hc) T.n6 ye (ae (aX gq (ao hc 0) ah (λ_ _=>rfl)) ai)) (cA _)) (by exact az (aM hc iH.nd hf 1 (by decide +kernel) (aH Ja (bS hc) T.Az Tc (ae (aX gq (aX gq (ao hc 0) ah (λ_ _=>rfl)) (aX gq (ao hc 0) ah (λ_ _=>rfl)) (λ_ _=>rfl)) ai)))) bx);apply aq;exact(wc (ao hc 0) ah MJ ah Hz mK);apply ml;exact(cz (bK Rp (ao hc 1) (aS vn ah ah) (cA _)) (by exact az (iz (ao hc 1) (iA (ao hc 0) ah mK))) (by exact az (iz ah (iA (ao hc 0) ah mK))));apply aq;exact(iz (aS eZ (aS jF (aS eZ (aX gq (ao hc 0) ah (λ_ _=>rfl)) (aS jF (ao hc 1) ah)) ah) ah) (iA (ao hc 0) ah mK));apply aq;exact(iz (aS eZ (aS jF (aS eZ (aS lD (aX gq (ao hc 0) ah (λ_ _=>rfl)) ah) (aS jF (ao hc 1) ah)) ah) ah) (iA (ao hc 0) ah mK));apply aq;exact(dj (aF fJ hr.mono (bS hc) T.gM T.fK.kp T.gO .nil bD (ae (ao hc 0) ai)));exact az (dj (aF fJ hr.mono (bS hc) T.gM T.fK.kp T.gO .nil bD (ae (ao hc 0) ai)))),?_⟩
 unfold hv at *
 walk_at "rd"
 refine⟨λσ' H'=>∃z,σ'=[some (.ref h),some (.int z)]/\H'=H,?_,?_⟩
 ·repeat (first | walk_at "rd" | simp only[hh,hl])
  split
  ·rename_i kc
   obtain⟨v,hv'⟩:=Je ha kc
   rw[hv']
   walk_at "rd"
   exact⟨_,rfl⟩
  ·exact⟨_,rfl⟩
 ·rintro σ' H' ⟨z,e1,e2⟩
  subst e1 e2
  repeat (first | walk_at "rd" | simp only[hh,hl])
  refine⟨λσ' lV=>∃b' c',σ'=[some (.ref h),some (.int z)]/\lV=upd H' h (.lst [.ref l,.int (a+1),.int b',.int c',.int d,.int e]),?_,?_⟩
  ·repeat (first | walk_at "rd" | simp only[hh,hl])
   split
   ·exact⟨_,_,rfl⟩
   ·exact⟨_,_,rfl⟩
  ·rintro σ' lV ⟨b',c',e1,e2⟩
   subst e1 e2
   repeat (first | walk_at "rd" | simp only[hh,hl])
   exact q _ ⟨_,_,_,_,_,rfl,by omega⟩
theorem vp(T:Txt K mg t):cw P w K mg base eB 3 t.jT t.jO ["_law_hand_here","_law_many"] Gd:=by
 have fJ:=BL (P:=P) (w:=w) (base:=base) T
 have yn:=Kx (P:=P) (w:=w) (base:=base) T
 refine T.aV.wZ du (λvs H Q E h=>?_) (λbE A outer s H vs Q E hr h hc hf=>?_)
 ·obtain⟨h,m,rfl,_⟩:=h;rfl
 obtain⟨h,m,rfl,hm,hm2,l,ns,o,hh,⟨a,b,c,d,e,rfl,ha⟩,hl,q⟩:=h
 refine⟨_,(by apply ml;exact(cz (sQ (Au (bK mO (aX gq (ao hc 0) ah (λ_ _=>rfl)) ah (cA _)) (v8 (bK mO (aX gq (ao hc 0) ah (λ_ _=>rfl)) ah (cA _))))) (by exact az (dj (aF yn hr.mono (bS hc) T.xf T.oE.kp T.yf .nil bD (ae (ao hc 0) ai)))) bx);apply aq;exact(cz (bK Mg (aX gq (ao hc 0) ah (λ_ _=>rfl)) ah (cA _)) (by apply aq;exact(aM hc du.nd hf 2 (by decide +kernel) (aS jF (aX gq (ao hc 0) ah (λ_ _=>rfl)) (ao hc 1)));apply aq;exact(iz (aS Hh (aX gq (ao hc 0) ah (λ_ _=>rfl)) (ao hc 1)) (iA (ao hc 0) ah mK));exact az (aK (ao hc 2))) bx);apply aq;exact(wc (ao hc 0) ah MJ ah Oy mK);apply aq;exact(aM hc du.nd hf 3 (by decide +kernel) (aF fJ hr.mono (bS hc) T.gM T.fK.kp T.gO .nil bD (ae (ao hc 0) ai)));apply aq;exact(aM hc du.nd hf 4 (by decide +kernel) ah);apply aq;exact(CT ur (bK Hg (ao hc 4) (ao hc 1) (cA _)) (by apply aq;exact(aM hc du.nd hf 3 (by decide +kernel) (aS eZ (aS lD (ao hc 3) ah) (aF fJ hr.mono (bS hc) T.gM T.fK.kp T.gO .nil bD (ae (ao hc 0) ai))));exact az (aM hc du.nd hf 4 (by decide +kernel) (aS lD (ao hc 4) ah))));exact az (aK (aS jF (ao hc 3) (ao hc 1)))),?_⟩
 unfold hv at *
 walk_at "rd"
 refine⟨λσ' H'=>∃a b c d e,σ'=[some (.ref h),some (.int m),none,none,none]/\H'=upd H h (hv l a b c d e)/\0<=a,?_,?_⟩
 ·have same:H=upd H h (hv l a b c d e):=by
   funext x;unfold upd;split
   ·rename_i e;rw[e,hh];rfl
   ·rfl
  repeat (first | walk_at "rd" | simp only[hh,hl])
  by_cases hb:b=0
  ·by_cases hc:c=0
   ·simp only[hb,hc,ju]
    repeat (first | walk_at "rd" | simp only[hh,hl])
    refine⟨h,rfl,l,ns,_,hh,⟨a,b,c,d,e,by rw[hb,hc];rfl,ha⟩,hl,?_⟩
    rintro o' ⟨a',b',c',d',e',rfl,Mv⟩
    exact⟨a',b',c',d',e',rfl,Mv⟩
   ·simp only[hb,hc,ju,lh,uD]
    exact⟨a,b,c,d,e,same,ha⟩
  ·simp only[hb,lh,uD]
   exact⟨a,b,c,d,e,same,ha⟩
 ·rintro σ' H' ⟨a,b,c,d,e,e1,e2,ha⟩
  subst e1 e2
  repeat (first | walk_at "rd" | simp only[hh,hl])
  split
  ·rename_i hb
   refine⟨by omega,⟨by omega,hm2⟩,q _ _ (Int.emod_nonneg _ (by omega)) (Int.emod_lt_of_pos _ (by omega)) ⟨_,_,_,_,_,rfl,ha⟩⟩
  ·rename_i hb
   obtain⟨W,hW⟩:∃W:Nat->St->Hp->Prop,∀μ σ' H',W μ σ' H'↔∃v z a b c d e:Int,μ=(m-z).toNat/\σ'=[some (.ref h),some (.int m),none,some (.int v),some (.int z)]/\H'=upd H h (hv l a b c d e)/\0<=a/\1<=z:=⟨_,λ_ _ _=>fw⟩
   refine⟨W,⟨_,(hW _ _ _).mpr ⟨_,_,_,_,_,_,_,rfl,rfl,rfl,ha,by omega⟩⟩,?_⟩
   intro μ σ' H' hw'
   obtain⟨v,z,a,b,c,d,e,rfl,e1,e2,ha,hz⟩:=(hW _ _ _).mp hw'
   subst e1 e2
   walk_at "rd"
   split
   ·rename_i kc
    obtain⟨N,hN⟩:∃N:St->Hp->Prop,∀σ' H',N σ' H'↔∃v z' a b c d e:Int,σ'=[some (.ref h),some (.int m),none,some (.int v),some (.int z')]/\H'=upd H h (hv l a b c d e)/\0<=a/\z'=z*4294967296:=⟨_,λ_ _=>fw⟩
    refine⟨N,λσ' H' hn=>?_,?_⟩
    ·obtain⟨v,z',a,b,c,d,e,e1,e2,ha,e3⟩:=(hN _ _).mp hn
     exact⟨(m-z').toNat,by omega,(hW _ _ _).mpr ⟨v,z',a,b,c,d,e,rfl,e1,e2,ha,by omega⟩⟩
    ·repeat (first | walk_at "rd" | simp only[hh,hl])
     exact(hN _ _).mpr ⟨_,_,_,_,_,_,_,rfl,rfl,ha,rfl⟩
   ·refine⟨by omega,q _ _ (Int.emod_nonneg _ (by omega)) (Int.emod_lt_of_pos _ (by omega)) ⟨_,_,_,_,_,rfl,ha⟩⟩
theorem Ky(T:Txt K mg t):cw P w K mg base eB 1 t.jS t.jN ["_law_script"] (Nj K):=by
 refine T.oF.wZ u3 (λvs H Q E h=>?_) (λbE A outer s H vs Q E hr h hc hf=>?_)
 ·obtain⟨a,ns,rfl,_⟩:=h;rfl
 obtain⟨a,ns,rfl,hS,q⟩:=h
 refine⟨_,(by exact az (aK (fk (ae (dJ Ah (bS hc) T.uK P4 (ae (m9 Bh (ao hc 0) wd (mq ah)) ai)) (ae ah (ae ah (ae ah (ae ah (ae ah ai))))))))),?_⟩
 walk_at "rd"
 refine⟨a,List.map V.int ns,rfl,hS,λp hp=>?_⟩
 rw[xZ]
 walk_at "rd"
 refine λl hl=>⟨by decide,λh hh=>?_⟩
 have s1:=aD hp (.lst (List.map V.int ((ns.drop (HT.cy ns.length 0 none)).take (HT.cy ns.length ns.length (some 63)-HT.cy ns.length 0 none))))
 have s2:=aD hl (.lst (List.map V.int ((ns.drop (HT.cy ns.length 0 none)).take (HT.cy ns.length ns.length (some 63)-HT.cy ns.length 0 none))))
 have s3:=aD hh (hv l 0 0 0 20011 40009)
 exact q h _ (s1.trans (s2.trans s3)) ((s1.trans s2).free hh) ⟨l,_,_,ak,⟨_,_,_,_,_,rfl,Int.le_refl 0⟩,s3 _ _ ak⟩
local macro_rules | `(tactic| walk_at "rd") => `(tactic| walk_at "rc")
local macro_rules | `(tactic| walk_at "rl") => `(tactic| first | (refine fL fun R hR => ?_) | walk_at "ry" | (refine Nx.to (by assumption) _ _ ?_))
theorem Hj(T:Txt K mg t):Uk P w K mg base 1 t.fN t.fM ["_law_thing"] JP:=by
 refine T.jm.okQ nh (λvs H Q E h=>?_) (λbE A outer s H vs Q E hr h hc hf=>?_)
 ·obtain⟨i,rfl,_⟩:=h;rfl
 obtain⟨i,rfl,q⟩:=h
 refine⟨_,(by exact az (aK (iC (aH nF (bS hc) T.aN bh (ae (ao hc 0) (ae (jv (v:=V.ty "int") (bS hc) T.Ay Tb rfl) ai))) (uI (uJ (aH nF (bS hc) T.aN bh (ae (ao hc 0) (ae (jv (v:=V.ty "bool") (bS hc) T.uL P5 rfl) ai)))))))),?_⟩
 repeat (walk_at "rd")
 refine⟨_,.int i,true,xm _ _,?_⟩
 repeat (walk_at "rd")
 refine⟨_,.int i,false,Oo (by decide) rfl,?_⟩
 repeat (walk_at "rd")
 exact q
theorem wX(T:Txt K mg t):Ul P w K mg base 2 t.gY t.gW ["_law_thing"] JT:=by
 have oU:=Hj (P:=P) (w:=w) (base:=base) T
 refine T.g0.okH qu (λvs H Q E h=>?_) (λbE A outer s H vs Q E hr hd h hc hf=>?_)
 ·obtain⟨a,rfl,_⟩:=h;rfl
 obtain⟨a,rfl,x,ha,lx,rise,q⟩:=h
 refine⟨_,(by apply aq;exact(cz (sQ (m7 (jY (cF (aH nF (bS hc) T.aN bh (ae (ao hc 0) (ae (jv (v:=V.ty "tuple") (bS hc) T.fV kl rfl) ai))))) (oV (jY (cF (aH (t8 hd) (bS hc) T.sP Jd (ae (pR hd hc ["_law_one"] [] (by decide +kernel) (Fl (ao hc 0)) (λ_ hc=>pQ hc (by decide +kernel) 0 (by decide +kernel)) (λ_ _=>dS) (λ_ hc=>(Dc oU hr.mono (bS hc) T.oJ T.jm.kp T.oP bD (ae (ao hc 0) ai)))) ai))))))) (by exact az (aK jw)) bx);exact az (aK (aH (t8 hd) (bS hc) T.sP Jd (ae (pR hd hc ["_law_k"] [0] (by decide +kernel) (wg (bS hc) T.j4 (ae (aS zl (aH kj (bS hc) T.n6 ye (ae (ao hc 0) ai)) ah) ai)) (λ_ hc=>pQ hc (by decide +kernel) 0 (by decide +kernel)) (λ_ _=>dS) (λ_ hc=>(hV Hg (aX oK (ao hc 1) (ao hc 0) (λ_ _=>rfl)) (aX oK (ao hc 1) (aS eZ (ao hc 0) ah) (λ_ _=>rfl)) (cA _)))) ai)))),?_⟩
 repeat (walk_at "rd")
 refine⟨_,.tup ha,true,xm _ _,?_⟩
 repeat (walk_at "rd")
 refine⟨⟨_,bG ha⟩,?_⟩
 obtain⟨Pc,iV⟩:∃Pc:Addr->Nat->List V->Hp->Prop,∀Z i ys H',Pc Z i ys H'↔ys=List.map V.bl (List.replicate i true)/\bB H H'/\H' Z=some (.lst ys):=⟨_,λ_ _ _ _=>fw⟩
 refine gN (zs:=List.map V.int x) Pc (λZ hZ=>(iV _ _ _ _).mpr ⟨rfl,aD hZ _,ak⟩) (λZ hZ i ys H' _ pv=>?_) (λZ hZ i z ys H' hz pv cb=>?_) (λZ hZ ys H' pv=>?_)
 ·obtain⟨_,s,_⟩:=(iV _ _ _ _).mp pv
  exact s _ _ ha
 ·obtain⟨rfl,s1,nB⟩:=(iV _ _ _ _).mp pv
  obtain⟨n,en,rfl⟩:=int_at hz
  have hi:i<x.length:=(fQ.mp en).1
  walk_at "rc"
  repeat (walk_at "rd")
  refine⟨n,rfl,nB,by rw[pz];exact dn (by omega),(iV _ _ _ _).mpr ⟨?_,nj s1 hZ,ak⟩⟩
  rw[List.replicate_succ',g6];rfl
 ·obtain⟨rfl,s1,nB⟩:=(iV _ _ _ _).mp pv
  refine⟨Z,rfl,_,nB,?_⟩
  rw[all_true]
  repeat (walk_at "rd")
  have ha1:=s1 _ _ ha
  repeat (first | walk_at "rd" | simp only[ha1])
  refine⟨by omega,by omega,?_⟩
  obtain⟨Pd,T9⟩:∃Pd:Addr->Nat->List V->Hp->Prop,∀Z2 i ys lV,Pd Z2 i ys lV↔ys=List.map V.bl (List.replicate i true)/\bB H' lV/\lV Z2=some (.lst ys):=⟨_,λ_ _ _ _=>fw⟩
  refine oz Pd (λZ2 Pm=>(T9 _ _ _ _).mpr ⟨rfl,aD Pm _,ak⟩) (λZ2 Pm i ys H2 hi pv cb=>?_) (λZ2 Pm ys H2 pv=>?_)
  ·obtain⟨rfl,s2,Xf⟩:=(T9 _ _ _ _).mp pv
   have ha2:=s2 _ _ ha1
   have j1:i<x.length:=by omega
   have j2:i+1<x.length:=by omega
   have e1:rG (List.map V.int x) (i:Int)=some (.int x[i]):=fu (by rw[fB,eI j1];rfl)
   have e2:rG (List.map V.int x) ((i:Int)+1)=some (.int x[i+1]):=fu (j:=i+1) (by rw[fB,eI j2];rfl)
   walk_at "rc"
   repeat (first | walk_at "rd" | simp only[ha2,e1,e2])
   have lt:x[i]<x[i+1]:=(List.pairwise_iff_getElem.mp rise) i (i+1) j1 j2 (by omega)
   rw[decide_eq_true lt]
   refine⟨Xf,by rw[pz];exact dn (by omega),(T9 _ _ _ _).mpr ⟨?_,nj s2 Pm,ak⟩⟩
   rw[List.replicate_succ',g6];rfl
  ·obtain⟨rfl,s2,Xf⟩:=(T9 _ _ _ _).mp pv
   refine⟨Z2,rfl,_,Xf,?_⟩
   rw[all_true]
   exact q _ (s1.trans s2)
local macro_rules | `(tactic| walk_at "rd") => `(tactic| walk_at "rc")
local macro_rules | `(tactic| walk_at "rl") => `(tactic| first | (refine fL fun R hR => ?_) | walk_at "ry" | (refine Nx.to (by assumption) _ _ ?_))
def FX:Sp:=λvs H Q _=>∃a b,vs=[.ref a,.ref b]/\∃x y:List Int,H a=some (.tup (List.map V.int x))/\H b=some (.tup (List.map V.int y))/\x.length<=900/\∀H',bB H H'->Q (.bl (iO x y)) H'
theorem DK(T:Txt K mg t):cw P w K mg base eB 1 t.fi t.fc ["_law_one","_law_other_here"] FX:=by
 refine T.fj.wZ mL (λvs H Q E h=>?_) (λbE A outer s H vs Q E hr h hc hf=>?_)
 ·obtain⟨a,b,rfl,_⟩:=h;rfl
 obtain⟨a,b,rfl,x,y,ha,hb,lx,q⟩:=h
 refine⟨_,(by exact az (aK (aH (Ep hr.hd) (bS hc) T.sP Jd (ae (dU hc ["_law_member"] [1] rfl (by decide +kernel) (fU (ao hc 0)) (λ_ hc=>pQ hc (by decide +kernel) 0 (by decide +kernel)) (λ_ _=>dS) (λ_ hc=>(hV Ob (ao hc 0) (ao hc 1) (by with_unfolding_all rfl)))) ai)))),?_⟩
 walk_at "r"
 refine⟨⟨_,bG ha⟩,?_⟩
 refine kg (zs:=List.map V.int x) (λj=>x[j]?.map λm=>V.bl (decide (m∈y))) (λ_=>Lr) (λ_ _ _ _ _ _ r=>r) (λ_ _ _ _ _ _ _ r=>r) ha (by rw[bN];omega) (λDD c H4 j z yes no hj s4 Si Sh iT KY=>?_) (λD H4 vs s4 hD tT rl=>?_)
 ·obtain⟨m,em,rfl⟩:=int_at hj
  rw[em]at iT
  walk_at "rc"
  walk_at "r"
  refine⟨_,s4 _ _ hb,rfl,tW _,?_⟩
  rw[xF]
  exact iT _ rfl _ _ (λ_ _ e=>e) rfl
 have ev:=uO rl
 rw[bN,qT (l:=x) (g:=λm=>V.bl (decide (m∈y))) λk hk=>by rw[eI hk];rfl]at ev
 subst ev
 refine⟨D,rfl,x.map λm=>decide (m∈y),by rw[tT,jr];rfl,?_⟩
 rw[List.all_map]
 exact q _ s4
def Di:Sp:=λvs H Q _=>∃h most,vs=[.ref h,.int most]/\∃n:Nat,most=(n:Int)/\n<=12/\dQ H h/\∀R ms H',Dr h H H'->H R=none->H' R=some (.tup (List.map V.int ms))->ms.length<=n->nI ms->Q (.ref R) H'
theorem wA{r a b c:Int}(r0:0<=r)(r1:r<3):∃z,rG [V.int a,V.int b,V.int c] r=some (.int z)/\(z=a\/z=b\/z=c):=by
 have h:r=0\/r=1\/r=2:=by omega
 rcases h with rfl | rfl | rfl
 ·exact⟨a,rfl,.inl rfl⟩
 ·exact⟨b,rfl,.inr (.inl rfl)⟩
 ·exact⟨c,rfl,.inr (.inr rfl)⟩
theorem zm(T:Txt K mg t):cw P w K mg base eB 4 t.gA t.gx ["_law_hand_here","_law_most"] Di:=by
 have aP:=vp (P:=P) (w:=w) (base:=base) T
 refine T.jW.wZ bP (λvs H Q E h=>?_) (λbE A outer s H vs Q E hr h hc hf=>?_)
 ·obtain⟨h,m,rfl,_⟩:=h;rfl
 obtain⟨h,_,rfl,n,rfl,hn,hd,q⟩:=h
 refine⟨_,(by apply aq;exact(aM hc bP.nd hf 2 (by decide +kernel) (aX gq (fk (ae ah (ae (aS vn ah ah) (ae (aS vn ah ah) ai)))) (aF aP hr.mono (bS hc) T.aY T.aV.kp T.aZ .nil bD (ae (ao hc 0) (ae ah ai))) (λ_ _=>rfl)));apply aq;exact(aM hc bP.nd hf 3 (by decide +kernel) (aX gq (fk (ae ah (ae ah (ae (aS vn ah ah) ai)))) (aF aP hr.mono (bS hc) T.aY T.aV.kp T.aZ .nil bD (ae (ao hc 0) (ae ah ai))) (λ_ _=>rfl)));apply aq;exact(aM hc bP.nd hf 4 (by decide +kernel) (aS zl (aF aP hr.mono (bS hc) T.aY T.aV.kp T.aZ .nil bD (ae (ao hc 0) (ae (aS eZ (aS lD ah (ao hc 2)) ah) ai))) (ao hc 2)));apply aq;exact(aM hc bP.nd hf 5 (by decide +kernel) (fk ai));apply aq;exact(mn ur rfl (pO (bS hc) T.j4 (ae (aF aP hr.mono (bS hc) T.aY T.aV.kp T.aZ .nil bD (ae (ao hc 0) (ae (aS eZ (ao hc 1) ah) ai))) ai)) (Fm hc bP.nd hf 6 (by decide +kernel)) (by apply aq;exact(dj (Fn PySem.F.plainAttrs_list PySem.F.slot_list_append PySem.F.type_list_append ka (ao hc 5) (ae (ao hc 4) ai)));exact az (Fi hc bP.nd hf 4 (by decide +kernel) (aS eZ ah (aF aP hr.mono (bS hc) T.aY T.aV.kp T.aZ .nil bD (ae (ao hc 0) (ae (ao hc 3) ai)))) Hz)));exact az (aK (dJ fF (bS hc) T.fV kl (ae (ao hc 5) ai)))),?_⟩
 repeat (walk_at "rd")
 refine⟨⟨by decide,by decide,by decide⟩,⟨by decide,by decide,by decide⟩,by decide,λp hp=>?_⟩
 have d0:=(Dr.refl (h:=h) (H:=H)).new (o:=.lst [V.int 3,V.int 1000000,V.int 1000000000000000000000000000000000000000000000000000000000000]) hp
 have O4:p≠h:=hd.ne hp
 refine cG hd d0 (by decide) (by decide) λr H1 r0 r1 d1 k1=>?_
 obtain⟨z,ez,hz⟩:=wA (a:=3) (b:=1000000) (c:=1000000000000000000000000000000000000000000000000000000000000) r0 r1
 refine⟨_,rfl,_,by rw[k1 p O4];exact ak,_,ez,⟨by decide,by decide,by decide⟩,by decide,λp2 EY=>?_⟩
 have d2:=d1.new (o:=.lst [V.int 1,V.int 5,V.int 1000000000]) EY
 have WD:p2≠h:=(d1.eR hd).ne EY
 refine cG hd d2 (by decide) (by decide) λr' H2 r0' r1' d3 k3=>?_
 obtain⟨st,es,hs⟩:=wA (a:=1) (b:=5) (c:=1000000000) r0' r1'
 have hz1:1<=z/\z<=1000000000000000000000000000000000000000000000000000000000000:=by omega
 have hs1:1<=st/\st<=1000000000:=by omega
 refine⟨_,rfl,_,by rw[k3 p2 WD];exact ak,_,es,?_⟩
 repeat (walk_at "rd")
 refine⟨.inl (by decide),cG hd d3 (by omega) (by omega) λTd H3 a0 a1 d4 k4=>⟨_,rfl,by decide,λR Sf=>?_⟩⟩
 have hR:H R=none:=d4.free hd Sf
 have hRh:R≠h:=hd.ne hR
 refine cG hd (d4.new Sf) (by omega) (by omega) λnn H4 n0 n1 d5 k5=>?_
 have hR4:H4 R=some (.lst []):=(k5 R hRh).trans ak
 obtain⟨m,rfl⟩:∃m:Nat,nn=(m:Int):=⟨nn.toNat,by omega⟩
 refine⟨_,rfl,by omega,by omega,?_⟩
 obtain⟨Pv,lH⟩:∃Pv:Nat->St->Hp->Prop,∀i σ' H',Pv i σ' H'↔∃(v:Int) (y:Option V) (ms:List Int),σ'=[some (.ref h),some (.int (n:Int)),some (.int z),some (.int st),some (.int v),some (.ref R),y]/\Dr h H H'/\H' R=some (.lst (List.map V.int ms))/\ms.length=i/\nI ms/\∀m∈ms,m<v:=⟨_,λ_ _ _=>fw⟩
 refine zZ Pv ((lH _ _ _).mpr ⟨_,none,[],rfl,d5,hR4,rfl,List.Pairwise.nil,λk hk=>by cases hk⟩) (λi σ' H4 hi pv=>?_) (λσ' H4 pv=>?_)
 ·obtain⟨v,y,ms,rfl,d5,T8,lm,rise,below⟩:=(lH _ _ _).mp pv
  rw[nW]at hi
  repeat (first | walk_at "rd" | simp only[T8])
  refine⟨.inl ⟨rfl,_,dk T8⟩,dn (by omega),?_⟩
  simp only[JM,Qg]
  repeat (walk_at "rd")
  refine cG hd (d5.put hR) (by omega) (by omega) λr H6 r0 r1 d6 k6=>?_
  refine⟨_,rfl,(lH _ _ _).mpr ⟨_,_,ms++[v],rfl,d6,by rw[k6 R hRh,ak,g6];rfl,by rw[eL];simp;omega,?_,λm hm=>?_⟩⟩
  ·unfold nI
   rw[List.pairwise_append]
   exact⟨rise,by simp,λa ha b hb=>by rw[show b=v by simpa using hb];exact below a ha⟩
  ·rcases nR.mp hm with u | u
   ·have:=below m u;omega
   ·have:m=v:=by simpa using u
    omega
 ·obtain⟨v,y,ms,rfl,d5,T8,lm,rise,below⟩:=(lH _ _ _).mp pv
  rw[nW]at lm
  repeat (first | walk_at "rd" | simp only[T8])
  exact λp hp=>q p ms _ (d5.new hp) (d5.free hd hp) ak (by omega) rise
def Nh:Sp:=λvs H Q _=>∃h W,vs=[.ref h,.ref W]/\dQ H h/\∃x:List Int,H W=some (.tup (List.map V.int x))/\x.length<=100/\∀R y H',Dr h H H'->H R=none->H' R=some (.tup (List.map V.int y))->y.Sublist x->Q (.ref R) H'
theorem BJ(T:Txt K mg t):cw P w K mg base eB 4 t.jQ t.jL ["_law_hand_here","_law_whole"] Nh:=by
 have aP:=vp (P:=P) (w:=w) (base:=base) T
 refine T.jV.wZ uZ (λvs H Q E h=>?_) (λbE A outer s H vs Q E hr h hc hf=>?_)
 ·obtain⟨h,m,rfl,_⟩:=h;rfl
 obtain⟨h,W,rfl,hd,x,hW,lx,q⟩:=h
 have Fc:=hd.lE hW
 refine⟨_,(by exact az (aK (dJ fF (bS hc) T.fV kl (ae (dU hc ["_law_one"] [0] rfl (by decide +kernel) (fU (ao hc 1)) (λ_ hc=>pQ hc (by decide +kernel) 0 (by decide +kernel)) (λ_ hc=>m8 (bK mO (aF aP hr.mono (bS hc) T.aY T.aV.kp T.aZ .nil bD (ae (ao hc 1) (ae ah ai))) ah (cA _))) (λ_ hc=>(ao hc 0))) ai)))),?_⟩
 repeat (walk_at "rd")
 refine⟨⟨_,bG hW⟩,?_⟩
 obtain⟨Pc,iV⟩:∃Pc:Addr->Nat->List V->Hp->Prop,∀Z i ys H',Pc Z i ys H'↔∃y:List Int,ys=List.map V.int y/\Dr h H H'/\H' Z=some (.lst ys)/\y.Sublist (x.take i):=⟨_,λ_ _ _ _=>fw⟩
 refine gN (zs:=List.map V.int x) Pc (λZ hZ=>(iV _ _ _ _).mpr ⟨[],rfl,Dr.refl.new hZ,ak,List.nil_sublist _⟩) (λZ hZ i ys H' _ pv=>?_) (λZ hZ i z ys H' hz pv cb=>?_) (λZ hZ ys H' pv=>?_)
 ·obtain⟨_,_,d,_⟩:=(iV _ _ _ _).mp pv
  exact d.keep _ _ Fc hW
 ·obtain⟨y,rfl,d1,nB,sl⟩:=(iV _ _ _ _).mp pv
  obtain⟨m,em,rfl⟩:=int_at hz
  have Mw:Z≠h:=hd.ne hZ
  have ly:=sl.length_le
  rw[kB]at ly
  walk_at "rc"
  repeat (walk_at "rd")
  refine cG hd d1 (by decide) (by decide) λr H2 r0 r1 d2 k2=>?_
  have Pm:H2 Z=_:=(k2 Z Mw).trans nB
  have tk:x.take (i+1)=x.take i++[m]:=by rw[pk,em];rfl
  by_cases e:r=1
  ·subst e
   refine⟨rfl,?_⟩
   rw[aC rfl]
   refine⟨Pm,dn (by omega),(iV _ _ _ _).mpr ⟨y++[m],by rw[g6];rfl,d2.put hZ,ak,?_⟩⟩
   rw[tk];exact sl.append (uB _)
  ·refine⟨rfl,?_⟩
   rw[aB (by simpa using e)]
   refine(iV _ _ _ _).mpr ⟨y,rfl,d2,Pm,?_⟩
   rw[tk];exact sl.trans (List.sublist_append_left _ _)
 ·obtain⟨y,rfl,d1,nB,sl⟩:=(iV _ _ _ _).mp pv
  rw[bN,pj]at sl
  repeat (first | walk_at "rd" | simp only[nB])
  exact λp hp=>q p y _ (d1.new hp) (d1.free hd hp) ak sl
local macro_rules | `(tactic| walk_at "rd") => `(tactic| walk_at "rc")
local macro_rules | `(tactic| walk_at "rl") => `(tactic| first | (refine fL fun R hR => ?_) | walk_at "ry" | (refine Nx.to (by assumption) _ _ ?_))
def tY(ks:List Int)(g:Int->V):List (Key×V):=ks.map λz=>(Sum.inl z,g z)
theorem o8(ks:List Int)(g:Int->V)(m:Int):jy (tY ks g) (Sum.inl m)=if m∈ks then some (g m) else none:=by
 induction ks with
 | nil=>rfl
 | cons k ks ih=>
  by_cases e:k=m
  ·subst e
   rw[aC dF]
   exact my (p:=((Sum.inl k:Key),g k)) rfl
  ·have e2:jy (tY (k::ks) g) (Sum.inl m)=jy (tY ks g) (Sum.inl m):=mz (p:=((Sum.inl k:Key),g k)) (λz=>e (Sum.inl.inj z))
   rw[e2,ih]
   by_cases hm:m∈ks
   ·rw[aC hm,aC (dR _ hm)]
   ·rw[aB hm,aB (λz=>(ck.mp z).elim (λz=>e z.symm) hm)]
theorem Qw{ks:List Int}{g g':Int->V}(h:∀z∈ks,g z=g' z):tY ks g=tY ks g':=v3 λz hz=>by rw[h z hz]
theorem Lb{ks:List Int}(g:Int->V){m:Int}(v:V)(h:m∈ks):putK (tY ks g) (Sum.inl m) v=tY ks (λz=>if z=m then v else g z):=by
 unfold putK
 rw[aC (by rw[mB,o8,aC h];rfl)]
 unfold tY
 rw[jr]
 refine v3 λz _=>?_
 by_cases e:z=m
 ·simp[e]
 ·simp[e]
theorem Lc{ks:List Int}(g:Int->V){m:Int}(v:V)(h:m∉ks):putK (tY ks g) (Sum.inl m) v=tY (ks++[m]) (λz=>if z=m then v else g z):=by
 rw[GQ v (by rw[o8,aB h])]
 unfold tY
 rw[g6]
 refine congr (g4 _ (v3 λz hz=>?_)) ?_
 ·dsimp only
  rw[aB (show ¬z=m from λe=>h (by rw[<-e];exact hz))]
 ·simp
theorem Sz(ks:List Int)(g:Int->V):(tY ks g).map (λkv=>kV kv.1)=ks.map V.int:=by
 unfold tY
 rw[jr]
 rfl
theorem Ca(ks:List Int)(g:Int->V):(tY ks g).length=ks.length:=bN _
theorem vD{H:Hp}{vs:List V}{ds:List Int}(r:ky (λ(_:Hp) (v:V) (d:Int)=>v=V.int d) H vs ds):vs=List.map V.int ds:=by
 apply List.ext_getElem (by rw[bN];exact r.1)
 intro i h1 h2
 rw[bN]at h2
 rw[List.getElem_map]
 exact r.2 i _ _ (eI h1) (eI h2)
theorem Ir(xs:List V)(lo hi:Option Int):(gF xs lo hi).length<=xs.length:=by
 unfold gF
 rw[kB,pL]
 omega
inductive Md where
 | wt (g:Int->Int) (most:Int) | Jv (ss:List (List Int)) | out (ss:List (List Int))
def iu(H:Hp)(p:Addr)(W:List Int):Md->Prop
 | .wt g most=>∃d ks,H p=some (.tup [.int 2,.ref d,.int most])/\H d=some (.dK (tY ks λz=>.int (g z)))/\∀m∈W,m∈ks
 | .Jv ss=>∃l bs,H p=some (.tup [.int 0,.ref l,.int 0])/\H l=some (.lst (List.map V.ref bs))/\bM H bs ss/\ss.length<=900/\∀s∈ss,s.length<=100
 | .out ss=>∃l bs,H p=some (.tup [.int 1,.ref l,.int 0])/\H l=some (.lst (List.map V.ref bs))/\bM H bs ss/\ss.length<=900/\∀s∈ss,s.length<=100
theorem iu.same{H H':Hp}{p:Addr}{W:List Int}{md:Md}(s:bB H H')(m:iu H p W md):iu H' p W md:=by
 cases md with
 | wt g most=>obtain⟨d,ks,h1,h2,h3⟩:=m;exact⟨d,ks,s _ _ h1,s _ _ h2,h3⟩
 | Jv ss=>obtain⟨l,bs,h1,h2,h3,h4⟩:=m;exact⟨l,bs,s _ _ h1,s _ _ h2,h3.mono λ_ _ e=>s _ _ e,h4⟩
 | out ss=>obtain⟨l,bs,h1,h2,h3,h4⟩:=m;exact⟨l,bs,s _ _ h1,s _ _ h2,h3.mono λ_ _ e=>s _ _ e,h4⟩
def Md.tells:Md->List Int->Bool
 | .wt g most,S=>decide ((S.map g).sum<=most)
 | .Jv ss,S=>ss.any λs=>iO S s
 | .out ss,S=>!(ss.any λs=>iO s S)
def JS:Sp:=λvs H Q _=>∃h W,vs=[.ref h,.ref W]/\dQ H h/\∃x:List Int,H W=some (.tup (List.map V.int x))/\x.length<=12/\x.Nodup/\∀R md H',Dr h H H'->H R=none->iu H' R x md->Q (.ref R) H'
theorem Hl(T:Txt K mg t):cw P w K mg base eB 5 t.jg t.iZ ["_law_hand_here","_law_whole"] JS:=by
 have aP:=vp (P:=P) (w:=w) (base:=base) T
 have jU:=BJ (P:=P) (w:=w) (base:=base) T
 refine T.mZ.wZ bJ (λvs H Q E h=>?_) (λbE A outer s H vs Q E hr h hc hf=>?_)
 ·obtain⟨h,m,rfl,_⟩:=h;rfl
 obtain⟨h,W,rfl,hd,x,hW,lx,nd,q⟩:=h
 have hu:=kS hr
 have KQ:=hr.gR
 have Fc:=hd.lE hW
 refine⟨_,(by apply aq;exact(aM hc bJ.nd hf 2 (by decide +kernel) (aF aP hr.mono (bS hc) T.aY T.aV.kp T.aZ .nil bD (ae (ao hc 0) (ae ah ai))));apply aq;exact(cz (bK mO (ao hc 2) ah (cA _)) (by apply aq;exact(aM hc bJ.nd hf 3 (by decide +kernel) CZ);apply aq;exact(aM hc bJ.nd hf 4 (by decide +kernel) (hV mO (aF aP hr.mono (bS hc) T.aY T.aV.kp T.aZ .nil bD (ae (ao hc 0) (ae ah ai))) ah (cA _)));apply aq;exact(mn ur rfl (fU (ao hc 1)) (Fm hc bJ.nd hf 5 (by decide +kernel)) (by apply aq;exact(wa hu (ao hc 3) (ao hc 5) ah rfl);exact az (cz (jY (cF (ao hc 4))) (by exact az (wa hu (ao hc 3) (ao hc 5) (aF aP hr.mono (bS hc) T.aY T.aV.kp T.aZ .nil bD (ae (ao hc 0) (ae ah ai))) rfl)) bx)));exact az (aK (iB (ae ah (ae (ao hc 3) (ae (aS zl (aF aP hr.mono (bS hc) T.aY T.aV.kp T.aZ .nil bD (ae (ao hc 0) (ae (aS eZ (aS lD ah (aH kj (bS hc) T.n6 ye (ae (ao hc 1) ai))) ah) ai))) ah) ai)))))) bx);apply aq;exact(aM hc bJ.nd hf 6 (by decide +kernel) (aX gq (fk (ae ah (ae ah (ae ah (ae ah ai))))) (aF aP hr.mono (bS hc) T.aY T.aV.kp T.aZ .nil bD (ae (ao hc 0) (ae ah ai))) (λ_ _=>rfl)));apply aq;exact(CW hc bJ.nd 7 (by decide +kernel) ["_law_k"] [0,1] rfl (by decide +kernel) (pO (bS hc) T.j4 (ae (aF aP hr.mono (bS hc) T.aY T.aV.kp T.aZ .nil bD (ae (ao hc 0) (ae (ao hc 6) ai))) ai)) (λ_ hc=>pQ hc (by decide +kernel) 0 (by decide +kernel)) (λ_ _=>dS) (λ_ hc=>(aF jU hr.mono (bS hc) T.oi T.jV.kp T.oC .nil bD (ae (ao hc 1) (ae (ao hc 2) ai)))) (by rfl));apply ml;exact(cz (sQ (Au (bK Mg (aH kj (bS hc) T.n6 ye (ae (ao hc 1) ai)) ah (cA _)) (v8 (bK mO (aF aP hr.mono (bS hc) T.aY T.aV.kp T.aZ .nil bD (ae (ao hc 0) (ae ah ai))) ah (cA _))))) (by apply aq;exact(aM hc bJ.nd hf 8 (by decide +kernel) (aF aP hr.mono (bS hc) T.aY T.aV.kp T.aZ .nil bD (ae (ao hc 0) (ae (aH kj (bS hc) T.n6 ye (ae (ao hc 1) ai)) ai))));exact az (aM hc bJ.nd hf 7 (by decide +kernel) (aS Oc (ao hc 7) (m9 Uy (fk (ae (dJ fF (bS hc) T.fV kl (ae (dU hc ["_law_one"] [1,8] rfl (by decide +kernel) (fU (ao hc 1)) (λ_ hc=>pQ hc (by decide +kernel) 0 (by decide +kernel)) (λ_ hc=>m8 (bK Hf (ao hc 0) (aX oK (ao hc 1) (ao hc 2) (λ_ _=>rfl)) (cA _))) (λ_ hc=>(ao hc 0))) ai)) (ae (m9 QZ (ao hc 1) (mq (ao hc 8)) (mq (aS eZ (ao hc 8) ah))) ai))) wd (mq (aS eZ ah (aF aP hr.mono (bS hc) T.aY T.aV.kp T.aZ .nil bD (ae (ao hc 0) (ae ah ai))))))))) bx);exact az (aK (iB (ae (ao hc 2) (ae (ao hc 7) (ae ah ai)))))),?_⟩
 walk_at "r"
 refine cG hd .refl (by decide) (by decide) λway H1 w0 w1 d1 k1=>?_
 have hW1:=d1.keep _ _ Fc hW
 walk_at "r"
 by_cases e2:way=2
 ·subst e2
  walk_at "r"
  intro D hD
  have Xs:H D=none:=d1.free hd hD
  have Xo:D≠h:=hd.ne Xs
  have d2:Dr h H (upd H1 D (.dK [])):=d1.new hD
  have Jy:upd H1 D (.dK []) D=some (.dK []):=ak
  generalize upd H1 D (.dK [])=H2 at d2 Jy ⊢
  walk_at "r"
  refine cG hd d2 (by decide) (by decide) λal H3 a0 a1 d3 k3=>?_
  have Qu:=(k3 D Xo).trans Jy
  walk_at "r"
  have hW3:=d3.keep _ _ Fc hW
  generalize decide (al=1)=ab
  refine⟨⟨_,bG hW3⟩,?_⟩
  obtain⟨Pv,lH⟩:∃Pv:Nat->St->Hp->Prop,∀i σ' H',Pv i σ' H'↔∃(y:Option V) (g:Int->Int),σ'=[some (.ref h),some (.ref W),some (.int 2),some (.ref D),some (.bl ab),y,none,none,none]/\Dr h H H'/\H' D=some (.dK (tY (x.take i) λz=>.int (g z))):=⟨_,λ_ _ _=>fw⟩
  refine lI (xs:=List.map V.int x) Pv ((lH _ _ _).mpr ⟨none,λ_=>0,rfl,d3,Qu⟩) (λi σ' H' _ pv=>?_) (λi z σ' H4 hz pv=>?_) (λσ' H4 pv=>?_)
  ·obtain⟨_,_,_,d,_⟩:=(lH _ _ _).mp pv
   exact d.keep _ _ Fc hW
  ·obtain⟨y,g,rfl,d4,tT⟩:=(lH _ _ _).mp pv
   obtain⟨m,em,rfl⟩:=int_at hz
   have hi:i<x.length:=(fQ.mp em).1
   have tk:x.take (i+1)=x.take i++[m]:=by rw[pk,em];rfl
   have nm:m∉x.take i:=λhm=>by
    obtain⟨j,hj,e⟩:=List.mem_take_iff_getElem.mp hm
    have:=(List.getElem_inj nd).mp (e.trans (fQ.mp em).2.symm)
    omega
   repeat (first | walk_at "rl" | simp only[Bl])
   refine⟨_,Ez.k (k:=Sum.inl m) tT (dn (by rw[Ca,kB];omega)),?_⟩
   rw[Lc _ _ nm,<-tk]
   have d5:Dr h H (upd H4 D (.dK (tY (x.take (i+1)) λz=>if z=m then V.int 1 else .int (g z)))):=d4.put Xs
   have eg:(λz=>if z=m then V.int 1 else .int (g z))=λz=>V.int (if z=m then 1 else g z):=funext λz=>by split <;> rfl
   have K7:upd H4 D (.dK (tY (x.take (i+1)) λz=>if z=m then V.int 1 else .int (g z))) D=some (.dK (tY (x.take (i+1)) λz=>.int (if z=m then 1 else g z))):=by rw[ak,eg]
   generalize upd H4 D (.dK (tY (x.take (i+1)) λz=>if z=m then V.int 1 else .int (g z)))=H5 at d5 K7 ⊢
   walk_at "r"
   cases ab with
   | true=>
    rw[aB (by decide)]
    exact(lH _ _ _).mpr ⟨_,_,rfl,d5,K7⟩
   | false=>
    rw[aC (by decide)]
    simp only[Bl]
    walk_at "r"
    refine cG hd d5 (by decide) (by decide) λv H6 v0 v1 d6 k6=>?_
    have MF:=(k6 D Xo).trans K7
    refine⟨_,Ez.k (k:=Sum.inl m) MF (dn (by rw[Ca,kB];omega)),?_⟩
    rw[Lb _ _ (by rw[tk];simp)]
    have eg2:(λz=>if z=m then V.int v else .int (if z=m then 1 else g z))=λz=>V.int (if z=m then v else if z=m then 1 else g z):=funext λz=>by split <;> rfl
    exact(lH _ _ _).mpr ⟨_,_,rfl,d6.put Xs,by rw[ak,eg2]⟩
  obtain⟨y,g,rfl,d4,tT⟩:=(lH _ _ _).mp pv
  rw[bN,pj]at tT
  have Qs:=d4.keep _ _ Fc hW
  repeat (first | walk_at "rl" | simp only[Qs])
  refine cG hd d4 (by omega) (by omega) λv H5 v0 v1 d5 k5=>⟨_,rfl,by decide,λp hp=>?_⟩
  have K7:=(k5 D Xo).trans tT
  exact q p (.wt g (v-1)) _ (d5.new hp) (d5.free hd hp) ⟨D,x,ak,by rw[ay (aG K7 hp)];exact K7,λm hm=>hm⟩
 ·rw[aB (by simpa using e2)]
  walk_at "r"
  refine⟨by decide,λp hp=>?_⟩
  have d2:Dr h H (upd H1 p (.lst [V.int 6,V.int 6,V.int 6,V.int 21])):=d1.new hp
  have O4:p≠h:=(d1.eR hd).ne hp
  refine cG hd d2 (by decide) (by decide) λr H2 r0 r1 d3 k3=>?_
  obtain⟨z,ez,hz⟩:=K8 (a:=6) (b:=6) (c:=6) (d:=21) r0 r1
  refine⟨_,rfl,_,by rw[k3 p O4];exact ak,_,ez,?_⟩
  have hz1:6<=z/\z<=21:=by omega
  clear d2 k3 hz ez
  walk_at "r"
  refine cG hd d3 (by omega) (by omega) λnn H4 n0 n1 d4 k4=>?_
  obtain⟨n,rfl⟩:∃n:Nat,nn=(n:Int):=⟨nn.toNat,by omega⟩
  walk_at "r"
  refine⟨by omega,by omega,?_⟩
  obtain⟨Pc,iV⟩:∃Pc:Addr->Nat->List V->Hp->Prop,∀Z i ys H',Pc Z i ys H'↔∃bs ss,ys=List.map V.ref bs/\Dr h H H'/\H' Z=some (.lst ys)/\bM H' bs ss/\ss.length=i/\∀s∈ss,s.length<=100:=⟨_,λ_ _ _ _=>fw⟩
  refine oz Pc (λZ hZ=>(iV _ _ _ _).mpr ⟨[],[],rfl,d4.new hZ,ak,⟨rfl,λ_ _ _ z=>by cases z⟩,rfl,λ_ z=>(nomatch z)⟩) (λZ hZ i ys H' hi pv cb=>?_) (λZ hZ ys H' pv=>?_)
  ·obtain⟨bs,ss,rfl,d5,T6,sb,ls,xk⟩:=(iV _ _ _ _).mp pv
   have T7:=d4.free hd hZ
   have Mw:Z≠h:=hd.ne T7
   walk_at "rc"
   walk_at "r"
   refine⟨h,W,rfl,d5.eR hd,x,d5.keep _ _ Fc hW,by omega,λR y H6 d6 hR hR6 sl=>?_⟩
   have W7:=d5.eR hd
   have Sd:=d6.keep _ _ Mw T6
   have Qe:=Dr.sets W7 d6 sb
   have lb:=sb.1
   rw[nW]at hi
   refine⟨Sd,dn (by omega),(iV _ _ _ _).mpr ⟨bs++[R],ss++[y],by rw[g6];rfl,(d5.trans d6).put T7,ak,?_,by rw[eL,ls];rfl,λs hs=>?_⟩⟩
   ·have s1:bM H6 [R] [y]:=⟨rfl,λj c u h1 h2=>by
     match j,h1,h2 with
     | 0,h1,h2=>cases h1;cases h2;exact hR6
     | _+1,h1,_=>cases h1⟩
    exact(Qe.app s1).mono λc xs e=>by rw[ay (qB e Sd (by intro z;cases z))];exact e
   ·rcases nR.mp hs with z | z
    ·exact xk s z
    ·rw[di.mp z];have:=sl.length_le;omega
  obtain⟨bs,ss,rfl,d5,T6,sb,ls,xk⟩:=(iV _ _ _ _).mp pv
  rw[nW]at ls
  have T7:=d4.free hd hZ
  clear iV pv Pc d4 k4
  have Pq:=d5.keep _ _ Fc hW
  repeat (first | walk_at "rl" | simp only[Pq])
  obtain⟨P',Ia⟩:∃P':St->Hp->Prop,∀σ' H',P' σ' H'↔∃(L:Addr) (y:Option V) (bs:List Addr) (ss:List (List Int)),σ'=[some (.ref h),some (.ref W),some (.int way),none,none,none,some (.int z),some (.ref L),y]/\Dr h H H'/\H' L=some (.lst (List.map V.ref bs))/\bM H' bs ss/\ss.length<=40/\∀s∈ss,s.length<=100:=⟨_,λ_ _=>fw⟩
  have V5:∀H6,Dr h H H6->H6 Z=some (.lst (List.map V.ref bs))->bM H6 bs ss->P' [some (.ref h),some (.ref W),some (.int way),none,none,none,some (.int z),some (.ref Z),none] H6:=λH6 d6 h6 s6=>(Ia _ _).mpr ⟨Z,_,bs,ss,rfl,d6,h6,s6,by omega,xk⟩
  have fin:∀(l q2:Addr) (S1 S2:List Int) (r:Int) (L2:Addr) (y:Option V) (H2:Hp),Dr h H H2->H2 l=some (.tup (List.map V.int S1))->H2 q2=some (.tup (List.map V.int S2))->S1.length<=100->S2.length<=100->bM H2 bs ss->0<=r->r<2->
    H2 L2=some (.lst (List.map V.ref bs++gF [V.ref l,V.ref q2] none (some (1+r))))->P' [some (.ref h),some (.ref W),some (.int way),none,none,none,some (.int z),some (.ref L2),y] H2:=λl q2 S1 S2 r L2 y H2 d2 h1 h2 l1 l2 s2 r0 r1 hL=>by
   have hr:r=0\/r=1:=by omega
   rcases hr with rfl | rfl
   ·refine(Ia _ _).mpr ⟨L2,y,bs++[l],ss++[S1],rfl,d2,by rw[hL,g6];rfl,s2.app ⟨rfl,λj c u e1 e2=>?_⟩,by rw[eL];simp;omega,λs hs=>?_⟩
    ·match j,e1,e2 with
     | 0,e1,e2=>cases e1;cases e2;exact h1
     | _+1,e1,_=>cases e1
    ·rcases nR.mp hs with k | k
     ·exact xk s k
     ·rw[di.mp k];exact l1
   ·refine(Ia _ _).mpr ⟨L2,y,bs++[l,q2],ss++[S1,S2],rfl,d2,by rw[hL,g6];rfl,s2.app ⟨rfl,λj c u e1 e2=>?_⟩,by rw[eL];simp;omega,λs hs=>?_⟩
    ·match j,e1,e2 with
     | 0,e1,e2=>cases e1;cases e2;exact h1
     | 1,e1,e2=>cases e1;cases e2;exact h2
     | _+2,e1,_=>cases e1
    ·rcases nR.mp hs with k | k
     ·exact xk s k
     ·rcases ck.mp k with k | k
      ·rw[k];exact l1
      ·rw[di.mp k];exact l2
  refine⟨P',?_,λσ' H6 hm=>?_⟩
  ·repeat (first | walk_at "rl" | simp only[Pq])
   by_cases e0:0<x.length
   ·rw[aC (by simpa using e0)]
    refine cG hd d5 (by decide) (by decide) λr6 H6 _ _ d6 k6=>?_
    have Mw:Z≠h:=hd.ne T7
    have Sd:=(k6 Z Mw).trans T6
    have W7:=d5.eR hd
    have kt:∀c xs,H' c=some (.tup xs)->H6 c=some (.tup xs):=λc xs e=>(k6 c (W7.lE e)).trans e
    have Qe:=sb.mono kt
    have hW6:=kt _ _ Pq
    refine⟨rfl,?_⟩
    by_cases e6:r6=0
    ·subst e6
     rw[aC rfl]
     repeat (first | walk_at "rl" | simp only[hW6])
     refine cG hd d6 (by omega) (by omega) λat_ H7 a0 a1 d7 k7=>?_
     have hZ7:=(k7 Z Mw).trans Sd
     have Qp:=d6.eR hd
     have Zz:∀c xs,H6 c=some (.tup xs)->H7 c=some (.tup xs):=λc xs e=>(k7 c (Qp.lE e)).trans e
     have Tv:=Qe.mono Zz
     have Mx:=Zz _ _ hW6
     repeat (first | walk_at "rl" | simp only[Mx])
     obtain⟨a,rfl⟩:∃a:Nat,at_=(a:Int):=⟨at_.toNat,by omega⟩
     have ha:a<x.length:=by omega
     have eat:rG (List.map V.int x) (a:Int)=some (.int x[a]):=fu (by rw[fB,eI ha];rfl)
     refine⟨⟨_,bG Mx⟩,?_⟩
     refine kg (zs:=List.map V.int x) (λk=>if (x[k]?.any λm=>decide (m≠x[a])) then x[k]? else none) (λ_ _ v d=>v=V.int d) (λ_ _ _ _ _ _ r=>r) (λ_ _ _ _ _ _ _ r=>r) Mx (by rw[bN];omega) (λDD c H8 j z yes no hj s8 Si Sh iT KY=>?_) (λD H8 vs s8 hD hD8 rl=>?_)
     ·obtain⟨m,em,rfl⟩:=int_at hj
      rw[em]at iT KY
      have hW8:=s8 _ _ Mx
      walk_at "rc"
      repeat (first | walk_at "rl" | simp only[hW8,eat])
      by_cases hm:m=x[a]
      ·rw[aB (by simpa using hm)]
       exact KY (aB (by simpa using hm)) _ λ_ _ e=>e
      ·rw[aC (by simpa using hm)]
       exact iT _ (aC (by simpa using hm)) _ _ (λ_ _ e=>e) rfl
     have ev:=vD rl
     rw[bN,Eg (l:=x) (p:=λm=>decide (m≠x[a])) λk hk=>by rw[eI hk];rfl]at ev
     subst ev
     have lo:=yH (λm=>decide (m≠x[a])) x
     generalize (x.filter λm=>decide (m≠x[a]))=S1 at lo hD8
     have d8:=d7.on s8
     refine⟨D,rfl,_,hD8,λl hl=>?_⟩
     have s9:=aD hl (.tup (List.map V.int S1))
     have WW:upd H8 l (.tup (List.map V.int S1)) l=_:=ak
     have d9:Dr h H (upd H8 l (.tup (List.map V.int S1))):=d8.new hl
     generalize upd H8 l (.tup (List.map V.int S1))=H9 at s9 WW d9 ⊢
     have Uv:=s8.trans s9
     have Se:=Uv _ _ Mx
     have hZ9:=Uv _ _ hZ7
     have Y2:bM H9 bs ss:=Tv.mono λ_ _ e=>Uv _ _ e
     refine⟨_,Se,λ_=>⟨by decide,λp hp=>?_⟩,λ_ q2 Z6=>⟨by decide,λp hp=>?_⟩⟩
     ·have Gn:=aD hp (.lst [V.ref l,V.ref W])
      have PX:Dr h H (upd H9 p (.lst [V.ref l,V.ref W])):=d9.new hp
      have HQ:upd H9 p (.lst [V.ref l,V.ref W]) p=_:=ak
      have O4:p≠h:=(d9.eR hd).ne hp
      generalize upd H9 p (.lst [V.ref l,V.ref W])=Aq at Gn PX HQ ⊢
      refine cG hd PX (by decide) (by decide) λJ2 MT r0 r1 Yi Ju=>⟨_,rfl,_,(Ju p O4).trans HQ,λp3 Mp=>?_⟩
      have Pg:=PX.eR hd
      have zJ:∀c xs,Aq c=some (.tup xs)->MT c=some (.tup xs):=λc xs e=>(Ju c (Pg.lE e)).trans e
      have Bm:=aD Mp (.lst (gF [V.ref l,V.ref W] none (some (1+J2))))
      have Pn:=(Ju Z Mw).trans (Gn _ _ hZ9)
      have lb:=sb.1
      refine⟨_,Bm _ _ Pn,iF (by rw[bN];have:=Ir [V.ref l,V.ref W] (none:Option Int) (some (1+J2));simp at this;omega),λp4 RM=>?_⟩
      have Nn:=Bm.trans (aD RM (.lst (List.map V.ref bs++gF [V.ref l,V.ref W] none (some (1+J2)))))
      exact fin l W S1 x J2 p4 _ _ ((Yi.new Mp).new RM) (Nn _ _ (zJ _ _ (Gn _ _ WW))) (Nn _ _ (zJ _ _ (Gn _ _ Se))) (by omega) (by omega) (((Y2.mono λ_ _ e=>Gn _ _ e).mono zJ).mono λ_ _ e=>Nn _ _ e) r0 r1 ak
     ·have Dq:=aD Z6 (.tup (gF (List.map V.int x) (some (a:Int)) (some ((a:Int)+1))))
      have O1:upd H9 q2 (.tup (gF (List.map V.int x) (some (a:Int)) (some ((a:Int)+1)))) q2=some (.tup (List.map V.int ((x.drop (HT.cy x.length 0 (some (a:Int)))).take (HT.cy x.length x.length (some ((a:Int)+1))-HT.cy x.length 0 (some (a:Int)))))):=by rw[ak,xZ]
      have Yj:Dr h H (upd H9 q2 (.tup (gF (List.map V.int x) (some (a:Int)) (some ((a:Int)+1))))):=d9.new Z6
      have l2:((x.drop (HT.cy x.length 0 (some (a:Int)))).take (HT.cy x.length x.length (some ((a:Int)+1))-HT.cy x.length 0 (some (a:Int)))).length<=100:=by rw[kB,pL];omega
      generalize ((x.drop (HT.cy x.length 0 (some (a:Int)))).take (HT.cy x.length x.length (some ((a:Int)+1))-HT.cy x.length 0 (some (a:Int))))=S2 at O1 l2
      generalize upd H9 q2 (.tup (gF (List.map V.int x) (some (a:Int)) (some ((a:Int)+1))))=Jl at Dq O1 Yj hp ⊢
      have Gn:=aD hp (.lst [V.ref l,V.ref q2])
      have PX:Dr h H (upd Jl p (.lst [V.ref l,V.ref q2])):=Yj.new hp
      have HQ:upd Jl p (.lst [V.ref l,V.ref q2]) p=_:=ak
      have O4:p≠h:=(Yj.eR hd).ne hp
      generalize upd Jl p (.lst [V.ref l,V.ref q2])=Aq at Gn PX HQ ⊢
      have U8:bM Jl bs ss:=Y2.mono λ_ _ e=>Dq _ _ e
      refine cG hd PX (by decide) (by decide) λJ2 MT r0 r1 Yi Ju=>⟨_,rfl,_,(Ju p O4).trans HQ,λp3 Mp=>?_⟩
      have Pg:=PX.eR hd
      have zJ:∀c xs,Aq c=some (.tup xs)->MT c=some (.tup xs):=λc xs e=>(Ju c (Pg.lE e)).trans e
      have Bm:=aD Mp (.lst (gF [V.ref l,V.ref q2] none (some (1+J2))))
      have Pn:=(Ju Z Mw).trans (Gn _ _ (Dq _ _ hZ9))
      have lb:=sb.1
      refine⟨_,Bm _ _ Pn,iF (by rw[bN];have:=Ir [V.ref l,V.ref q2] (none:Option Int) (some (1+J2));simp at this;omega),λp4 RM=>?_⟩
      have Nn:=Bm.trans (aD RM (.lst (List.map V.ref bs++gF [V.ref l,V.ref q2] none (some (1+J2)))))
      exact fin l q2 S1 S2 J2 p4 _ _ ((Yi.new Mp).new RM) (Nn _ _ (zJ _ _ (Gn _ _ (Dq _ _ WW)))) (Nn _ _ (zJ _ _ (Gn _ _ O1))) (by omega) l2 (((U8.mono λ_ _ e=>Gn _ _ e).mono zJ).mono λ_ _ e=>Nn _ _ e) r0 r1 ak
    ·rw[aB (by simpa using e6)]
     exact V5 _ d6 Sd Qe
   ·rw[aB (by simpa using e0)]
    exact V5 _ d5 T6 sb
  obtain⟨L,y,bs,ss,rfl,d6,Pr,Qe,l40,xk⟩:=(Ia _ _).mp hm
  clear fin V5 Ia hm P'
  walk_at "r"
  refine⟨by decide,λp hp=>?_⟩
  have s7:=aD hp (.tup [V.int way,V.ref L,V.int 0])
  have Ws:way=0\/way=1:=by omega
  have Tv:bM (upd H6 p (.tup [V.int way,V.ref L,V.int 0])) bs ss:=Qe.mono λ_ _ e=>s7 _ _ e
  rcases Ws with rfl | rfl
  ·exact q p (.Jv ss) _ (d6.new hp) (d6.free hd hp) ⟨L,bs,ak,s7 _ _ Pr,Tv,by omega,xk⟩
  ·exact q p (.out ss) _ (d6.new hp) (d6.free hd hp) ⟨L,bs,ak,s7 _ _ Pr,Tv,by omega,xk⟩
local macro_rules | `(tactic| walk_at "rd") => `(tactic| walk_at "rc")
local macro_rules | `(tactic| walk_at "rl") => `(tactic| first | (refine fL fun R hR => ?_) | walk_at "ry" | (refine Nx.to (by assumption) _ _ ?_))
def JQ:Sp:=λvs H Q _=>∃m p,vs=[.ref m,.ref p]/\∃(md:Md) (W S:List Int),iu H m W md/\H p=some (.tup (List.map V.int S))/\S.length<=100/\(∀z∈S,z∈W)/\∀H',bB H H'->Q (.bl (md.tells S)) H'
theorem qy(T:Txt K mg t):cw P w K mg base eB 2 t.je t.iX ["_law_model_here","_law_part"] JQ:=by
 have iy:=DK (P:=P) (w:=w) (base:=base) T
 refine T.fX.wZ rM (λvs H Q E h=>?_) (λbE A outer s H vs Q E hr h hc hf=>?_)
 ·obtain⟨m,p,rfl,_⟩:=h;rfl
 obtain⟨m,p,rfl,md,W,S,ma,hp,lS,sub,q⟩:=h
 have hu:=kS hr
 have KQ:=hr.gR
 refine⟨_,(by apply aq;exact(cz (bK mO (aX oK (ao hc 0) ah (λ_ _=>rfl)) ah (cA _)) (by exact az (aK (hV Ro (aH (t6 hr.hd) (bS hc) T.wo MN (ae (dU hc ["_law_one"] [0] rfl (by decide +kernel) (fU (ao hc 1)) (λ_ hc=>pQ hc (by decide +kernel) 0 (by decide +kernel)) (λ_ _=>dS) (λ_ hc=>(wj hu (aX oK (ao hc 1) ah (λ_ _=>rfl)) (ao hc 0) (λ_ _=>rfl)))) ai)) (aX oK (ao hc 0) ah (λ_ _=>rfl)) (cA _)))) bx);apply aq;exact(cz (bK mO (aX oK (ao hc 0) ah (λ_ _=>rfl)) ah (cA _)) (by exact az (aK (aH (t7 hr.hd) (bS hc) T.wq MP (ae (dU hc ["_law_one"] [1] rfl (by decide +kernel) (pP (aX oK (ao hc 0) ah (λ_ _=>rfl))) (λ_ hc=>pQ hc (by decide +kernel) 0 (by decide +kernel)) (λ_ _=>dS) (λ_ hc=>(aF iy hr.mono (bS hc) T.ik T.fj.kp T.ip .nil bD (ae (ao hc 1) (ae (ao hc 0) ai))))) ai)))) bx);exact az (aK (uJ (aH (t7 hr.hd) (bS hc) T.wq MP (ae (dU hc ["_law_one"] [1] rfl (by decide +kernel) (pP (aX oK (ao hc 0) ah (λ_ _=>rfl))) (λ_ hc=>pQ hc (by decide +kernel) 0 (by decide +kernel)) (λ_ _=>dS) (λ_ hc=>(aF iy hr.mono (bS hc) T.ik T.fj.kp T.ip .nil bD (ae (ao hc 0) (ae (ao hc 1) ai))))) ai))))),?_⟩
 cases md with
 | wt g most=>
  obtain⟨d,ks,hm,hd,hk⟩:=ma
  repeat (first | walk_at "rl" | simp only[hm])
  refine⟨⟨_,bG hp⟩,?_⟩
  refine kg (zs:=List.map V.int S) (λj=>S[j]?.map g) (λ_ _ v d=>v=V.int d) (λ_ _ _ _ _ _ r=>r) (λ_ _ _ _ _ _ _ r=>r) hp (by rw[bN];omega) (λDD c H4 j z yes no hj s4 Si Sh iT KY=>?_) (λD H4 vs s4 hD tT rl=>?_)
  ·obtain⟨n,en,rfl⟩:=int_at hj
   rw[en]at iT
   have RV:=s4 _ _ hm
   walk_at "rc"
   repeat (first | walk_at "rl" | simp only[RV,Be])
   refine⟨.int (g n),?_,iT _ rfl _ _ (λ_ _ e=>e) rfl⟩
   have:=Ar.k (k:=Sum.inl n) (s4 _ _ hd)
   rw[o8,aC (hk n (sub n (mh en)))]at this
   exact this
  have ev:=vD rl
  rw[bN,qT (l:=S) (g:=g) λk hk=>by rw[eI hk];rfl]at ev
  subst ev
  have RV:=s4 _ _ hm
  repeat (first | walk_at "rl" | simp only[RV])
  exact⟨_,tT,q _ s4⟩
 | Jv ss=>
  obtain⟨l,bs,hm,hl,sb,l9,ls⟩:=ma
  repeat (first | walk_at "rl" | simp only[hm])
  refine⟨⟨_,dk hl⟩,?_⟩
  refine qW (zs:=List.map V.ref bs) (λj=>ss[j]?.map λs=>V.bl (iO S s)) (λ_=>Lr) (λ_ _ _ _ _ _ r=>r) (λ_ _ _ _ _ _ _ r=>r) hl (by rw[bN,sb.1];omega) (λDD c H4 j z yes no hj s4 Si Sh iT KY=>?_) (λD H4 vs s4 hD tT rl=>?_)
  ·obtain⟨b,eb,rfl⟩:=Gr hj
   have hj1:j<bs.length:=(fQ.mp eb).1
   have es:ss[j]?=some (ss[j]'(by have:=sb.1;omega)):=eI _
   have Xd:=s4 _ _ (sb.2 j b _ eb es)
   rw[es]at iT
   walk_at "rc"
   walk_at "r"
   exact⟨p,b,rfl,S,_,s4 _ _ hp,Xd,by omega,λH5 s5=>iT _ rfl _ _ s5 rfl⟩
  have ev:=uO rl
  rw[bN,sb.1,qT (l:=ss) (g:=λs=>V.bl (iO S s)) λk hk=>by rw[eI hk];rfl]at ev
  subst ev
  refine⟨D,rfl,ss.map λs=>iO S s,by rw[tT,jr];rfl,?_⟩
  rw[um]
  exact q _ s4
 | out ss=>
  obtain⟨l,bs,hm,hl,sb,l9,ls⟩:=ma
  repeat (first | walk_at "rl" | simp only[hm])
  refine⟨⟨_,dk hl⟩,?_⟩
  refine qW (zs:=List.map V.ref bs) (λj=>ss[j]?.map λs=>V.bl (iO s S)) (λ_=>Lr) (λ_ _ _ _ _ _ r=>r) (λ_ _ _ _ _ _ _ r=>r) hl (by rw[bN,sb.1];omega) (λDD c H4 j z yes no hj s4 Si Sh iT KY=>?_) (λD H4 vs s4 hD tT rl=>?_)
  ·obtain⟨b,eb,rfl⟩:=Gr hj
   have hj1:j<bs.length:=(fQ.mp eb).1
   have es:ss[j]?=some (ss[j]'(by have:=sb.1;omega)):=eI _
   have Xd:=s4 _ _ (sb.2 j b _ eb es)
   rw[es]at iT
   walk_at "rc"
   walk_at "r"
   exact⟨b,p,rfl,_,S,Xd,s4 _ _ hp,by have:=ls _ (mh es);omega,λH5 s5=>iT _ rfl _ _ s5 rfl⟩
  have ev:=uO rl
  rw[bN,sb.1,qT (l:=ss) (g:=λs=>V.bl (iO s S)) λk hk=>by rw[eI hk];rfl]at ev
  subst ev
  refine⟨D,rfl,ss.map λs=>iO s S,by rw[tT,jr];rfl,?_⟩
  rw[um]
  exact q _ s4
local macro_rules | `(tactic| walk_at "rd") => `(tactic| walk_at "rc")
local macro_rules | `(tactic| walk_at "rl") => `(tactic| first | (refine fL fun R hR => ?_) | walk_at "ry" | (refine Nx.to (by assumption) _ _ ?_))
def Kp(N:Addr)(H H':Hp):Prop:=∀b o,b≠N->H b=some o->H' b=some o
theorem Kp.trans{N:Addr}{H H1 H2:Hp}(a:Kp N H H1)(b:Kp N H1 H2):Kp N H H2:=λc o hc e=>b c o hc (a c o hc e)
theorem Kp.of{N:Addr}{H H':Hp}(s:bB H H'):Kp N H H':=λb o _ e=>s b o e
structure m5(P:Program)(w:World)(K:PySem.W.Frag)(mg:Str->Option Value)(base:Heap)(k:Nat)(f N:Addr)(D:Nat->Hp->Prop)(dom:List Int->Prop)(tells:List Int->Bool):Prop where
 run:∃sp,rF P w K mg base k f sp/\∀n H p S Q,D n H->n<1000->H p=some (.tup (List.map V.int S))->dom S->(∀H',D (n+1) H'->Kp N H H'->Q (.bl (tells S)) H')->sp [.ref p] H Q E0
 fn:∀n H,D n H->Tn H f
 st:∀n H H',D n H->bB H H'->D n H'
 nt:∀n H xs,D n H->H N≠some (.tup xs)
theorem m5.tup{P:Program}{w:World}{K:PySem.W.Frag}{mg:Str->Option Value}{base:Heap}{k:Nat}{f N:Addr}{D:Nat->Hp->Prop}{dom:List Int->Prop}{tells:List Int->Bool}(a:m5 P w K mg base k f N D dom tells){n:Nat}{H H':Hp}(d:D n H)(kp:Kp N H H'){b:Addr}{xs:List V}(e:H b=some (.tup xs)):H' b=some (.tup xs):=
 kp b _ (λz=>a.nt n H xs d (by rw[<-z];exact e)) e
def eN(W c:List Int)(m:Int):List Int:=W.filter λz=>decide (z∈c\/z=m)
def fT(tells:List Int->Bool)(W ms c:List Int):List Int:=ms.foldl (λc m=>if tells (eN W c m)=true then eN W c m else c) c
theorem ig(W c:List Int)(m:Int):(eN W c m).Sublist W:=List.filter_sublist
theorem tU(tells:List Int->Bool)(W:List Int):∀(ms c:List Int),c.Sublist W->(fT tells W ms c).Sublist W
 | [],c,h=>h
 | m::ms,c,h=>by
  unfold fT
  rw[sv]
  refine tU tells W ms _ ?_
  by_cases e:tells (eN W c m)=true
  ·rw[aC e];exact ig W c m
  ·rw[aB e];exact h
theorem Hs{W c:List Int}{m:Int}(hW:nI W)(h:c.Sublist W)(hm:m∈c):eN W c m=c:=by
 refine u5 (hW.sublist (ig W c m)) (hW.sublist h) λz=>?_
 unfold eN
 rw[nU,yx]
 exact⟨λ⟨_,a⟩=>a.elim id λe=>e ▸ hm,λa=>⟨h.subset a,.inl a⟩⟩
theorem iW{tells:List Int->Bool}{W S:List Int}(hW:nI W):∀(ms c:List Int),c.Sublist W->(∀z∈S,z∈c)->fT tells W (cC ms S) c=fT tells W ms c
 | [],c,_,_=>rfl
 | m::ms,c,h,hS=>by
  unfold cC
  rw[List.filter_cons]
  have sub:∀z∈S,z∈eN W c m:=λz hz=>nU.mpr ⟨h.subset (hS z hz),decide_eq_true (.inl (hS z hz))⟩
  by_cases e:m∈S
  ·rw[aB (by simpa using e)]
   have:=iW (tells:=tells) (S:=S) hW ms c h hS
   unfold cC at this
   rw[this]
   show fT tells W ms c=fT tells W ms (if tells (eN W c m)=true then eN W c m else c)
   rw[Hs hW h (hS m e)]
   simp
  ·rw[aC (by simpa using e)]
   show fT tells W (cC ms S) (if tells (eN W c m)=true then eN W c m else c)=fT tells W ms (if tells (eN W c m)=true then eN W c m else c)
   by_cases e2:tells (eN W c m)=true
   ·rw[aC e2];exact iW hW ms _ (ig W c m) sub
   ·rw[aB e2];exact iW hW ms c h hS
def JV(P:Program)(w:World)(K:PySem.W.Frag)(mg:Str->Option Value)(base:Heap)(cN:Addr):Sp:=λvs H Q E=>∃U f p,vs=[.ref U,.ref f,.ref p]/\∃(N:Addr) (D:Nat->Hp->Prop) (dom:List Int->Prop) (tells:List Int->Bool) (n:Nat) (W S:List Int),
 m5 P w K mg base 8 f N D dom tells/\D n H/\H U=some (.tup (List.map V.int W))/\H p=some (.tup (List.map V.int S))/\nI W/\S.Sublist W/\W.length<=60/\n+W.length<900/\(∀T,T.Sublist W->dom T)/\
 (tells S=false->∀dx H',D (n+1) H'->Kp N H H'->H' dx=some (.xd [("part",.ref p)])->E (.ref cN) (some dx) H')/\
 (tells S=true->∀r H' n',n'<=n+1+W.length->D n' H'->Kp N H H'->H' r=some (.tup (List.map V.int (fT tells W W S)))->Q (.ref r) H')
theorem zq(T:Txt K mg t):cw P w K mg base eB 1 t.aQ t.dO bQ (qq t.au "part"):=by
 refine T.lO.wZ ko (λvs H Q E h=>?_) (λbE A outer s H vs Q E hr h hc hf=>?_)
 ·obtain⟨e,v,t,rfl,_⟩:=h;rfl
 obtain⟨e,v,t0,rfl,he,q⟩:=h
 refine⟨_,(by apply aq;exact(dj (wm T.dH T.dI T.dG (bS hc) T.eO (ae (ao hc 0) (ae Av ai))));exact az (v9 (ao hc 0) (ao hc 1) rfl)),?_⟩
 repeat (walk_at "rd")
 refine⟨t.au,t0,he,T.cH,λt'=>⟨t.au,t',rfl,T.cH,T.iD,λdx hd o6=>?_⟩⟩
 rw[ay o6]at hd
 exact q dx t' hd o6
theorem wY(T:Txt K mg t):cw P w K mg base (vX P w) 10 t.vQ t.vH ["whole","ask","part"] (JV P w K mg base t.au):=by
 have nJ:=BK (P:=P) (w:=w) (base:=base) T
 have Jm:=DN (P:=P) (w:=w) (base:=base) T
 have Ex:=zq (P:=P) (w:=w) (base:=base) T
 refine T.vW.Y8 jC (λvs H Q E h=>?_) (λbE A outer s H vs Q E hr h hc hf L Qi=>?_)
 ·obtain⟨U,f,p,rfl,_⟩:=h;rfl
 obtain⟨U,f,p,rfl,N,D,dom,tells,n,W,S,ask,hD,hU,hp,rW,sS,lW,ln,iU,qe,q⟩:=h
 have hu:=kS hr
 have KQ:=hr.gR
 refine⟨_,(by apply aq;exact(cz (jY (cF (jZ (k:=8) hr.mono (ao hc 1) (ae (ao hc 2) ai)))) (by exact az (pN (EH:=λ_=>E) T.cH T.iP T.iR T.iM Ex T.lL hr.mono (bS hc) T.nu rfl L (ao hc 2))) bx);apply aq;exact(aM hc jC.nd hf 3 (by decide +kernel) (ao hc 2));apply aq;exact(mn Qi rfl (fU (aF nJ hr.mono (bS hc) T.tN T.nM.kp T.uf .nil bD (ae (ao hc 0) (ae (ao hc 2) ai)))) (Fm hc jC.nd hf 4 (by decide +kernel)) (by apply aq;exact(aM hc jC.nd hf 5 (by decide +kernel) (aF Jm hr.mono (bS hc) T.Ht T.yp.kp T.Jc .nil bD (ae (aS Hi (ao hc 3) (iB (ae (ao hc 4) ai))) ai)));exact az (cz (cF (jZ (k:=8) hr.mono (ao hc 1) (ae (ao hc 5) ai))) (by exact az (aM hc jC.nd hf 3 (by decide +kernel) (ao hc 5))) bx)));exact az (aK (ao hc 3))),?_⟩
 walk_at "r"
 obtain⟨sp,Le,run⟩:=ask.run
 refine⟨ask.fn _ _ hD,ask.fn _ _ hD,sp,Le,run n H p S _ hD (by omega) hp (iU S sS) λH1 qS k1=>⟨_,rfl,?_⟩⟩
 have o5:=ask.tup hD k1 hp
 have hU1:=ask.tup hD k1 hU
 cases e0:tells S with
 | false=>
  rw[aC (by decide)]
  walk_at "r"
  intro dx K1
  have s2:=aD K1 (.xd [("part",V.ref p)])
  exact qe e0 dx _ (ask.st _ _ _ qS s2) (k1.trans (Kp.of s2)) ak
 | true=>
  rw[aB (by decide)]
  walk_at "r"
  refine⟨U,p,rfl,W,S,hU1,o5,by omega,λR H2 s2 hR hR2=>?_⟩
  walk_at "r"
  refine⟨⟨_,bG hR2⟩,?_⟩
  have lr:(cC W S).length<=W.length:=yH _ _
  have Jy:=ask.st _ _ _ qS s2
  have k2:=k1.trans (Kp.of s2)
  obtain⟨Pv,lH⟩:∃Pv:Nat->St->Hp->Prop,∀i σ' H',Pv i σ' H'↔∃(c:Addr) (x y:Option V),σ'=[some (.ref U),some (.ref f),some (.ref p),some (.ref c),x,y]/\D (n+1+i) H'/\Kp N H H'/\(H' R=some (.tup (List.map V.int (cC W S))))/\H' c=some (.tup (List.map V.int (fT tells W ((cC W S).take i) S))):=⟨_,λ_ _ _=>fw⟩
  refine lI (xs:=List.map V.int (cC W S)) Pv ((lH _ _ _).mpr ⟨p,none,none,rfl,Jy,k2,hR2,s2 _ _ o5⟩) (λi σ' H' _ pv=>?_) (λi z σ' H3 hz pv=>?_) (λσ' H3 pv=>?_)
  ·obtain⟨c,_,_,_,_,_,hR',_⟩:=(lH _ _ _).mp pv
   exact hR'
  ·obtain⟨c,x,y,rfl,Qu,k3,Sf,Qr⟩:=(lH _ _ _).mp pv
   obtain⟨m,em,rfl⟩:=int_at hz
   have hi:i<(cC W S).length:=(fQ.mp em).1
   have hmW:m∈W:=(nU.mp (mh em)).1
   have step:fT tells W ((cC W S).take (i+1)) S=if tells (eN W (fT tells W ((cC W S).take i) S) m)=true then eN W (fT tells W ((cC W S).take i) S) m else fT tells W ((cC W S).take i) S:=by
    unfold fT
    rw[pk,em,List.foldl_append]
    rfl
   have sub:=tU tells W ((cC W S).take i) S sS
   generalize fT tells W ((cC W S).take i) S=C at Qr step sub
   have lC:=sub.length_le
   walk_at "r"
   refine⟨by decide,λp1 o5=>?_⟩
   have s4:=aD o5 (.tup [V.int m])
   refine⟨_,s4 _ _ Qr,by rw[bN];exact dn (by omega),λp2 H5 s5 _ hp5=>?_⟩
   have s35:=s4.trans s5
   refine⟨p2,rfl,C++[m],by rw[hp5,g6];rfl,by rw[eL];simp;omega,λr ms H6 s6 _ Z4 rm mm=>?_⟩
   have Tw:=s35.trans s6
   have em2:ms=eN W C m:=u5 rm (rW.sublist (ig W C m)) λz=>by
    rw[mm]
    unfold eN
    rw[nU,yx,nR,di]
    exact⟨λh=>⟨h.elim (λa=>sub.subset a) λe=>e ▸ hmW,h⟩,λh=>h.2⟩
   subst em2
   have MF:=ask.st _ _ _ Qu Tw
   have k6:=k3.trans (Kp.of Tw)
   walk_at "r"
   refine⟨ask.fn _ _ MF,ask.fn _ _ MF,sp,Le,run _ H6 r _ _ MF (by omega) Z4 (iU _ (ig W C m)) λH7 hD7 k7=>⟨_,rfl,?_⟩⟩
   have hc7:=ask.tup MF k7 (Tw _ _ Qr)
   have hr7:=ask.tup MF k7 Z4
   have hR7:=ask.tup MF k7 (Tw _ _ Sf)
   have ZF:=k6.trans k7
   cases e5:tells (eN W C m) with
   | true=>
    rw[aC rfl]
    exact(lH _ _ _).mpr ⟨r,_,_,rfl,by rw[show n+1+(i+1)=n+1+i+1 by omega];exact hD7,ZF,hR7,by rw[step,e5,aC rfl];exact hr7⟩
   | false=>
    rw[aB (by decide)]
    exact(lH _ _ _).mpr ⟨c,_,_,rfl,by rw[show n+1+(i+1)=n+1+i+1 by omega];exact hD7,ZF,hR7,by rw[step,e5,aB (by decide)];exact hc7⟩
  obtain⟨c,x,y,rfl,Qu,k3,Sf,Qr⟩:=(lH _ _ _).mp pv
  rw[bN,pj,iW rW W S sS λz hz=>hz]at Qr
  rw[bN]at Qu
  walk_at "r"
  exact q e0 c H3 _ (by omega) Qu k3 Qr
local macro_rules | `(tactic| walk_at "rd") => `(tactic| walk_at "rc")
local macro_rules | `(tactic| walk_at "rl") => `(tactic| first | (refine fL fun R hR => ?_) | walk_at "ry" | (refine Nx.to (by assumption) _ _ ?_))
def fq(tells:List Int->Bool)(ms c:List Int):List Int:=ms.foldl (λc m=>if tells (cC c [m])=true then c else cC c [m]) c
theorem tG(c y:List Int):(cC c y).Sublist c:=List.filter_sublist
theorem og(tells:List Int->Bool):∀(ms c:List Int),(fq tells ms c).Sublist c
 | [],c=>uB _
 | m::ms,c=>by
  unfold fq
  rw[sv]
  refine(og tells ms _).trans ?_
  by_cases h:tells (cC c [m])=true
  ·rw[aC h];exact uB _
  ·rw[aB h];exact tG c [m]
def FZ(P:Program)(w:World)(K:PySem.W.Frag)(mg:Str->Option Value)(base:Heap)(cN:Addr):Sp:=λvs H Q E=>∃f p,vs=[.ref f,.ref p]/\∃(N:Addr) (D:Nat->Hp->Prop) (dom:List Int->Prop) (tells:List Int->Bool) (n:Nat) (S:List Int),
 m5 P w K mg base 8 f N D dom tells/\D n H/\H p=some (.tup (List.map V.int S))/\S.length<=100/\n+S.length<900/\(∀T,T.Sublist S->dom T)/\
 (tells S=true->∀dx H',D (n+1) H'->Kp N H H'->H' dx=some (.xd [("part",.ref p)])->E (.ref cN) (some dx) H')/\
 (tells S=false->∀r H',D (n+1+S.length) H'->Kp N H H'->H' r=some (.tup (List.map V.int (fq tells S S)))->Q (.ref r) H')
theorem zr(T:Txt K mg t):cw P w K mg base eB 1 t.aR t.dP bR (qq t.av "part"):=by
 refine T.lP.wZ kr (λvs H Q E h=>?_) (λbE A outer s H vs Q E hr h hc hf=>?_)
 ·obtain⟨e,v,t,rfl,_⟩:=h;rfl
 obtain⟨e,v,t0,rfl,he,q⟩:=h
 refine⟨_,(by apply aq;exact(dj (wm T.dH T.dI T.dG (bS hc) T.eO (ae (ao hc 0) (ae Av ai))));exact az (v9 (ao hc 0) (ao hc 1) rfl)),?_⟩
 repeat (walk_at "rd")
 refine⟨t.av,t0,he,T.cI,λt'=>⟨t.av,t',rfl,T.cI,T.iE,λdx hd o6=>?_⟩⟩
 rw[ay o6]at hd
 exact q dx t' hd o6
theorem tL(T:Txt K mg t):cw P w K mg base (vX P w) 10 t.rk t.qU ["ask","part"] (FZ P w K mg base t.av):=by
 have nJ:=BK (P:=P) (w:=w) (base:=base) T
 have Ey:=zr (P:=P) (w:=w) (base:=base) T
 refine T.rE.Y8 ia (λvs H Q E h=>?_) (λbE A outer s H vs Q E hr h hc hf L Qi=>?_)
 ·obtain⟨f,p,rfl,_⟩:=h;rfl
 obtain⟨f,p,rfl,N,D,dom,tells,n,S,ask,hD,hp,lS,ln,iU,qe,q⟩:=h
 have hu:=kS hr
 have KQ:=hr.gR
 refine⟨_,(by apply aq;exact(cz (cF (jZ (k:=8) hr.mono (ao hc 0) (ae (ao hc 1) ai))) (by exact az (pN (EH:=λ_=>E) T.cI T.iQ T.iS T.iN Ey T.lM hr.mono (bS hc) T.nv rfl L (ao hc 1))) bx);apply aq;exact(aM hc ia.nd hf 2 (by decide +kernel) (ao hc 1));apply aq;exact(mn Qi rfl (fU (ao hc 1)) (Fm hc ia.nd hf 3 (by decide +kernel)) (by apply aq;exact(aM hc ia.nd hf 4 (by decide +kernel) (aF nJ hr.mono (bS hc) T.tN T.nM.kp T.uf .nil bD (ae (ao hc 2) (ae (iB (ae (ao hc 3) ai)) ai))));exact az (cz (jY (cF (jZ (k:=8) hr.mono (ao hc 0) (ae (ao hc 4) ai)))) (by exact az (aM hc ia.nd hf 2 (by decide +kernel) (ao hc 4))) bx)));exact az (aK (ao hc 2))),?_⟩
 walk_at "r"
 obtain⟨sp,Le,run⟩:=ask.run
 refine⟨ask.fn _ _ hD,ask.fn _ _ hD,sp,Le,run n H p S _ hD (by omega) hp (iU S (uB _)) λH1 qS k1=>?_⟩
 have o5:=ask.tup hD k1 hp
 walk_at "r"
 cases e0:tells S with
 | true=>
  walk_at "r"
  intro dx K1
  have s2:=aD K1 (.xd [("part",V.ref p)])
  exact qe e0 dx _ (ask.st _ _ _ qS s2) (k1.trans (Kp.of s2)) ak
 | false=>
  walk_at "r"
  refine⟨⟨_,bG o5⟩,?_⟩
  obtain⟨Pv,lH⟩:∃Pv:Nat->St->Hp->Prop,∀i σ' H',Pv i σ' H'↔∃(c:Addr) (x y:Option V),σ'=[some (.ref f),some (.ref p),some (.ref c),x,y]/\D (n+1+i) H'/\Kp N H H'/\H' c=some (.tup (List.map V.int (fq tells (S.take i) S))):=⟨_,λ_ _ _=>fw⟩
  refine lI (xs:=List.map V.int S) Pv ((lH _ _ _).mpr ⟨p,none,none,rfl,qS,k1,o5⟩) (λi σ' H' _ pv=>?_) (λi z σ' H2 hz pv=>?_) (λσ' H2 pv=>?_)
  ·obtain⟨c,_,_,_,Jy,k2,_⟩:=(lH _ _ _).mp pv
   exact ask.tup hD k2 hp
  ·obtain⟨c,x,y,rfl,Jy,k2,Fb⟩:=(lH _ _ _).mp pv
   obtain⟨m,em,rfl⟩:=int_at hz
   have hi:i<S.length:=(fQ.mp em).1
   have step:fq tells (S.take (i+1)) S=if tells (cC (fq tells (S.take i) S) [m])=true then fq tells (S.take i) S else cC (fq tells (S.take i) S) [m]:=by
    unfold fq
    rw[pk,em,List.foldl_append]
    rfl
   have sub:=og tells (S.take i) S
   generalize fq tells (S.take i) S=C at Fb step sub
   have lC:=sub.length_le
   walk_at "r"
   refine⟨by decide,λp1 o5=>?_⟩
   have s3:=aD o5 (.tup [V.int m])
   have Mp:upd H2 p1 (.tup [V.int m]) p1=some (.tup (List.map V.int [m])):=ak
   generalize upd H2 p1 (.tup [V.int m])=H3 at s3 Mp ⊢
   refine⟨c,p1,rfl,C,[m],s3 _ _ Fb,Mp,by omega,λr H4 s4 hr4 er=>?_⟩
   have tT:=ask.st _ _ _ Jy (s3.trans s4)
   have k4:=k2.trans (Kp.of (s3.trans s4))
   walk_at "r"
   refine⟨ask.fn _ _ tT,ask.fn _ _ tT,sp,Le,run _ H4 r _ _ tT (by omega) er (iU _ ((tG C [m]).trans sub)) λH5 K7 k5=>⟨_,rfl,?_⟩⟩
   have hc5:=ask.tup tT k5 ((s3.trans s4) _ _ Fb)
   have hr5:=ask.tup tT k5 er
   have ZJ:=k4.trans k5
   cases e5:tells (cC C [m]) with
   | true=>
    rw[aB (by decide)]
    exact(lH _ _ _).mpr ⟨c,_,_,rfl,by rw[show n+1+(i+1)=n+1+i+1 by omega];exact K7,ZJ,by rw[step,e5,aC rfl];exact hc5⟩
   | false=>
    rw[aC (by decide)]
    exact(lH _ _ _).mpr ⟨r,_,_,rfl,by rw[show n+1+(i+1)=n+1+i+1 by omega];exact K7,ZJ,by rw[step,e5,aB (by decide)];exact hr5⟩
  obtain⟨c,x,y,rfl,Jy,k2,Fb⟩:=(lH _ _ _).mp pv
  rw[bN,pj]at Fb
  rw[bN]at Jy
  walk_at "r"
  exact q e0 c H2 Jy k2 Fb
local macro_rules | `(tactic| walk_at "rd") => `(tactic| walk_at "rc")
local macro_rules | `(tactic| walk_at "rl") => `(tactic| first | (refine fL fun R hR => ?_) | walk_at "ry" | (refine Nx.to (by assumption) _ _ ?_))
theorem iu.move{H H':Hp}{p:Addr}{W:List Int}{md:Md}(k:∀b o,H b=some o->(∀ps,o≠.ql ps)->(∀o',o≠gE o')->H' b=some o)(m:iu H p W md):iu H' p W md:=by
 cases md with
 | wt g most=>obtain⟨d,ks,h1,h2,h3⟩:=m;exact⟨d,ks,k _ _ h1 (by intro o z;cases z) (by intro o z;cases z),k _ _ h2 (by intro o z;cases z) (by intro o z;cases z),h3⟩
 | Jv ss=>obtain⟨l,bs,h1,h2,h3,h4⟩:=m;exact⟨l,bs,k _ _ h1 (by intro o z;cases z) (by intro o z;cases z),k _ _ h2 (by intro o z;cases z) (by intro o z;cases z),h3.mono λ_ _ e=>k _ _ e (by intro o z;cases z) (by intro o z;cases z),h4⟩
 | out ss=>obtain⟨l,bs,h1,h2,h3,h4⟩:=m;exact⟨l,bs,k _ _ h1 (by intro o z;cases z) (by intro o z;cases z),k _ _ h2 (by intro o z;cases z) (by intro o z;cases z),h3.mono λ_ _ e=>k _ _ e (by intro o z;cases z) (by intro o z;cases z),h4⟩
def Gf(f c':Addr)(fo oc:Obj)(cl:List (Str×Addr))(M:Addr):Sp:=λvs H Q _=>∃p,vs=[.ref p]/\H f=some (gE fo)/\H c'=some (gE oc)/\∃C,dD C H/\CellsOk C cl bt [.ref M]/\∃(md:Md) (W S:List Int),iu H M W md/\H p=some (.tup (List.map V.int S))/\S.length<=100/\(∀z∈S,z∈W)/\
 ∀H',bB H H'->Q (.bl (md.tells S)) H'
theorem Cq(T:Txt K mg t){f c' M:Addr}{oc:Obj}{Qb:Array Value}{tq:Tok}{qual:Str}{cl:List (Str×Addr)}{doc pm ctv:Value}(yr:oc.data=.fields Qb)(hq:Qb[1]?=some (.str qual tq))
  (HB:∀x c,cl.lookup x=some c->x∈bt) (inj:∀x y c,cl.lookup x=some c->cl.lookup y=some c->x=y) :
  rF P w K mg base 8 f (Gf f c' (PySem.W.fnMade "_law_ask" qual (aT aO) (aI aO) (ag aO) cl doc pm c' ctv) oc cl M):=by
 have eS:=qy (P:=P) (w:=w) (base:=base) T
 refine P0 (k:=7) (fo:=PySem.W.fnMade "_law_ask" qual (aT aO) (aI aO) (ag aO) cl doc pm c' ctv) (oc:=oc) (name:="_law_ask") (qual:=qual) (params:=aT aO) (body:=aI aO) (scope:=ag aO) (cl:=cl) (doc:=doc) (pm:=pm) (ctv:=ctv) (ps:=lA) (fr:=bt) rfl yr hq rfl rfl rfl (by decide +kernel) (by decide +kernel) (by decide +kernel) (by decide +kernel) (λx hx=>?_) HB inj (λus hu=>?_) λvs H Q E h=>?_
 ·have:freeOf (ag aO)=bt:=by decide +kernel
  rw[<-this]
  exact jk.mpr ⟨(x,.free),nU.mpr ⟨g9 hx,rfl⟩,rfl⟩
 ·match us,hu with
  | [_],_=>rfl
 obtain⟨p,rfl,hf,Pk,C,pin,Yu,md,W,S,ma,hp,lS,sub,q⟩:=h
 refine⟨C,[.ref M],rfl,hf,Pk,pin,rfl,Yu,λA outer s hr hc=>?_⟩
 refine⟨_,(by exact az (aK (aF eS hr.mono (bS hc) T.iJ T.fX.kp T.jc .nil bD (ae (ao hc 1) (ae (ao hc 0) ai))))),?_⟩
 walk_at "r"
 have out:∀{b:Addr} {o:HO},H b=some o->(∀o',o≠gE o')->bT C H b=some o:=λe n=>by rw[bq (pin.out e n)];exact e
 refine⟨M,p,rfl,md,W,S,ma.move λb o e _ np=>out e np,out hp (by intro o z;cases z),lS,sub,λH2 s2=>q _ λb o e=>?_⟩
 cases e1:C.lookup b with
 | some o'=>rw[pin b o' e1]at e;cases e;exact jd e1
 | none=>rw[bF e1];exact s2 _ _ (by rw[bq e1];exact e)
def Lw(C:List (Addr×Obj))(f c':Addr)(fo oc:Obj)(M:Addr)(x:List Int)(md:Md)(_:Nat)(H:Hp):Prop:=H f=some (gE fo)/\H c'=some (gE oc)/\dD C H/\iu H M x md
theorem Lk{f c' M:Addr}{fo oc:Obj}{fd:FuncData}{cl:List (Str×Addr)}{C:List (Addr×Obj)}{x:List Int}{md:Md}{dom:List Int->Prop}(W5:fo.data=.func fd)(Le:rF P w K mg base 8 f (Gf f c' fo oc cl M))(Yu:CellsOk C cl bt [.ref M])(iU:∀S,dom S->S.length<=100/\∀z∈S,z∈x) :
  m5 P w K mg base 8 f f (Lw C f c' fo oc M x md) dom md.tells:=by
 refine⟨⟨_,Le,λn H p S Q hD hn hp hS q=>?_⟩,λn H hD=>⟨fo,fd,hD.1,W5⟩,λn H H' hD s=>?_,λn H xs hD e=>?_⟩
 ·obtain⟨h1,h2,h3,h4⟩:=hD
  exact⟨p,rfl,h1,h2,C,h3,Yu,md,x,S,h4,hp,(iU S hS).1,(iU S hS).2,λH' s=>q H' ⟨s _ _ h1,s _ _ h2,λb o e=>s _ _ (h3 b o e),h4.same s⟩ (Kp.of s)⟩
 ·obtain⟨h1,h2,h3,h4⟩:=hD
  exact⟨s _ _ h1,s _ _ h2,λb o e=>s _ _ (h3 b o e),h4.same s⟩
 ·rw[hD.1]at e;cases e
local macro_rules | `(tactic| walk_at "rd") => `(tactic| walk_at "rc")
local macro_rules | `(tactic| walk_at "rl") => `(tactic| first | (refine fL fun R hR => ?_) | walk_at "ry" | (refine Nx.to (by assumption) _ _ ?_))
theorem xY{H:Hp}{e:Addr}{o:HO}(h:H e=none):fD (upd H e o) e=H:=by
 funext b
 by_cases hb:b=e
 ·rw[hb,cL,h]
 ·rw[cj hb,ay hb]
def Gb(P:Program)(w:World)(K:PySem.W.Frag)(mg:Str->Option Value)(base:Heap):Sp:=λvs H Q _=>∃U f p,vs=[.ref U,.ref f,.ref p]/\∃(N:Addr) (D:Nat->Hp->Prop) (dom:List Int->Prop) (tells:List Int->Bool) (n:Nat) (W S:List Int),
 m5 P w K mg base 8 f N D dom tells/\D n H/\H U=some (.tup (List.map V.int W))/\H p=some (.tup (List.map V.int S))/\nI W/\S.Sublist W/\W.length<=60/\n+W.length<900/\(∀T,T.Sublist W->dom T)/\∀n' H',n'<=n+1+W.length->D n' H'->Kp N H H'->Q (.bl (!tells S)) H'
def Dj(P:Program)(w:World)(K:PySem.W.Frag)(mg:Str->Option Value)(base:Heap):Sp:=λvs H Q _=>∃f p,vs=[.ref f,.ref p]/\∃(N:Addr) (D:Nat->Hp->Prop) (dom:List Int->Prop) (tells:List Int->Bool) (n:Nat) (S:List Int),
 m5 P w K mg base 8 f N D dom tells/\D n H/\H p=some (.tup (List.map V.int S))/\nI S/\S.length<=60/\n+S.length<900/\(∀T,T.Sublist S->dom T)/\∀n' H',n'<=n+1+S.length->D n' H'->Kp N H H'->Q (.bl (tells S)) H'
def Ge(P:Program)(w:World)(K:PySem.W.Frag)(mg:Str->Option Value)(base:Heap):Sp:=λvs H Q _=>∃U f p b,vs=[.ref U,.ref f,.ref p,.bl b]/\∃(N:Addr) (D:Nat->Hp->Prop) (dom:List Int->Prop) (tells:List Int->Bool) (n:Nat) (W S:List Int),
 m5 P w K mg base 8 f N D dom tells/\tells S=b/\D n H/\H U=some (.tup (List.map V.int W))/\H p=some (.tup (List.map V.int S))/\nI W/\S.Sublist W/\W.length<=60/\n+W.length<900/\(∀T,T.Sublist W->dom T)/\∀n' H',n'<=n+1+W.length->D n' H'->Kp N H H'->Q (.bl true) H'
theorem DP(T:Txt K mg t):cw P w K mg base eB 11 t.jh t.ja ["_law_whole","_law_ask_here","_law_part"] (Gb P w K mg base):=by
 have vR:=wY (P:=P) (w:=w) (base:=base) T
 have gZ:=wX (P:=P) (w:=w) (base:=base) T
 refine T.m4.wZ kP (λvs H Q E h=>?_) (λbE A outer s H vs Q E hr h hc hf=>?_)
 ·obtain⟨U,f,p,rfl,_⟩:=h;rfl
 obtain⟨U,f,p,rfl,N,D,dom,tells,n,W,S,ask,hD,hU,hp,rW,sS,lW,ln,iU,q⟩:=h
 have hu:=kS hr
 have KQ:=hr.gR
 refine⟨_,(by apply aq;exact(sN hc kP.nd 3 (by decide +kernel) rfl rfl T.cH.is (bS hc) T.nu (λEH xe pn L Qi=>(λhc hf=>(by exact az (dj (j3 (EH:=EH) vR hr.mono (bS hc) T.BM T.vW.kp T.Cu L (ae (ao hc 0) (ae (ao hc 1) (ae (ao hc 2) ai))))))) (R' (xe:=xe) (pn:=pn) hc) (R3 (xe:=xe) (pn:=pn) hf)) (λe=>(λhc hf=>(by apply aq;exact(cz (sQ (m7 (cF (aH (cQ (K:=K) rfl) (bS hc) T.aN bh (ae (ao hc 3) (ae (fC (v:=V.ref t.av) (bS hc) T.nv rfl) ai)))) (m7 (cF (aH (cQ (K:=K) rfl) (bS hc) T.aN bh (ae (ao hc 3) (ae (fC (v:=V.ref t.aU) (bS hc) T.tO rfl) ai)))) (oV (cF (aH (cQ (K:=K) rfl) (bS hc) T.aN bh (ae (ao hc 3) (ae (fC (v:=V.ref t.bA) (bS hc) T.xh rfl) ai)))))))) (by exact az (aK Aw)) bx);exact az (aK (iC (aH (cQ (K:=K) rfl) (bS hc) T.aN bh (ae (ao hc 3) (ae (fC (v:=V.ref t.aA) (bS hc) T.eO rfl) ai))) (iC (aH (oB (K:=K) rfl) (bS hc) T.aN bh (ae (ao hc 3) (ae (jv (v:=V.ty "ValueError") (bS hc) T.eM mV rfl) ai))) (iC (hV (BG hu) (mr (K:=K) rfl (ao hc 3) rfl) (ao hc 2) (cA _)) (uI (sO (a:=e) gZ rfl (hr.wJ (by omega)) (bS hc) T.kQ T.g0.kp T.kX bD (ae (mr (K:=K) rfl (ao hc 3) rfl) ai))))))))) (Xa (e:=e) hc) (W6 (e:=e) hf)));exact az (aK jw)),?_⟩
 walk_at "r"
 refine⟨λσ' C dx H'=>σ'=[some (.ref U),some (.ref f),some (.ref p),none]/\C=.ref t.au/\tells S=false/\D (n+1) H'/\Kp N H H'/\H' p=some (.tup (List.map V.int S))/\∃d,dx=some d/\H' d=some (.xd [("part",.ref p)]),?_,?_⟩
 ·refine⟨U,f,p,rfl,N,D,dom,tells,n,W,S,ask,hD,hU,hp,rW,sS,lW,ln,iU,λtS dx H1 qS k1 K1=>⟨rfl,rfl,tS,qS,k1,ask.tup hD k1 hp,dx,rfl,K1⟩,λtS r H1 n1 ln1 qS k1 _=>?_⟩
  walk_at "r"
  have:=q _ H1 ln1 qS k1
  rw[tS]at this
  exact this
 ·rintro σ' C dx H1 ⟨rfl,eC,tS,qS,k1,o5,d,rfl,W8⟩
  cases eC
  refine⟨T.cR,λe he=>?_⟩
  have s2:=aD he (.ext (kx e t.au (some d)))
  have oN:upd H1 e (.ext (kx e t.au (some d))) e=some (.ext (kx e t.au (some d))):=ak
  have hd2:=s2 _ _ W8
  have EY:=s2 _ _ o5
  have eD:fD (upd H1 e (.ext (kx e t.au (some d)))) e=H1:=xY he
  have xd:ui (upd H1 e (.ext (kx e t.au (some d)))) (some d):=λd' e'=>by cases e';exact⟨_,hd2⟩
  generalize upd H1 e (.ext (kx e t.au (some d)))=H2 at s2 oN hd2 EY eD xd ⊢
  walk_at "r"
  refine⟨_,_,oN,xd,T.cH,_,T.cU,?_⟩
  walk_at "r"
  refine⟨_,_,oN,xd,T.cH,_,T.cT,?_⟩
  walk_at "r"
  refine⟨_,_,oN,xd,T.cH,_,T.de,?_⟩
  walk_at "r"
  refine⟨_,_,oN,xd,T.cH,_,T.bZ,?_⟩
  walk_at "r"
  refine⟨_,_,oN,xd,T.cH,_,T.iK,?_⟩
  walk_at "r"
  refine⟨_,d,oN,T.cH,T.gk,_,hd2,_,rfl,p,rfl,S,EY,S,EY,?_⟩
  rw[aC rfl]
  refine⟨_,d,oN,T.cH,T.gk,_,hd2,_,rfl,_,_,oN,p,rfl,S,by rw[eD];exact o5,by have:=sS.length_le;omega,rW.sublist sS,λH3 s3 f3=>?_⟩
  rw[eD]at s3
  have s4:=s3.trans (aD f3 (.ext (kx e t.au (some d))))
  have:=q (n+1) _ (by omega) (ask.st _ _ _ qS s4) (k1.trans (Kp.of s4))
  rw[tS]at this
  exact this
theorem zp(T:Txt K mg t):cw P w K mg base eB 11 t.gX t.gU ["_law_ask_here","_law_part"] (Dj P w K mg base):=by
 have rB:=tL (P:=P) (w:=w) (base:=base) T
 have gZ:=wX (P:=P) (w:=w) (base:=base) T
 refine T.lg.wZ jD (λvs H Q E h=>?_) (λbE A outer s H vs Q E hr h hc hf=>?_)
 ·obtain⟨f,p,rfl,_⟩:=h;rfl
 obtain⟨f,p,rfl,N,D,dom,tells,n,S,ask,hD,hp,rS,lS,ln,iU,q⟩:=h
 have hu:=kS hr
 have KQ:=hr.gR
 refine⟨_,(by apply aq;exact(sN hc jD.nd 2 (by decide +kernel) rfl rfl T.cI.is (bS hc) T.nv (λEH xe pn L Qi=>(λhc hf=>(by exact az (dj (j3 (EH:=EH) rB hr.mono (bS hc) T.xc T.rE.kp T.yd L (ae (ao hc 0) (ae (ao hc 1) ai)))))) (R' (xe:=xe) (pn:=pn) hc) (R3 (xe:=xe) (pn:=pn) hf)) (λe=>(λhc hf=>(by apply aq;exact(cz (sQ (m7 (cF (aH (cQ (K:=K) rfl) (bS hc) T.aN bh (ae (ao hc 2) (ae (fC (v:=V.ref t.au) (bS hc) T.nu rfl) ai)))) (m7 (cF (aH (cQ (K:=K) rfl) (bS hc) T.aN bh (ae (ao hc 2) (ae (fC (v:=V.ref t.aU) (bS hc) T.tO rfl) ai)))) (oV (cF (aH (cQ (K:=K) rfl) (bS hc) T.aN bh (ae (ao hc 2) (ae (fC (v:=V.ref t.bA) (bS hc) T.xh rfl) ai)))))))) (by exact az (aK Aw)) bx);exact az (aK (iC (aH (cQ (K:=K) rfl) (bS hc) T.aN bh (ae (ao hc 2) (ae (fC (v:=V.ref t.aA) (bS hc) T.eO rfl) ai))) (iC (aH (oB (K:=K) rfl) (bS hc) T.aN bh (ae (ao hc 2) (ae (jv (v:=V.ty "ValueError") (bS hc) T.eM mV rfl) ai))) (iC (hV (BG hu) (mr (K:=K) rfl (ao hc 2) rfl) (ao hc 1) (cA _)) (uI (sO (a:=e) gZ rfl (hr.wJ (by omega)) (bS hc) T.kQ T.g0.kp T.kX bD (ae (mr (K:=K) rfl (ao hc 2) rfl) ai))))))))) (Xa (e:=e) hc) (W6 (e:=e) hf)));exact az (aK jw)),?_⟩
 walk_at "r"
 refine⟨λσ' C dx H'=>σ'=[some (.ref f),some (.ref p),none]/\C=.ref t.av/\tells S=true/\D (n+1) H'/\Kp N H H'/\H' p=some (.tup (List.map V.int S))/\∃d,dx=some d/\H' d=some (.xd [("part",.ref p)]),?_,?_⟩
 ·refine⟨f,p,rfl,N,D,dom,tells,n,S,ask,hD,hp,by omega,ln,iU,λtS dx H1 qS k1 K1=>⟨rfl,rfl,tS,qS,k1,ask.tup hD k1 hp,dx,rfl,K1⟩,λtS r H1 qS k1 _=>?_⟩
  walk_at "r"
  have:=q _ H1 (bu _) qS k1
  rw[tS]at this
  exact this
 ·rintro σ' C dx H1 ⟨rfl,eC,tS,qS,k1,o5,d,rfl,W8⟩
  cases eC
  refine⟨T.cS,λe he=>?_⟩
  have s2:=aD he (.ext (kx e t.av (some d)))
  have oN:upd H1 e (.ext (kx e t.av (some d))) e=some (.ext (kx e t.av (some d))):=ak
  have hd2:=s2 _ _ W8
  have EY:=s2 _ _ o5
  have eD:fD (upd H1 e (.ext (kx e t.av (some d)))) e=H1:=xY he
  have xd:ui (upd H1 e (.ext (kx e t.av (some d)))) (some d):=λd' e'=>by cases e';exact⟨_,hd2⟩
  generalize upd H1 e (.ext (kx e t.av (some d)))=H2 at s2 oN hd2 EY eD xd ⊢
  walk_at "r"
  refine⟨_,_,oN,xd,T.cI,_,T.cW,?_⟩
  walk_at "r"
  refine⟨_,_,oN,xd,T.cI,_,T.cV,?_⟩
  walk_at "r"
  refine⟨_,_,oN,xd,T.cI,_,T.df,?_⟩
  walk_at "r"
  refine⟨_,_,oN,xd,T.cI,_,T.cg,?_⟩
  walk_at "r"
  refine⟨_,_,oN,xd,T.cI,_,T.iL,?_⟩
  walk_at "r"
  refine⟨_,d,oN,T.cI,T.gp,_,hd2,_,rfl,p,rfl,S,EY,S,EY,?_⟩
  rw[aC rfl]
  refine⟨_,d,oN,T.cI,T.gp,_,hd2,_,rfl,_,_,oN,p,rfl,S,by rw[eD];exact o5,by omega,rS,λH3 s3 f3=>?_⟩
  rw[eD]at s3
  have s4:=s3.trans (aD f3 (.ext (kx e t.av (some d))))
  have:=q (n+1) _ (by omega) (ask.st _ _ _ qS s4) (k1.trans (Kp.of s4))
  rw[tS]at this
  exact this
theorem DQ(T:Txt K mg t):cw P w K mg base eB 11 t.gB t.gy ["_law_whole","_law_ask_here","_law_part","_law_peaceful"] (Ge P w K mg base):=by
 have vR:=wY (P:=P) (w:=w) (base:=base) T
 have rB:=tL (P:=P) (w:=w) (base:=base) T
 refine T.jX.wZ oG (λvs H Q E h=>?_) (λbE A outer s H vs Q E hr h hc hf=>?_)
 ·obtain⟨U,f,p,b,rfl,_⟩:=h;rfl
 obtain⟨U,f,p,b,rfl,N,D,dom,tells,n,W,S,ask,tS,hD,hU,hp,rW,sS,lW,ln,iU,q⟩:=h
 have hu:=kS hr
 have KQ:=hr.gR
 have lS:=sS.length_le
 refine⟨_,(by apply aq;exact(Fj rfl rfl T.uN.is (bS hc) T.eO (λEH xe pn L Qi=>(λhc hf=>(by exact az (cz (cF (ao hc 3)) (by exact az (dj (j3 (EH:=EH) rB hr.mono (bS hc) T.xc T.rE.kp T.yd L (ae (ao hc 1) (ae (ao hc 2) ai))))) (by exact az (dj (j3 (EH:=EH) vR hr.mono (bS hc) T.BM T.vW.kp T.Cu L (ae (ao hc 0) (ae (ao hc 1) (ae (ao hc 2) ai))))))))) (R' (xe:=xe) (pn:=pn) hc) (R3 (xe:=xe) (pn:=pn) hf)) (λe=>(λhc hf=>(by exact az (aK jw))) (Xa (e:=e) hc) (W6 (e:=e) hf)));exact az (aK jw)),?_⟩
 walk_at "r"
 refine⟨λσ' C dx H'=>(C=.ref t.au\/C=.ref t.av)/\D (n+1) H'/\Kp N H H',?_,?_⟩
 ·walk_at "r"
  cases b with
  | true=>
   rw[aC rfl]
   walk_at "r"
   refine⟨f,p,rfl,N,D,dom,tells,n,S,ask,hD,hp,by omega,by omega,λT hT=>iU T (hT.trans sS),λ_ dx H1 qS k1 _=>⟨.inr rfl,qS,k1⟩,λz=>?_⟩
   rw[tS]at z;cases z
  | false=>
   rw[aB (by decide)]
   walk_at "r"
   refine⟨U,f,p,rfl,N,D,dom,tells,n,W,S,ask,hD,hU,hp,rW,sS,lW,ln,iU,λ_ dx H1 qS k1 _=>⟨.inl rfl,qS,k1⟩,λz=>?_⟩
   rw[tS]at z;cases z
 ·rintro σ' C dx H1 ⟨eC,qS,k1⟩
  have sb:PySem.W.subIn K (.ref C) (.ref t.aA)=some true:=by
   rcases eC with eC | eC <;> cases eC
   ·exact T.bX
   ·exact T.bY
  refine⟨sb,λe he=>?_⟩
  have s2:=aD he (.ext (kx e C dx))
  walk_at "r"
  exact q (n+1) _ (by omega) (ask.st _ _ _ qS s2) (k1.trans (Kp.of s2))
local macro_rules | `(tactic| walk_at "rd") => `(tactic| walk_at "rc")
local macro_rules | `(tactic| walk_at "rl") => `(tactic| first | (refine fL fun R hR => ?_) | walk_at "ry" | (refine Nx.to (by assumption) _ _ ?_))
def JR:Sp:=λvs H Q _=>∃m p,vs=[.ref m,.ref p]/\∃(md:Md) (x S:List Int) (L:Addr) (zs:List V),H L=some (.lst zs)/\iu (fD H L) m x md/\H p=some (.tup (List.map V.int S))/\S.length<=100/\(∀z∈S,z∈x)/\∀R Rw H',bB H H'->iu (fD H' L) R x Rw->Q (.ref R) H'
theorem e9{H:Hp}{L:Addr}:bB (fD H L) H:=λb o e=>by
 by_cases h:b=L
 ·rw[h,cL]at e;cases e
 ·rw[cj h]at e;exact e
theorem vG{H:Hp}{L b:Addr}{o u:HO}(hL:H L=some u)(n:o≠u)(e:H b=some o):fD H L b=some o:=by
 rw[cj (qB e hL n)];exact e
theorem z6{H H':Hp}{L:Addr}(s:bB H H'):bB (fD H L) (fD H' L):=λb o e=>by
 by_cases h:b=L
 ·rw[h,cL]at e;cases e
 ·rw[cj h]at e ⊢;exact s _ _ e
theorem Gj{H:Hp}{p:Addr}{S:List Int}(h:H p=some (.tup (List.map V.int S))):bM H [p] [S]:=⟨rfl,λj c u e1 e2=>by
 match j,e1,e2 with
 | 0,e1,e2=>cases e1;cases e2;exact h
 | _+1,e1,_=>cases e1⟩
theorem Hk(T:Txt K mg t):cw P w K mg base eB 3 t.jf t.iY ["_law_model_here","_law_part"] JR:=by
 have eS:=qy (P:=P) (w:=w) (base:=base) T
 refine T.mY.wZ rN (λvs H Q E h=>?_) (λbE A outer s H vs Q E hr h hc hf=>?_)
 ·obtain⟨m,p,rfl,_⟩:=h;rfl
 obtain⟨m,p,rfl,md,x,S,L,zs,hL,ma,hp,lS,sub,q⟩:=h
 have hu:=kS hr
 have KQ:=hr.gR
 refine⟨_,(by apply aq;exact(cz (cF (aF eS hr.mono (bS hc) T.iJ T.fX.kp T.jc .nil bD (ae (ao hc 0) (ae (ao hc 1) ai)))) (by exact az (aK (iB (ae ah (ae (fk (ae (ao hc 1) ai)) (ae ah ai)))))) bx);apply aq;exact(cz (bK mO (aX oK (ao hc 0) ah (λ_ _=>rfl)) ah (cA _)) (by exact az (aK (iB (ae ah (ae (aX oK (ao hc 0) ah (λ_ _=>rfl)) (ae (aH (t6 hr.hd) (bS hc) T.wo MN (ae (dU hc ["_law_one"] [0] rfl (by decide +kernel) (fU (ao hc 1)) (λ_ hc=>pQ hc (by decide +kernel) 0 (by decide +kernel)) (λ_ _=>dS) (λ_ hc=>(wj hu (aX oK (ao hc 1) ah (λ_ _=>rfl)) (ao hc 0) (λ_ _=>rfl)))) ai)) ai)))))) bx);exact az (aK (iB (ae ah (ae (fk (ae (ao hc 1) ai)) (ae ah ai)))))),?_⟩
 walk_at "r"
 refine⟨m,p,rfl,md,x,S,ma.same e9,hp,lS,sub,λH1 s1=>⟨_,rfl,?_⟩⟩
 have V':=ma.same (z6 s1)
 have Pt:=s1 _ _ hL
 have o5:=s1 _ _ hp
 have pair:∀(v:Int) (Rw:Md),(∀(H3:Hp) (l r:Addr),H3 r=some (.tup [V.int v,V.ref l,V.int 0])->H3 l=some (.lst (List.map V.ref [p]))->bM H3 [p] [S]->iu H3 r x Rw)->1<=sizeLine/\∀l,H1 l=none->3<=sizeLine/\∀r,upd H1 l (.lst [V.ref p]) r=none->Q (.ref r) (upd (upd H1 l (.lst [V.ref p])) r (.tup [V.int v,V.ref l,V.int 0])):=λv Rw hm=>by
  refine⟨by decide,λl hl=>⟨by decide,λr hr=>?_⟩⟩
  have s2:=aD hl (.lst [V.ref p])
  have s3:=aD hr (.tup [V.int v,V.ref l,V.int 0])
  have Bm:=s2.trans s3
  have Xn:=Bm _ _ Pt
  have ll:l≠L:=(aG Pt hl).symm
  have rl:r≠L:=(aG (s2 _ _ Pt) hr).symm
  exact q r Rw _ (s1.trans Bm) (hm _ l r (by rw[cj rl];exact ak) (by rw[cj ll];exact s3 _ _ ak) (Gj (vG Xn (by intro z;cases z) (Bm _ _ o5))))
 have small:∀s∈[S],s.length<=100:=λs hs=>by rw[di.mp hs];exact lS
 cases md.tells S with
 | true=>
  rw[aC rfl]
  walk_at "r"
  exact pair 1 (.out [S]) λH3 l r h1 h2 h3=>⟨l,[p],h1,h2,h3,by simp,small⟩
 | false=>
  rw[aB (by decide)]
  cases md with
  | wt g most=>
   obtain⟨d,ks,KZ,Ph,hk⟩:=V'
   have hm:=e9 _ _ KZ
   have hd:=e9 _ _ Ph
   repeat (first | walk_at "rl" | simp only[hm])
   refine⟨⟨_,bG o5⟩,?_⟩
   refine kg (zs:=List.map V.int S) (λj=>S[j]?.map g) (λ_ _ v d=>v=V.int d) (λ_ _ _ _ _ _ r=>r) (λ_ _ _ _ _ _ _ r=>r) o5 (by rw[bN];omega) (λDD c H4 j z yes no hj s4 Si Sh iT KY=>?_) (λD H4 vs s4 hD tT rl=>?_)
   ·obtain⟨n,en,rfl⟩:=int_at hj
    rw[en]at iT
    have RV:=s4 _ _ hm
    walk_at "rc"
    repeat (first | walk_at "rl" | simp only[RV,Be])
    refine⟨.int (g n),?_,iT _ rfl _ _ (λ_ _ e=>e) rfl⟩
    have:=Ar.k (k:=Sum.inl n) (s4 _ _ hd)
    rw[o8,aC (hk n (sub n (mh en)))]at this
    exact this
   have ev:=vD rl
   rw[bN,qT (l:=S) (g:=g) λk hk=>by rw[eI hk];rfl]at ev
   subst ev
   walk_at "r"
   refine⟨_,tT,by decide,λr hr=>?_⟩
   have s5:=aD hr (.tup [V.int 2,V.ref d,V.int (S.map g).sum])
   have Y3:=s4.trans s5
   exact q r (.wt g (S.map g).sum) _ (s1.trans Y3) ⟨d,ks,by rw[cj (aG (s4 _ _ Pt) hr).symm];exact ak,z6 Y3 _ _ Ph,hk⟩
  | Jv ss=>
   obtain⟨l,bs,KZ,hl,sb,l9,ls⟩:=V'
   have hm:=e9 _ _ KZ
   repeat (first | walk_at "rl" | simp only[hm])
   exact pair 0 (.Jv [S]) λH3 l r h1 h2 h3=>⟨l,[p],h1,h2,h3,by simp,small⟩
  | out ss=>
   obtain⟨l,bs,KZ,hl,sb,l9,ls⟩:=V'
   have hm:=e9 _ _ KZ
   repeat (first | walk_at "rl" | simp only[hm])
   exact pair 0 (.Jv [S]) λH3 l r h1 h2 h3=>⟨l,[p],h1,h2,h3,by simp,small⟩
local macro_rules | `(tactic| walk_at "rd") => `(tactic| walk_at "rc")
local macro_rules | `(tactic| walk_at "rl") => `(tactic| first | (refine fL fun R hR => ?_) | walk_at "ry" | (refine Nx.to (by assumption) _ _ ?_))
theorem Hn{h b:Addr}{H:Hp}{bs:List Addr}(x:dQ H h)(e:H b=some (.lst (List.map V.ref bs))):b≠h:=by
 obtain⟨l,ns,o,e1,⟨_,_,_,_,_,rfl,_⟩,_⟩:=x
 intro z
 rw[z,e1]at e
 cases bs with
 | nil=>cases e
 | cons c bs=>cases bs <;> cases e
theorem iu.dr{h L:Addr}{B H:Hp}{p:Addr}{W:List Int}{md:Md}(hd:dQ B h)(d:Dr h B H)(m:iu (fD B L) p W md):iu (fD H L) p W md:=by
 have k:∀{b:Addr} {o:HO},fD B L b=some o->b≠h->fD H L b=some o:=λ{b o} e nb=>by
  by_cases hb:b=L
  ·rw[hb,cL]at e;cases e
  ·rw[cj hb]at e ⊢;exact d.keep _ _ nb e
 have nd:∀{b:Addr} {aJ:List (Key×V)},fD B L b=some (.dK aJ)->b≠h:=λ{b aJ} e z=>by
  obtain⟨l,ns,o,e1,⟨_,_,_,_,_,rfl,_⟩,_⟩:=hd
  have e:=e9 _ _ e
  rw[z,e1]at e;cases e
 cases md with
 | wt g most=>obtain⟨d',ks,h1,h2,h3⟩:=m;exact⟨d',ks,k h1 (hd.lE (e9 _ _ h1)),k h2 (nd h2),h3⟩
 | Jv ss=>obtain⟨l,bs,h1,h2,h3,h4⟩:=m;exact⟨l,bs,k h1 (hd.lE (e9 _ _ h1)),k h2 (Hn hd (e9 _ _ h2)),h3.mono λ_ _ e=>k e (hd.lE (e9 _ _ e)),h4⟩
 | out ss=>obtain⟨l,bs,h1,h2,h3,h4⟩:=m;exact⟨l,bs,k h1 (hd.lE (e9 _ _ h1)),k h2 (Hn hd (e9 _ _ h2)),h3.mono λ_ _ e=>k e (hd.lE (e9 _ _ e)),h4⟩
abbrev Kj:Pos:={ line:=159,col:=8,endLine:=160,endCol:=62 }
def Eu(H:Hp)(pT:Addr)(qual:Str):Prop:=∃tb,H pT=some (.ql tb)/\TriplesOk tb.toList/\(codeAmong Kj tb.toList=none\/∃c' oc vs tq,codeAmong Kj tb.toList=some (.ref c')/\H c'=some (gE oc)/\oc.data=.fields vs/\vs[1]?=some (.str qual tq))
theorem Eu.same{H H':Hp}{pT:Addr}{qual:Str}(s:bB H H')(x:Eu H pT qual):Eu H' pT qual:=by
 obtain⟨tb,h1,h2,h3⟩:=x
 refine⟨tb,s _ _ h1,h2,?_⟩
 rcases h3 with h3 | ⟨c',oc,vs,tq,a,b,c⟩
 ·exact .inl h3
 ·exact .inr ⟨c',oc,vs,tq,a,s _ _ b,c⟩
def Bg(K:PySem.W.Frag)(pT:Addr):Sp:=λvs H Q _=>∃(a:Addr) (ns:List Int),vs=[.ref a]/\lU K H a (List.map V.int ns)/\ns.length<=63/\H pT=some (.ql #[])/\∀H',Q (.bl true) H'
theorem Od(T:Txt K mg t){c pT:Addr}(ou:t.Cj.code=.ref c)(hC:PySem.W.CodeHd base c pT)(hB:BMain mg base):cw P w K mg base eB 13 t.CG t.Cj ["_law_script"] (Bg K pT):=by
 have yo:=Ky (P:=P) (w:=w) (base:=base) T
 have rC:=zm (P:=P) (w:=w) (base:=base) T
 have jU:=BJ (P:=P) (w:=w) (base:=base) T
 have vT:=Hl (P:=P) (w:=w) (base:=base) T
 have eS:=qy (P:=P) (w:=w) (base:=base) T
 have vS:=Hk (P:=P) (w:=w) (base:=base) T
 have vU:=DP (P:=P) (w:=w) (base:=base) T
 have sm:=zp (P:=P) (w:=w) (base:=base) T
 have rD:=DQ (P:=P) (w:=w) (base:=base) T
 refine T.Tp.Vt jB (λvs H Q E h=>?_) (λbE A outer s H vs Q E hcv hr h hc hf=>?_)
 ·obtain⟨a,ns,rfl,_⟩:=h;rfl
 obtain⟨a,ns,rfl,hS,h63,hT,q⟩:=h
 have nA:bE=.ref c:=by rw[<-hcv];exact ou
 have hu:=kS hr
 have KQ:=hr.gR
 refine⟨_,(by apply aq;exact(aM hc jB.nd hf 1 (by decide +kernel) (aF yo hr.mono (bS hc) T.xg T.oF.kp T.yg .nil bD (ae (ao hc 0) ai)));apply aq;exact(aM hc jB.nd hf 2 (by decide +kernel) (aF rC hr.mono (bS hc) T.qC T.jW.kp T.qZ .nil bD (ae (ao hc 1) (ae ah ai))));apply aq;exact(aM hc jB.nd hf 3 (by decide +kernel) (fk (ae (aF vT hr.mono (bS hc) T.vB T.mZ.kp T.vN .nil bD (ae (ao hc 1) (ae (ao hc 2) ai))) ai)));apply aq;exact(aM hc jB.nd hf 4 (by decide +kernel) (aF jU hr.mono (bS hc) T.oi T.jV.kp T.oC .nil bD (ae (ao hc 1) (ae (ao hc 2) ai))));apply aq;exact(dj (Fn PySem.F.plainAttrs_list PySem.F.slot_list_append PySem.F.type_list_append ka (ao hc 3) (ae (aF vS hr.mono (bS hc) T.vA T.mY.kp T.vM .nil bD (ae (aX gq (ao hc 3) ah (λ_ _=>rfl)) (ae (ao hc 4) ai))) ai)));apply aq;exact(mn ur rfl (pP (fk (ae (aX gq (ao hc 3) ah (λ_ _=>rfl)) (ae (aX gq (ao hc 3) ah (λ_ _=>rfl)) (ae (aX gq (ao hc 3) ah (λ_ _=>rfl)) ai))))) (Fm hc jB.nd hf 5 (by decide +kernel)) (by apply aq;exact(CV (fr:=bt) hc jB.nd hf 6 (by decide +kernel) nA hC hB rfl (by decide +kernel) (by decide +kernel) rfl rfl rfl);apply aq;exact(aM hc jB.nd hf 7 (by decide +kernel) (aF eS hr.mono (bS hc) T.iJ T.fX.kp T.jc .nil bD (ae (ao hc 5) (ae (ao hc 4) ai))));apply aq;exact(cz (sQ (m7 (bK Hf (nc (xs:=[(5,"_law_model_here")]) (cells:=cellsFrom (s.heap.objs.size+1) (ag fS).names []) (EH:=λ_=>E0) rfl vU.toE hr.mono (bS hc) T.vC T.m4.kp T.vO zH hf (zS hc (by decide +kernel)) (ae (ao hc 2) (ae (ao hc 6) (ae (ao hc 4) ai)))) (uJ (ao hc 7)) (cA _)) (oV (bK Hf (nc (xs:=[(5,"_law_model_here")]) (cells:=cellsFrom (s.heap.objs.size+1) (ag fS).names []) (EH:=λ_=>E0) rfl sm.toE hr.mono (bS hc) T.rV T.lg.kp T.sg zH hf (zS hc (by decide +kernel)) (ae (ao hc 6) (ae (ao hc 4) ai))) (ao hc 7) (cA _))))) (by exact az (aK jw)) bx);exact az (cz (jY (cF (nc (xs:=[(5,"_law_model_here")]) (cells:=cellsFrom (s.heap.objs.size+1) (ag fS).names []) (EH:=λ_=>E0) rfl rD.toE hr.mono (bS hc) T.qD T.jX.kp T.q0 zH hf (zS hc (by decide +kernel)) (ae (ao hc 2) (ae (ao hc 6) (ae (ao hc 4) (ae (ao hc 7) ai))))))) (by exact az (aK jw)) bx)));exact az (aK jw)),?_⟩
 walk_at "r"
 refine⟨a,ns,rfl,hS,λh H1 s1 h0 hd=>?_⟩
 walk_at "r"
 refine⟨h,_,rfl,6,rfl,by decide,hd,λW x H4 d4 hW Qs lx rise=>?_⟩
 have Fc:=(d4.eR hd).lE Qs
 have ndx:x.Nodup:=rise.imp λh=>Int.ne_of_lt h
 walk_at "r"
 refine⟨h,W,rfl,d4.eR hd,x,Qs,by omega,ndx,λM md H5 d5 hM md5=>?_⟩
 have Yh:=d4.trans d5
 have Xh:pT≠h:=aG hT h0
 have hT5:=Yh.keep _ _ Xh (s1 _ _ hT)
 have Pq:=d5.keep _ _ Fc Qs
 walk_at "r"
 refine⟨by decide,λL hL=>?_⟩
 have Qf:=aD hL (.lst [V.ref M])
 have Pr:upd H5 L (.lst [V.ref M]) L=some (.lst [V.ref M]):=ak
 have Yg:Dr h H1 (upd H5 L (.lst [V.ref M])):=Yh.new hL
 have Xi:=Qf _ _ hT5
 have V9:iu (fD (upd H5 L (.lst [V.ref M])) L) M x md:=md5.same λb o e=>by rw[cj (aG e hL)];exact Qf _ _ e
 generalize upd H5 L (.lst [V.ref M])=H6 at Qf Pr Yg Xi V9 ⊢
 have Qp:=Yg.eR hd
 walk_at "r"
 refine⟨h,W,rfl,Qp,x,Qf _ _ Pq,by omega,λp S H7 d7 hp WK sS=>?_⟩
 have V8:=V9.dr Qp d7
 have hT7:=d7.keep _ _ Xh Xi
 have Mx:=d7.keep _ _ Fc (Qf _ _ Pq)
 have Mz:=d7.keep _ _ (Hn (bs:=[M]) Qp Pr) Pr
 have lS:=sS.length_le
 have sub:∀z∈S,z∈x:=λz hz=>sS.subset hz
 clear d7 Qp Yg Yh d5 d4 hd Pr Xi V9 hT5 md5 Pq Qs Qf hL hM hW hp Xh Fc h0 s1
 walk_at "r"
 refine⟨.inl ⟨rfl,_,dk Mz⟩,?_⟩
 repeat (first | walk_at "rl" | simp only[Mz])
 refine⟨M,p,rfl,md,x,S,L,_,Mz,V8,WK,by omega,sub,λM2 Zi H8 s8 Zg=>⟨_,s8 _ _ Mz,by show 1<sizeLine;decide,?_⟩⟩
 have toL:bB (fD H8 L) (upd H8 L (.lst ([V.ref M]++[V.ref M2]))):=λb o e=>by
  by_cases hb:b=L
  ·rw[hb,cL]at e;cases e
  ·rw[cj hb]at e;exact(ay hb).trans e
 have hL9:upd H8 L (.lst ([V.ref M]++[V.ref M2])) L=some (.lst [V.ref M,V.ref M2]):=ak
 have Zm:=(V8.same (z6 s8)).same toL
 have Zk:=Zg.same toL
 have Se:=toL _ _ (vG (s8 _ _ Mz) (by intro z;cases z) (s8 _ _ Mx))
 have Z7:=toL _ _ (vG (s8 _ _ Mz) (by intro z;cases z) (s8 _ _ WK))
 have hT9:=toL _ _ (vG (s8 _ _ Mz) (by intro z;cases z) (s8 _ _ hT7))
 generalize upd H8 L (.lst ([V.ref M]++[V.ref M2]))=H9 at hL9 Zm Zk Se Z7 hT9 ⊢
 clear toL Zg s8 Mz Mx WK hT7 V8
 repeat (first | walk_at "rl" | simp only[hL9])
 refine⟨by decide,λZ hZ=>?_⟩
 have Dq:=aD hZ (.lst [V.ref M,V.ref M2,V.ref M])
 have Pp:upd H9 Z (.lst [V.ref M,V.ref M2,V.ref M]) Z=some (.lst [V.ref M,V.ref M2,V.ref M]):=ak
 generalize upd H9 Z (.lst [V.ref M,V.ref M2,V.ref M])=Jl at Dq Pp ⊢
 refine⟨⟨_,dk Pp⟩,?_⟩
 obtain⟨qL,Z5⟩:∃qL,qL=qualnameIn (cM eB P w K mg base Hq (Str.ofString "law") (ag fS) t.CG bE A outer s H E).zu.env (Str.ofString "_law_ask") (Str.ofString "_law_ask"):=⟨_,rfl⟩
 obtain⟨Fx,K6⟩:∃Fx:Hp->Prop,∀H',Fx H'↔H' W=some (.tup (List.map V.int x))/\H' p=some (.tup (List.map V.int S))/\iu H' M x md/\iu H' M2 x Zi/\H' Z=some (.lst [V.ref M,V.ref M2,V.ref M]):=⟨_,λ_=>fw⟩
 have Xw:∀{H' H2:Hp},(∀b o,H' b=some o->(∀ps,o≠.ql ps)->H2 b=some o)->Fx H'->Fx H2:=λ{H' H2} k f=>by
  obtain⟨f1,f2,f3,f4,f5⟩:=(K6 _).mp f
  exact(K6 _).mpr ⟨k _ _ f1 (by intro ps z;cases z),k _ _ f2 (by intro ps z;cases z),f3.move λb o e n _=>k b o e n,f4.move λb o e n _=>k b o e n,k _ _ f5 (by intro ps z;cases z)⟩
 obtain⟨Pv,lH⟩:∃Pv:Nat->St->Hp->Prop,∀i σ' H',Pv i σ' H'↔∃(x1 x2 x3:Option V),σ'=[some (.ref a),some (.ref h),some (.ref W),some (.ref L),some (.ref p),x1,x2,x3]/\Fx H'/\Eu H' pT qL:=⟨_,λ_ _ _=>fw⟩
 refine xV (xs:=[V.ref M,V.ref M2,V.ref M]) Pv ((lH _ _ _).mpr ⟨none,none,none,rfl,(K6 _).mpr ⟨Dq _ _ Se,Dq _ _ Z7,Zm.same Dq,Zk.same Dq,Pp⟩,#[],Dq _ _ hT9,trivial,.inl rfl⟩) (λi σ' H' _ pv=>?_) (λi z σ' H' hz pv=>?_) (λσ' H' pv=>?_)
 ·obtain⟨_,_,_,_,f,_⟩:=(lH _ _ _).mp pv
  exact((K6 _).mp f).2.2.2.2
 ·obtain⟨x1,x2,x3,rfl,fx,tab⟩:=(lH _ _ _).mp pv
  obtain⟨Mi,Js,rfl,Zh⟩:∃Mi Js,z=V.ref Mi/\∀H2,Fx H2->iu H2 Mi x Js:=by
   match i,hz with
   | 0,hz=>cases hz;exact⟨M,md,rfl,λH2 f=>((K6 _).mp f).2.2.1⟩
   | 1,hz=>cases hz;exact⟨M2,Zi,rfl,λH2 f=>((K6 _).mp f).2.2.2.1⟩
   | 2,hz=>cases hz;exact⟨M,md,rfl,λH2 f=>((K6 _).mp f).2.2.1⟩
   | _+3,hz=>cases hz
  walk_at "r"
  rename_i R hR
  have use:∀(f c':Addr) (cl:List (Str×Addr)) (oc fo:Obj) (Aq:Hp),CP (cellsFrom (s.heap.objs.size+1) (ag fS).names []) cl bt->rF P w K mg base 8 f (Gf f c' fo oc cl Mi)->(∃fd,fo.data=.func fd)->Aq f=some (gE fo)->Aq c'=some (gE oc)->Fx Aq->Eu Aq pT qL->
    R [some (.ref a),some (.ref h),some (.ref W),some (.ref L),some (.ref p),some (.ref Mi),some (.ref f),x3] Aq:=by
   intro f c' cl oc fo Aq la Le ⟨fd,W5⟩ R4 Xb Ie QK
   obtain⟨dom,iU⟩:∃dom:List Int->Prop,∀s,dom s↔s.Sublist x:=⟨_,λ_=>fw⟩
   have X3:∀T,dom T->T.length<=100/\∀z∈T,z∈x:=λT hT=>⟨by have:=((iU T).mp hT).length_le;omega,λz hz=>((iU T).mp hT).subset hz⟩
   have PL:∀T,T.Sublist x->dom T:=λT hT=>(iU T).mpr hT
   have vals:∀y3,∀q∈[(5,Str.ofString "_law_model_here")],∃v,([some (V.ref a),some (.ref h),some (.ref W),some (.ref L),some (.ref p),some (.ref Mi),some (.ref f),y3]:St)[q.1]?=some (some v):=λy3 q hq=>by
    rw[di.mp hq];exact⟨_,rfl⟩
   have Jh:∀(y3:Option V) (C:List (Addr×Obj)),CellsAre (cellsFrom (s.heap.objs.size+1) (ag fS).names []) [some (V.ref a),some (.ref h),some (.ref W),some (.ref L),some (.ref p),some (.ref Mi),some (.ref f),y3] [(5,Str.ofString "_law_model_here")] C->m5 P w K mg base 8 f f (Lw C f c' fo oc Mi x Js) dom Js.tells:=λy3 C ca=>by
    refine Lk W5 Le (λj y hj=>?_) X3
    match j,hj with
    | 0,hj=>
     cases hj
     obtain⟨c1,o,u,v',h1,h2,h3,h4,h5⟩:=ca (5,Str.ofString "_law_model_here") (by simp)
     obtain⟨c2,g1,g2⟩:=la.1 (Str.ofString "_law_model_here") (by decide +kernel)
     have:c1=c2:=dB (h1.symm.trans g1)
     subst this
     cases h4
     exact⟨c1,o,u,_,g2,h2,h3,rfl,h5⟩
    | _+1,hj=>cases hj
   have Ye:∀(C:List (Addr×Obj)) (H':Hp),cX C H'->bB Aq H'->Lw C f c' fo oc Mi x Js 0 (fG C H'):=λC H' po s1=>by
    have k:bB H' (fG C H'):=km po
    exact⟨k _ _ (s1 _ _ R4),k _ _ (s1 _ _ Xb),cX.added,((Zh _ Ie).same s1).same k⟩
   have behind:∀(C:List (Addr×Obj)) (n:Nat) (H' H2:Hp),cX C H'->bB Aq H'->Kp f (fG C H') H2->Lw C f c' fo oc Mi x Js n H2->bB Aq (bT C H2):=λC n H' H2 po s1 k hD=>by
    refine s1.trans (Dp po λb o e=>?_)
    by_cases hb:b=f
    ·have e2:=km po _ _ (s1 _ _ R4)
     rw[hb]at e ⊢
     rw[e2]at e
     cases e
     exact hD.1
    ·exact k b o hb e
   have facts:∀(C:List (Addr×Obj)) (H':Hp),cX C H'->bB Aq H'->fG C H' W=some (.tup (List.map V.int x))/\fG C H' p=some (.tup (List.map V.int S)):=λC H' po s1=>by
    obtain⟨f1,f2,_⟩:=(K6 _).mp Ie
    exact⟨km po _ _ (s1 _ _ f1),km po _ _ (s1 _ _ f2)⟩
   have done:∀H2 y3,bB Aq H2->Pv (i+1) [some (.ref a),some (.ref h),some (.ref W),some (.ref L),some (.ref p),some (.ref Mi),some (.ref f),y3] H2:=λH2 y3 s2=>(lH _ _ _).mpr ⟨_,_,_,rfl,Xw (λb o e _=>s2 b o e) Ie,QK.same s2⟩
   walk_at "r"
   refine⟨Mi,p,rfl,Js,x,S,Zh _ Ie,((K6 _).mp Ie).2.1,by omega,sub,λMT Tx=>?_⟩
   walk_at "r"
   refine⟨vals _,λC ca po=>⟨W,f,p,rfl,f,_,dom,Js.tells,0,x,S,Jh _ C ca,Ye C MT po Tx,(facts C MT po Tx).1,(facts C MT po Tx).2,rise,sS,by omega,by omega,PL,λn1 H13 _ Xr TY=>⟨rfl,?_⟩⟩⟩
   have Bm:=behind C n1 MT H13 po Tx TY Xr
   generalize bT C H13=YX at Bm ⊢
   rw[aB (by simp)]
   refine⟨vals _,λC2 ca2 Vi=>⟨f,p,rfl,f,_,dom,Js.tells,0,S,Jh _ C2 ca2,Ye C2 YX Vi Bm,(facts C2 YX Vi Bm).2,rise.sublist sS,by omega,by omega,λT hT=>PL T (hT.trans sS),λn2 H15 _ Xq TX=>⟨rfl,?_⟩⟩⟩
   have Q8:=behind C2 n2 YX H15 Vi Bm TX Xq
   generalize bT C2 H15=Uj at Q8 ⊢
   rw[aB (by simp)]
   walk_at "r"
   refine⟨vals _,λC3 ca3 TF=>⟨W,f,p,_,rfl,f,_,dom,Js.tells,0,x,S,Jh _ C3 ca3,rfl,Ye C3 Uj TF Q8,(facts C3 Uj TF Q8).1,(facts C3 Uj TF Q8).2,rise,sS,by omega,by omega,PL,λn3 H17 _ Xp TV=>?_⟩⟩
   have s17:=behind C3 n3 Uj H17 TF Q8 TV Xp
   walk_at "r"
   rw[aB (by decide)]
   exact done _ _ s17
  obtain⟨tb,OD,tr,R8⟩:=tab
  refine⟨tb,OD,tr,?_⟩
  rcases R8 with hn | ⟨c',oc,vs,tq,Ml,Pk,yr,Jw⟩
  ·refine .inl ⟨hn,λcl f c' oc vs tq ctv doc la Mt Xc hfc yr Jw=>?_⟩
   have R3:f≠pT:=λz=>by rw[z,OD]at Mt;cases Mt
   have R':c'≠pT:=λz=>by rw[z,OD]at Xc;cases Xc
   generalize K0:PySem.W.fnMade (Str.ofString "_law_ask") _ _ _ _ cl doc _ c' ctv=fo
   refine use f c' cl oc fo _ la (by rw[<-K0];exact Cq T yr Jw la.2.1 la.2.2) (by rw[<-K0];exact⟨_,rfl⟩) ak ?_ (Xw (λb o e n=>?_) fx) ⟨tb ++ #[rawInt Kj.line,rawInt Kj.col,.ref c'],?_,?_,.inr ⟨c',oc,vs,tq,?_,?_,yr,by rw[Z5];exact Jw⟩⟩
   ·unfold made;rw[ay hfc.symm];exact ak
   ·unfold made;rw[ay (aG e Mt),ay (aG e Xc),ay (qB e OD (n _))];exact e
   ·unfold made;rw[ay R3.symm,ay R'.symm,ak]
   ·rw[Array.toList_append];exact TriplesOk_snoc _ _ _ _ tr
   ·rw[Array.toList_append];exact codeAmong_snoc _ tr hn
   ·unfold made;rw[ay hfc.symm];exact ak
  ·refine .inr ⟨c',Ml,λcl f ctv doc la Mt=>?_⟩
   have s1:∀o,bB H' (upd H' f o):=λo=>aD Mt o
   generalize K0:PySem.W.fnMade (Str.ofString "_law_ask") _ _ _ _ cl doc _ c' ctv=fo
   refine use f c' cl oc fo _ la (by rw[<-K0];exact Cq T yr (by rw[<-Z5];exact Jw) la.2.1 la.2.2) (by rw[<-K0];exact⟨_,rfl⟩) ak (s1 _ _ _ Pk) (Xw (λb o e _=>s1 _ _ _ e) fx) (Eu.same (s1 _) ⟨tb,OD,tr,.inr ⟨c',oc,vs,tq,Ml,Pk,yr,Jw⟩⟩)
 ·obtain⟨x1,x2,x3,rfl,fx,tab⟩:=(lH _ _ _).mp pv
  walk_at "r"
  exact q _
local macro_rules | `(tactic| walk_at "rd") => `(tactic| walk_at "rc")
local macro_rules | `(tactic| walk_at "rl") => `(tactic| first | (refine fL fun R hR => ?_) | walk_at "ry" | (refine Nx.to (by assumption) _ _ ?_))
theorem all_mk{l:PySem.W.OpenLaw}{w:World}{K:PySem.W.Frag}{h:Heap}{mg:Str->Option Value}{fa f0 f1 f2 f3 f4 f5 f6 f7 f8 f9 XZ XT XS XR XQ XM XJ XH XF XD:Addr}(X:K.In h)(G:h.Ns mainGlobals mg)(hfa:mg "law" = some (.ref fa))
  {od0 an0 od1 an1 od2 an2 od3 an3 od4 an4 od5 an5 od6 an6 od7 an7 od8 an8 od9 an9 VH YH VG YG VF YF VD YD VB YC Vz YB Vy Yz Vx Yy Vw Yx Vv Te:Option Addr} {sl0 sl1 Gg Uz sl4 sl5 sl6 sl7 sl8 sl9 U5 U4 U3 U1 U0 UW UT UL UJ UG:Array (Option Value)} {oc0 kV0 dc0 pm0 cd0 ct0 oc1 kV1 dc1 pm1 cd1 ct1 oc2 kV2 dc2 pm2 cd2 ct2 oc3 kV3 dc3 pm3 cd3 ct3 oc4 kV4 dc4 pm4 cd4 ct4 oc5 kV5 dc5 pm5 cd5 ct5 oc6 kV6 dc6 pm6 cd6 ct6 oc7 kV7 dc7 pm7 cd7 ct7 oc8 kV8 dc8 pm8 cd8 ct8 oc9 kV9 dc9 pm9 cd9 ct9 V4 Wo Yd Vr S' Yt V3 Wn Yc Vq S9 Ys V2 Wm Yb Vp S8 Yr V1 Wl X9 Vo S7 Yq V0 Wk X8 Vn S6 Yp VR Wj X7 Vm S5 Yo VP Wi X6 Vl S4 Yn VN Wh X5 Vk SX Ym VM Wg X4 Vj SQ Yl VL RC SJ Ri SN:Value}
  {cC_law pT_law:Addr} (Py:PySem.W.codeHdIn K cC_law pT_law=true)
  (a0:PySem.W.nsIn K mainGlobals "set_of" = some (some (.ref f0))) (l0:K.lookup f0=some ⟨oc0,od0,.func (PySem.W.fnOf "set_of" "set_of" (aT ic) (aI ic) (ag ic) .none kV0 dc0 pm0 an0 cd0 ct0),sl0⟩) (c0:PySem.W.codeIn K cd0 "set_of" = true) (k0:PySem.W.keepIn K (.ref f0)=true)
  (a1:PySem.W.nsIn K mainGlobals "rest_of" = some (some (.ref f1))) (l1:K.lookup f1=some ⟨oc1,od1,.func (PySem.W.fnOf "rest_of" "rest_of" (aT fY) (aI fY) (ag fY) .none kV1 dc1 pm1 an1 cd1 ct1),sl1⟩) (c1:PySem.W.codeIn K cd1 "rest_of" = true) (k1:PySem.W.keepIn K (.ref f1)=true)
  (a2:PySem.W.nsIn K mainGlobals "grown" = some (some (.ref f2))) (l2:K.lookup f2=some ⟨oc2,od2,.func (PySem.W.fnOf "grown" "grown" (aT j8) (aI j8) (ag j8) .none kV2 dc2 pm2 an2 cd2 ct2),Gg⟩) (c2:PySem.W.codeIn K cd2 "grown" = true) (k2:PySem.W.keepIn K (.ref f2)=true)
  (a3:PySem.W.nsIn K mainGlobals "shrunk" = some (some (.ref f3))) (l3:K.lookup f3=some ⟨oc3,od3,.func (PySem.W.fnOf "shrunk" "shrunk" (aT ib) (aI ib) (ag ib) .none kV3 dc3 pm3 an3 cd3 ct3),Uz⟩) (c3:PySem.W.codeIn K cd3 "shrunk" = true) (k3:PySem.W.keepIn K (.ref f3)=true)
  (a4:PySem.W.nsIn K mainGlobals "_law_hand" = some (some (.ref f4))) (l4:K.lookup f4=some ⟨oc4,od4,.func (PySem.W.fnOf "_law_hand" "_law_hand" (aT dZ) (aI dZ) (ag dZ) .none kV4 dc4 pm4 an4 cd4 ct4),sl4⟩) (c4:PySem.W.codeIn K cd4 "_law_hand" = true) (k4:PySem.W.keepIn K (.ref f4)=true)
  (a5:PySem.W.nsIn K mainGlobals "_law_next" = some (some (.ref f5))) (l5:K.lookup f5=some ⟨oc5,od5,.func (PySem.W.fnOf "_law_next" "_law_next" (aT dY) (aI dY) (ag dY) .none kV5 dc5 pm5 an5 cd5 ct5),sl5⟩) (c5:PySem.W.codeIn K cd5 "_law_next" = true) (k5:PySem.W.keepIn K (.ref f5)=true)
  (a6:PySem.W.nsIn K mainGlobals "_law_take" = some (some (.ref f6))) (l6:K.lookup f6=some ⟨oc6,od6,.func (PySem.W.fnOf "_law_take" "_law_take" (aT dW) (aI dW) (ag dW) .none kV6 dc6 pm6 an6 cd6 ct6),sl6⟩) (c6:PySem.W.codeIn K cd6 "_law_take" = true) (k6:PySem.W.keepIn K (.ref f6)=true)
  (a7:PySem.W.nsIn K mainGlobals "_law_draw" = some (some (.ref f7))) (l7:K.lookup f7=some ⟨oc7,od7,.func (PySem.W.fnOf "_law_draw" "_law_draw" (aT ej) (aI ej) (ag ej) .none kV7 dc7 pm7 an7 cd7 ct7),sl7⟩) (c7:PySem.W.codeIn K cd7 "_law_draw" = true) (k7:PySem.W.keepIn K (.ref f7)=true)
  (a8:PySem.W.nsIn K mainGlobals "_law_is_within" = some (some (.ref f8))) (l8:K.lookup f8=some ⟨oc8,od8,.func (PySem.W.fnOf "_law_is_within" "_law_is_within" (aT bU) (aI bU) (ag bU) .none kV8 dc8 pm8 an8 cd8 ct8),sl8⟩) (c8:PySem.W.codeIn K cd8 "_law_is_within" = true) (k8:PySem.W.keepIn K (.ref f8)=true)
  (a9:PySem.W.nsIn K mainGlobals "_law_is_whole" = some (some (.ref f9))) (l9:K.lookup f9=some ⟨oc9,od9,.func (PySem.W.fnOf "_law_is_whole" "_law_is_whole" (aT cu) (aI cu) (ag cu) .none kV9 dc9 pm9 an9 cd9 ct9),sl9⟩) (c9:PySem.W.codeIn K cd9 "_law_is_whole" = true) (k9:PySem.W.keepIn K (.ref f9)=true)
  (a10:PySem.W.nsIn K mainGlobals "_law_is_set" = some (some (.ref XZ))) (l10:K.lookup XZ=some ⟨V4,VH,.func (PySem.W.fnOf "_law_is_set" "_law_is_set" (aT dc) (aI dc) (ag dc) .none Wo Yd Vr YH S' Yt),U5⟩) (c10:PySem.W.codeIn K S' "_law_is_set" = true) (ZR:PySem.W.keepIn K (.ref XZ)=true)
  (a11:PySem.W.nsIn K mainGlobals "_law_members" = some (some (.ref XT))) (Zy:K.lookup XT=some ⟨V3,VG,.func (PySem.W.fnOf "_law_members" "_law_members" (aT cJ) (aI cJ) (ag cJ) .none Wn Yc Vq YG S9 Ys),U4⟩) (c11:PySem.W.codeIn K S9 "_law_members" = true) (ZQ:PySem.W.keepIn K (.ref XT)=true)
  (a12:PySem.W.nsIn K mainGlobals "_law_some" = some (some (.ref XS))) (Zx:K.lookup XS=some ⟨V2,VF,.func (PySem.W.fnOf "_law_some" "_law_some" (aT dX) (aI dX) (ag dX) .none Wm Yb Vp YF S8 Yr),U3⟩) (c12:PySem.W.codeIn K S8 "_law_some" = true) (Ju:PySem.W.keepIn K (.ref XS)=true)
  (a13:PySem.W.nsIn K mainGlobals "_law_model" = some (some (.ref XR))) (Zw:K.lookup XR=some ⟨V1,VD,.func (PySem.W.fnOf "_law_model" "_law_model" (aT dy) (aI dy) (ag dy) .none Wl X9 Vo YD S7 Yq),U1⟩) (c13:PySem.W.codeIn K S7 "_law_model" = true) (TY:PySem.W.keepIn K (.ref XR)=true)
  (a14:PySem.W.nsIn K mainGlobals "_law_tells" = some (some (.ref XQ))) (Zv:K.lookup XQ=some ⟨V0,VB,.func (PySem.W.fnOf "_law_tells" "_law_tells" (aT dv) (aI dv) (ag dv) .none Wk X8 Vn YC S6 Yp),U0⟩) (c14:PySem.W.codeIn K S6 "_law_tells" = true) (ZP:PySem.W.keepIn K (.ref XQ)=true)
  (a15:PySem.W.nsIn K mainGlobals "_law_grown" = some (some (.ref XM))) (Zu:K.lookup XM=some ⟨VR,Vz,.func (PySem.W.fnOf "_law_grown" "_law_grown" (aT dz) (aI dz) (ag dz) .none Wj X7 Vm YB S5 Yo),UW⟩) (c15:PySem.W.codeIn K S5 "_law_grown" = true) (TX:PySem.W.keepIn K (.ref XM)=true)
  (a16:PySem.W.nsIn K mainGlobals "_law_shrunk" = some (some (.ref XJ))) (Zt:K.lookup XJ=some ⟨VP,Vy,.func (PySem.W.fnOf "_law_shrunk" "_law_shrunk" (aT cZ) (aI cZ) (ag cZ) .none Wi X6 Vl Yz S4 Yn),UT⟩) (c16:PySem.W.codeIn K S4 "_law_shrunk" = true) (ZM:PySem.W.keepIn K (.ref XJ)=true)
  (a17:PySem.W.nsIn K mainGlobals "_law_by_base" = some (some (.ref XH))) (Zr:K.lookup XH=some ⟨VN,Vx,.func (PySem.W.fnOf "_law_by_base" "_law_by_base" (aT cK) (aI cK) (ag cK) .none Wh X5 Vk Yy SX Ym),UL⟩) (c17:PySem.W.codeIn K SX "_law_by_base" = true) (TV:PySem.W.keepIn K (.ref XH)=true)
  (a18:PySem.W.nsIn K mainGlobals "_law_other" = some (some (.ref XF))) (Zq:K.lookup XF=some ⟨VM,Vw,.func (PySem.W.fnOf "_law_other" "_law_other" (aT dw) (aI dw) (ag dw) .none Wg X4 Vj Yx SQ Yl),UJ⟩) (c18:PySem.W.codeIn K SQ "_law_other" = true) (ZL:PySem.W.keepIn K (.ref XF)=true)
  (YK:PySem.W.nsIn K mainGlobals "law" = some (some (.ref XD))) (Zo:K.lookup XD=some ⟨VL,Vv,.func (PySem.W.fnOf "law" "law" (aT fS) (aI fS) (ag fS) .none RC SJ Ri Te (.ref cC_law) SN),UG⟩) (c19:PySem.W.codeIn K (.ref cC_law) "law" = true) (ZK:PySem.W.keepIn K (.ref XD)=true)
  (eM:PySem.W.nsIn K mainGlobals "ValueError" = some none)
  (Az:PySem.W.nsIn K mainGlobals "abs" = some none)
  (sP:PySem.W.nsIn K mainGlobals "all" = some none)
  (wq:PySem.W.nsIn K mainGlobals "any" = some none)
  (uL:PySem.W.nsIn K mainGlobals "bool" = some none)
  (Ay:PySem.W.nsIn K mainGlobals "int" = some none)
  (aN:PySem.W.nsIn K mainGlobals "isinstance" = some none)
  (n6:PySem.W.nsIn K mainGlobals "len" = some none)
  (uK:PySem.W.nsIn K mainGlobals "list" = some none)
  (j4:PySem.W.nsIn K mainGlobals "range" = some none)
  (Ax:PySem.W.nsIn K mainGlobals "set" = some none)
  (mw:PySem.W.nsIn K mainGlobals "sorted" = some none)
  (wo:PySem.W.nsIn K mainGlobals "sum" = some none)
  (fV:PySem.W.nsIn K mainGlobals "tuple" = some none)
  (Qy:PySem.W.specialIn K (.builtin "object.__class__") "__get__" = some (some (.builtin "getset_descriptor.__get__"))) (Qx:PySem.W.takesIn K (.builtin "object.__class__")=some true)
  {aA bA au av aU:Addr}
  {aQ aR:Addr} {xA xN xB xO:Option Addr} {xq xr:Array (Option Value)} {xC xG xI xt oo xK xD xH xJ xu oq xM:Value}
  (kY:PySem.W.nsIn K mainGlobals "TruceError" = some (some (.ref aA))) (kL:gQ K aA=true) (kK:PySem.W.hasDictIn K aA=true) (kJ:PySem.W.findIn K (.ref aA) "__setattr__" = some (some (.builtin "object.__setattr__"))) (kI:PySem.W.findIn K (.ref aA) "__getattribute__" = some (some (.builtin "BaseException.__getattribute__"))) (kG:PySem.W.findIn K (.ref aA) "__getattr__" = some none) (kF:PySem.W.findIn K (.ref aA) "__class__" = some (some (.builtin "object.__class__"))) (kE:PySem.W.mroIn K aA (.type "object")=some true)
  (ug:PySem.W.nsIn K mainGlobals "NoFact" = some (some (.ref bA))) (tf:gQ K bA=true) (sZ:PySem.W.hasDictIn K bA=true) (sY:PySem.W.findIn K (.ref bA) "__setattr__" = some (some (.builtin "object.__setattr__"))) (sX:PySem.W.findIn K (.ref bA) "__getattribute__" = some (some (.builtin "BaseException.__getattribute__"))) (sW:PySem.W.findIn K (.ref bA) "__getattr__" = some none) (sV:PySem.W.findIn K (.ref bA) "__class__" = some (some (.builtin "object.__class__"))) (sU:PySem.W.mroIn K bA (.type "object")=some true)
  (rh:PySem.W.nsIn K mainGlobals "NoPeace" = some (some (.ref au))) (qi:gQ K au=true) (qf:PySem.W.hasDictIn K au=true) (qb:PySem.W.findIn K (.ref au) "__setattr__" = some (some (.builtin "object.__setattr__"))) (p8:PySem.W.findIn K (.ref au) "__getattribute__" = some (some (.builtin "BaseException.__getattribute__"))) (p5:PySem.W.findIn K (.ref au) "__getattr__" = some none) (pX:PySem.W.findIn K (.ref au) "__class__" = some (some (.builtin "object.__class__"))) (pU:PySem.W.mroIn K au (.type "object")=some true)
  (rj:PySem.W.nsIn K mainGlobals "NoClash" = some (some (.ref av))) (qj:gQ K av=true) (qg:PySem.W.hasDictIn K av=true) (qc:PySem.W.findIn K (.ref av) "__setattr__" = some (some (.builtin "object.__setattr__"))) (p9:PySem.W.findIn K (.ref av) "__getattribute__" = some (some (.builtin "BaseException.__getattribute__"))) (p6:PySem.W.findIn K (.ref av) "__getattr__" = some none) (pY:PySem.W.findIn K (.ref av) "__class__" = some (some (.builtin "object.__class__"))) (pV:PySem.W.mroIn K av (.type "object")=some true)
  (rg:PySem.W.nsIn K mainGlobals "NoTruce" = some (some (.ref aU))) (qh:gQ K aU=true) (qd:PySem.W.hasDictIn K aU=true) (qa:PySem.W.findIn K (.ref aU) "__setattr__" = some (some (.builtin "object.__setattr__"))) (p7:PySem.W.findIn K (.ref aU) "__getattribute__" = some (some (.builtin "BaseException.__getattribute__"))) (pZ:PySem.W.findIn K (.ref aU) "__getattr__" = some none) (pW:PySem.W.findIn K (.ref aU) "__class__" = some (some (.builtin "object.__class__"))) (pS:PySem.W.mroIn K aU (.type "object")=some true)
  (gS:PySem.W.keepIn K (.ref aA)=true)
  (gT:PySem.W.findIn K (.ref aA) "__init__" = some (some (.builtin "ValueError.__init__")))
  (dH:PySem.W.readsIn K aA (.type "type")=true)
  (dI:PySem.W.findCls K (.ref aA) (.type "type") "__init__" = some (.val (.builtin "ValueError.__init__")))
  (dG:PySem.W.specialIn K (.ref aA) "__getattribute__" = some (some (.builtin "type.__getattribute__")))
  (nz:PySem.W.keepIn K (.ref bA)=true)
  (iM:PySem.W.keepIn K (.ref au)=true)
  (qJ:K.lookup aQ=some ⟨xC,xA,.func (PySem.W.fnOf "__init__" "NoPeace.__init__" (aT bH) (aI bH) (ag bH) .none xG xI xt xN oo xK),xq⟩) (qO:PySem.W.codeIn K oo "NoPeace.__init__" = true) (qM:PySem.W.keepIn K (.ref aQ)=true)
  (iP:PySem.W.findIn K (.ref au) "__init__" = some (some (.ref aQ)))
  (iR:PySem.W.typeIn K (.ref aQ)=some (.type "function"))
  (iD:PySem.W.takerIn K au "part" = some none)
  (gk:PySem.W.findIn K (.ref au) "part" = some none)
  (iN:PySem.W.keepIn K (.ref av)=true)
  (qK:K.lookup aR=some ⟨xD,xB,.func (PySem.W.fnOf "__init__" "NoClash.__init__" (aT bI) (aI bI) (ag bI) .none xH xJ xu xO oq xM),xr⟩) (qP:PySem.W.codeIn K oq "NoClash.__init__" = true) (qN:PySem.W.keepIn K (.ref aR)=true)
  (iQ:PySem.W.findIn K (.ref av) "__init__" = some (some (.ref aR)))
  (iS:PySem.W.typeIn K (.ref aR)=some (.type "function"))
  (iE:PySem.W.takerIn K av "part" = some none)
  (gp:PySem.W.findIn K (.ref av) "part" = some none)
  (lF:PySem.W.keepIn K (.ref aU)=true)
  (lG:PySem.W.findIn K (.ref aU) "__init__" = some (some (.builtin "ValueError.__init__")))
  (cR:PySem.W.subIn K (.ref au) (.ref au)=some true)
  (bX:PySem.W.subIn K (.ref au) (.ref aA)=some true)
  (cU:PySem.W.kitOne K (.ref au) (.ref av)=some false)
  (cT:PySem.W.kitOne K (.ref au) (.ref aU)=some false)
  (de:PySem.W.kitOne K (.ref au) (.ref bA)=some false)
  (bZ:PySem.W.kitOne K (.ref au) (.ref aA)=some true)
  (dM:PySem.W.kitOne K (.ref au) (.ref au)=some true)
  (iK:PySem.W.kitOne K (.ref au) (.type "ValueError")=some true)
  (cS:PySem.W.subIn K (.ref av) (.ref av)=some true)
  (bY:PySem.W.subIn K (.ref av) (.ref aA)=some true)
  (dN:PySem.W.kitOne K (.ref av) (.ref av)=some true)
  (cV:PySem.W.kitOne K (.ref av) (.ref aU)=some false)
  (df:PySem.W.kitOne K (.ref av) (.ref bA)=some false)
  (cg:PySem.W.kitOne K (.ref av) (.ref aA)=some true)
  (cW:PySem.W.kitOne K (.ref av) (.ref au)=some false)
  (iL:PySem.W.kitOne K (.ref av) (.type "ValueError")=some true)
  : ∃fd:FuncData,(∀(s:Shared) (v:Value),BindsTo s fd ⟨[v],[]⟩ [("_law_script",v)])/\∀base:Heap,K.In base->base.Ns mainGlobals mg->BMain mg base->cw l.prog w K mg base eB 13 fa fd ["_law_script"] (Bg K pT_law):=by
 have e:=hfa.symm.trans (cO X G YK)
 cases e
 have F0:=cq (st:=ic) l0 c0 k0
 have b0:=F0.binds (ps:=["numbers"]) λ_ _ _ _ _ _=>Oe λ_=>rfl
 have F1:=cq (st:=fY) l1 c1 k1
 have b1:=F1.binds (ps:=["whole","part"]) λ_ _ _ _ _ _=>of2 λ_ _=>rfl
 have F2:=cq (st:=j8) l2 c2 k2
 have b2:=F2.binds (ps:=["whole","ask","part"]) λ_ _ _ _ _ _=>Y9 λ_ _ _=>rfl
 have F3:=cq (st:=ib) l3 c3 k3
 have b3:=F3.binds (ps:=["ask","part"]) λ_ _ _ _ _ _=>of2 λ_ _=>rfl
 have F4:=cq (st:=dZ) l4 c4 k4
 have b4:=F4.binds (ps:=["_law_script"]) λ_ _ _ _ _ _=>Oe λ_=>rfl
 have F5:=cq (st:=dY) l5 c5 k5
 have b5:=F5.binds (ps:=["_law_hand_here"]) λ_ _ _ _ _ _=>Oe λ_=>rfl
 have F6:=cq (st:=dW) l6 c6 k6
 have b6:=F6.binds (ps:=["_law_hand_here"]) λ_ _ _ _ _ _=>Oe λ_=>rfl
 have F7:=cq (st:=ej) l7 c7 k7
 have b7:=F7.binds (ps:=["_law_hand_here","_law_many"]) λ_ _ _ _ _ _=>of2 λ_ _=>rfl
 have F8:=cq (st:=bU) l8 c8 k8
 have b8:=F8.binds (ps:=["_law_one","_law_other_here"]) λ_ _ _ _ _ _=>of2 λ_ _=>rfl
 have F9:=cq (st:=cu) l9 c9 k9
 have b9:=F9.binds (ps:=["_law_thing"]) λ_ _ _ _ _ _=>Oe λ_=>rfl
 have F10:=cq (st:=dc) l10 c10 ZR
 have b10:=F10.binds (ps:=["_law_thing"]) λ_ _ _ _ _ _=>Oe λ_=>rfl
 have F11:=cq (st:=cJ) Zy c11 ZQ
 have b11:=F11.binds (ps:=["_law_hand_here","_law_most"]) λ_ _ _ _ _ _=>of2 λ_ _=>rfl
 have F12:=cq (st:=dX) Zx c12 Ju
 have b12:=F12.binds (ps:=["_law_hand_here","_law_whole"]) λ_ _ _ _ _ _=>of2 λ_ _=>rfl
 have F13:=cq (st:=dy) Zw c13 TY
 have b13:=F13.binds (ps:=["_law_hand_here","_law_whole"]) λ_ _ _ _ _ _=>of2 λ_ _=>rfl
 have F14:=cq (st:=dv) Zv c14 ZP
 have b14:=F14.binds (ps:=["_law_model_here","_law_part"]) λ_ _ _ _ _ _=>of2 λ_ _=>rfl
 have F15:=cq (st:=dz) Zu c15 TX
 have b15:=F15.binds (ps:=["_law_whole","_law_ask_here","_law_part"]) λ_ _ _ _ _ _=>Y9 λ_ _ _=>rfl
 have F16:=cq (st:=cZ) Zt c16 ZM
 have b16:=F16.binds (ps:=["_law_ask_here","_law_part"]) λ_ _ _ _ _ _=>of2 λ_ _=>rfl
 have F17:=cq (st:=cK) Zr c17 TV
 have b17:=F17.binds (ps:=["_law_whole","_law_ask_here","_law_part","_law_peaceful"]) λ_ _ _ _ _ _=>of4 λ_ _ _ _=>rfl
 have F18:=cq (st:=dw) Zq c18 ZL
 have b18:=F18.binds (ps:=["_law_model_here","_law_part"]) λ_ _ _ _ _ _=>of2 λ_ _=>rfl
 have F19:=cq (st:=fS) Zo c19 ZK
 have b19:=F19.binds (ps:=["_law_script"]) λ_ _ _ _ _ _=>Oe λ_=>rfl
 have rz:=cq (st:=bH) qJ qO qM
 have Ao:=rz.binds (ps:=bQ) λ_ _ _ _ _ _=>of2 λ_ _=>rfl
 have rA:=cq (st:=bI) qK qP qN
 have Ap:=rA.binds (ps:=bR) λ_ _ _ _ _ _=>of2 λ_ _=>rfl
 have T:Txt K mg ⟨_,_,_,_,_,_,_,_,_,_,_,_,_,_,_,_,_,_,_,_,_,_,_,_,_,_,_,_,_,_,_,_,_,_,_,_,_,_,_,_,_,_,_,_,_,_,_,_,_⟩:=⟨F0,b0,cO X G a0,F1,b1,cO X G a1,F2,b2,cO X G a2,F3,b3,cO X G a3,F4,b4,cO X G a4,F5,b5,cO X G a5,F6,b6,cO X G a6,F7,b7,cO X G a7,F8,b8,cO X G a8,F9,b9,cO X G a9,F10,b10,cO X G a10,F11,b11,cO X G a11,F12,b12,cO X G a12,F13,b13,cO X G a13,F14,b14,cO X G a14,F15,b15,cO X G a15,F16,b16,cO X G a16,F17,b17,cO X G a17,F18,b18,cO X G a18,F19,b19,cO X G YK,gK X G eM,gK X G Az,gK X G sP,gK X G wq,gK X G uL,gK X G Ay,gK X G aN,gK X G n6,gK X G uK,gK X G j4,gK X G Ax,gK X G mw,gK X G wo,gK X G fV,cO X G kY,⟨kL,kK,kJ,kI,kG,kF,Qy,Qx,kE⟩,gS,gT,dH,dI,dG,cO X G ug,⟨tf,sZ,sY,sX,sW,sV,Qy,Qx,sU⟩,nz,cO X G rh,⟨qi,qf,qb,p8,p5,pX,Qy,Qx,pU⟩,iM,rz,Ao,iP,iR,iD,gk,cO X G rj,⟨qj,qg,qc,p9,p6,pY,Qy,Qx,pV⟩,iN,rA,Ap,iQ,iS,iE,gp,cO X G rg,⟨qh,qd,qa,p7,pZ,pW,Qy,Qx,pS⟩,lF,lG,cR,bX,cU,cT,de,bZ,dM,iK,cS,bY,dN,cV,df,cg,cW,iL⟩
 exact⟨PySem.W.fnOf "law" "law" (aT fS) (aI fS) (ag fS) .none RC SJ Ri Te (.ref cC_law) SN,λs v=>.of_eq rfl,λbase kb _ hB=>Od (P:=l.prog) (w:=w) (base:=base) T rfl (PySem.W.codeHd_of_K kb Py) hB⟩
theorem walk{l:PySem.W.OpenLaw}{q:Program}{loose:List Str}{XP:(Str->Option Value)->Heap->Prop}{YP:World->Heap->Prop}{d:DefRec}{K:Params->PySem.W.Frag}{cC_law pT_law:Addr}(hn:l.most=some 63)(R7:d.params.defaults=[])
  (hY:∀(w:World) (h:Heap),YP w h->(K w.params).In h/\∀q∈[(cC_law,pT_law)],h.get? q.2=some (PySem.W.tabObj #[]))
  (Ua:∀w:World,∀q∈[(cC_law,pT_law)],PySem.W.codeHdIn (K w.params) q.1 q.2=true/\(K w.params).lookup q.2=none)
  (F:∀(w:World) (mg:Str->Option Value) (fa:Addr) (h:Heap),(K w.params).In h->h.Ns mainGlobals mg->mg d.name=some (.ref fa)->
   ∃fd:FuncData,(∀(s:Shared) (u:Value),BindsTo s fd ⟨[u],[]⟩ [("_law_script",u)])/\∀base:Heap,(K w.params).In base->base.Ns mainGlobals mg->BMain mg base->cw l.prog w (K w.params) mg base eB 13 fa fd ["_law_script"] (Bg (K w.params) pT_law)) :
  PySem.W.WalkO q loose XP YP l.row.toRowW d [] (λf vs=>PySem.call f vs):=
 L2.Ft (n:=63) (k:=13) (x:="_law_script") (ts:=[(cC_law,pT_law)]) (CX:=λ_=>eB) (sp:=λw=>Bg (K w.params) pT_law) hn (by decide) R7 ⟨rfl,by decide,by decide⟩ hY Ua F (λ_ _ a ns hl hT hS=>⟨a,ns,rfl,hS,hl,hT (cC_law,pT_law) (by simp),λ_=>rfl⟩) λ_ _ _ _ _ z=>z
def view:Program:={ PySem.Challenge.pw_truceroll_k53_refused_by_asking with main:={ PySem.Challenge.pw_truceroll_k53_refused_by_asking.main with body:=[top 1,top 2,top 3,top 4,top 5,top 7,top 8,top 10,top 11,top 13,top 14,top 15,top 16,top 17,top 18,top 19,top 20,top 21,top 22,top 23,top 24,top 25,top 26,top 27,top 28] } }
end
end My
open PySem PySem.W PyProof.Rows
local macro_rules | `(tactic| o_head $H:term) => `(tactic| (
  refine holds_open (q := My.view) (loose := []) (Xt := fun s => xlAt My.view [] s && recOk (RowW.records (OpenRow.toRowW PySem.Challenge.rw_truceroll_k53_refused_by_asking.row)) s) (XP := XL My.view []) (Yf := Hook.obs $H) (Ya := Hook.val $H) (YP := Hook.says $H) (N := 40000) ?hl (Hook.of $H) (Hook.keeps $H) (fun s e => xl_of s (Bool.and_eq_true_iff.mp e).1) XL.keeps (by rfl) (by rfl) (by rfl) (fun s e => recFacts_of (Bool.and_eq_true_iff.mp e).2) (by rfl) (by first | assumption | decide +kernel) (by decide +kernel) ⟨rfl, rfl, rfl, rfl, rfl, by decide +kernel⟩ ?hw ?hc
  case hl => intro w; kernel_rfl))
theorem PySem.Challenge.cw_truceroll_k53_refused_by_asking_holds : PySem.Challenge.rw_truceroll_k53_refused_by_asking.Holds := by
 w_on;o_law;k_head;(case hw=>w_witness2)
 k_fill
 refine My.walk (l:=PySem.Challenge.rw_truceroll_k53_refused_by_asking) (cC_law:=221) (pT_law:=217) rfl rfl (λw h Y=>⟨PySem.W.km_in_of Y,λq hq=>PySem.W.km_tabs_of Y _ (by simp only[List.mem_cons,List.not_mem_nil,or_false]at hq ⊢;rcases hq with rfl <;> simp)⟩) (λw q hq=>by simp only[List.mem_cons,List.not_mem_nil,or_false]at hq;rcases hq with rfl <;> exact⟨by kernel_rfl,by kernel_rfl⟩) ?F
 case F=>
  intro w mg fa h KX G RQ
  refine' My.all_mk KX G RQ (by kernel_rfl) ?a0 ?l0 ?c0 ?k0 ?a1 ?l1 ?c1 ?k1 ?a2 ?l2 ?c2 ?k2 ?a3 ?l3 ?c3 ?k3 ?a4 ?l4 ?c4 ?k4 ?a5 ?l5 ?c5 ?k5 ?a6 ?l6 ?c6 ?k6 ?a7 ?l7 ?c7 ?k7 ?a8 ?l8 ?c8 ?k8 ?a9 ?l9 ?c9 ?k9 ?a10 ?l10 ?c10 ?ZR ?a11 ?Zy ?c11 ?ZQ ?a12 ?Zx ?c12 ?Ju ?a13 ?Zw ?c13 ?TY ?a14 ?Zv ?c14 ?ZP ?a15 ?Zu ?c15 ?TX ?a16 ?Zt ?c16 ?ZM ?a17 ?Zr ?c17 ?TV ?a18 ?Zq ?c18 ?ZL ?YK ?Zo ?c19 ?ZK ?eM ?Az ?sP ?wq ?uL ?Ay ?aN ?n6 ?uK ?j4 ?Ax ?mw ?wo ?fV ?Qy ?Qx ?kY ?kL ?kK ?kJ ?kI ?kG ?kF ?kE ?ug ?tf ?sZ ?sY ?sX ?sW ?sV ?sU ?rh ?qi ?qf ?qb ?p8 ?p5 ?pX ?pU ?rj ?qj ?qg ?qc ?p9 ?p6 ?pY ?pV ?rg ?qh ?qd ?qa ?p7 ?pZ ?pW ?pS ?gS ?gT ?dH ?dI ?dG ?nz ?iM ?qJ ?qO ?qM ?iP ?iR ?iD ?gk ?iN ?qK ?qP ?qN ?iQ ?iS ?iE ?gp ?lF ?lG ?cR ?bX ?cU ?cT ?de ?bZ ?dM ?iK ?cS ?bY ?dN ?cV ?df ?cg ?cW ?iL
  all_goals (first | k_is | rfl | skip)
  all_goals (first | k_is | rfl | skip)
