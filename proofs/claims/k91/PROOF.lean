import PyProof.Rows.All
import Wide.All
import OpenK.AllK
import Wide.FinOn
import Lean
import PyProof.EqAt
import PyProof.EqKinds
import PyProof.TupleCall
import PySem.Challenge.RW_truceroll_k91_sets_and_numbers
set_option Elab.async false
set_option linter.all false
set_option maxRecDepth 100000
set_option maxHeartbeats 0
def cT:=@List.getElem?_eq_getElem
def bB:=@List.length_map
def cU:=@List.size_toArray
def bh:=@PySem.wpAny_bind
def eR:=@PySem.Heap.get?_push_of_some
def bL:=@PySem.Heap.lt_size
def cg:=@Nat.le_refl
def fu:=@Nat.lt_of_lt_of_le
def ft:=@List.length_append
def dU:=@Option.some.inj
def dn:=@Bool.false_ne_true
def fK:=@List.getElem?_eq_some_iff
def dE:=@List.mem_singleton
def fe:=@List.mem_append_right
def cy:=@PySem.W.mg_of
def dm:=@List.mem_append
def dR:=@List.getElem?_map
def fz:=@List.mem_cons_of_mem
def dQ:=@PySem.Str.length_append
def dw:=@List.map_append
def aK:=@if_neg
def dP:=@List.length_take
def fw:=@List.mem_cons_self
def gJ:=@List.mem_of_getElem?
def jq:=@Array.getElem?_eq_some_iff
def bW:=@PySem.wpAny_mono
def dk:=@Nat.ne_of_lt
def cj:=@PySem.wpAny_pure
def gI:=@PySem.Heap.get?_push_size
def aU:=@if_pos
def kc:=@List.getElem?_append_right
def il:=@List.length_replicate
def fJ:=@Bool.and_eq_true
def dD:=@Nat.le_trans
def ik:=@PySem.mem_of_lookup
def gH:=@List.length_drop
def mw:=@List.getElem?_append_left
def ig:=@PySem.W.mg_none_of
def gF:=@PySem.W.kia_one
def kb:=@PySem.Heap.get?_update_other
def fH:=@List.mem_cons
def ie:=@List.lookup_cons
def cR:=@congrArg
def gE:=@List.map_cons
def ka:=@List.all_eq_true
def nI:=@PySem.StrLaws.glued_eq_join
def mr:=@PySem.Obj.data_mapFields
def nH:=@Array.length_toList
def pH:=@PySem.F.plainAttrs_str
def mq:=@PySem.wpAny_truthy_bool
def jo:=@Nat.lt_irrefl
def mn:=@List.length_cons
def rW:=@List.getD_eq_getElem?_getD
def pG:=@List.mem_of_mem_take
def pF:=@List.mem_of_mem_drop
def pE:=@List.mem_append_left
def pD:=@PySem.Heap.get?_update_self
def nG:=@beq_self_eq_true
def jn:=@Nat.zero_le
def j9:=@Nat.lt_trans
def rV:=@List.take_of_length_le
def nF:=@List.foldl_cons
def nE:=@List.append_nil
def nD:=@Bool.eq_iff_iff
def rT:=@PySem.F.type_str_join
def rS:=@PySem.F.slot_str_join
def rR:=@List.length_singleton
def jm:=@PySem.wpAny_field
def fc:=@Iff.rfl
def nC:=@PySem.wpAny_passesOwn
def ml:=@PySem.wpAny_holding
def pC:=@PySem.wpAny_loadPart_at
def nB:=@Nat.le_of_lt
def nA:=@List.map_map
def vH:=@List.getElem?_set_self
def rQ:=@PySem.wpAny_Call_Name_kw
def vG:=@List.getElem?_eq_none
def vF:=@Array.getElem?_toList
def pB:=@List.map_take
def vE:=@List.pairwise_append
def vD:=@PySem.Obj.isFreed_of_fields
def vC:=@List.replicate_succ
def yx:=@PyProof.Rows.callWith_type1
def ic:=@Ne.symm
def pA:=@List.mem_map
def pz:=@PySem.wpAny_standAt
def vB:=@Nat.lt_of_le_of_lt
def vA:=@List.map_inj_right
def vz:=@PySem.Heap.get?_none_of_le
def rP:=@PySem.PassesOwn.never
def yw:=@List.pairwise_iff_getElem
def vy:=@PySem.wpAny_isSubtype_exc
def vx:=@List.take_add_one
def rO:=@List.map_drop
def rN:=@PySem.wpAny_setField
def yv:=@PySem.F.plainAttrs_list
def vw:=@Option.bind_some
def vv:=@List.take_length
def vt:=@List.getElem_mem
def px:=@Nat.not_lt
def lA:=@Array.ext'
def ly:=@PySem.sizeLine_eq
def qA:=@Nat.min_eq_left
def qz:=@List.nodup_cons
def qy:=@List.length_set
def qx:=@Bool.or_eq_true
def uF:=@PySem.wpAny_comprehension_free
def uE:=@PySem.StrLaws.partsBetween_eq
def uD:=@PySem.intText_digits
def uC:=@PySem.W.looks_findIn
def uB:=@List.replicate_succ'
def qw:=@List.mem_range
def uA:=@List.getElem?_set_ne
def lq:=@PySem.wpAny_call
def lj:=@PySem.typeIs_str
def uz:=@List.filterMap_cons
def qv:=@PySem.wpAny_execs_nil
def uy:=@PySem.W.callWith_K
def ux:=@List.contains_cons
def uw:=@Array.append_assoc
def uv:=@decide_eq_true_eq
def ur:=@Option.some.injEq
def qu:=@Nat.ne_of_gt
def uq:=@Nat.lt_succ_of_lt
def uo:=@List.length_range
def um:=@List.append_assoc
def uk:=@Bool.not_eq_true'
def uj:=@Nat.min_eq_right
def ui:=@Nat.le_of_not_lt
def qt:=@Nat.le_succ
def yz:=@List.eq_nil_of_length_eq_zero
section
namespace L2
open PySem PySem.Spec PyProof.Rows
abbrev Key:=Sum Int Str
def Dv:Key->Value->Bool
 | .inl k,v=>Value.isInt k v
 | .inr x,v=>Value.isStrOf x v
def Lw(w:World):Key->Int
 | .inl k=>hashInt k
 | .inr x=>hashStr w x
theorem bU:∀{k:Key} {v:Value},Dv k v=true->(∃i t,k=Sum.inl i/\v=Value.int i t)\/(∃x t,k=Sum.inr x/\v=Value.str x t)
 | .inl i,v,h=>by
  obtain⟨t,e⟩:=Value.isInt_shape (k:=i) (v:=v) h
  exact .inl ⟨i,t,rfl,e⟩
 | .inr x,v,h=>by
  obtain⟨t,e⟩:=Value.isStrOf_shape (x:=x) (v:=v) h
  exact .inr ⟨x,t,rfl,e⟩
theorem Fq(a b:Int):decide ((Sum.inl a:Key)=Sum.inl b)=(a==b):=by
 by_cases e:a=b
 ·subst e;simp
 ·have h:¬(Sum.inl a:Key)=Sum.inl b:=λq=>e (Sum.inl.inj q)
  rw[decide_eq_false h]
  exact(beq_eq_false_iff_ne.mpr e).symm
theorem Fn(a b:Str):decide ((Sum.inr a:Key)=Sum.inr b)=decide (a=b):=by
 by_cases e:a=b
 ·subst e;simp
 ·have h:¬(Sum.inr a:Key)=Sum.inr b:=λq=>e (Sum.inr.inj q)
  rw[decide_eq_false h,decide_eq_false e]
theorem Fp(a:Int)(b:Str):decide ((Sum.inl a:Key)=Sum.inr b)=false:=decide_eq_false (λq=>nomatch q)
theorem Fo(a:Str)(b:Int):decide ((Sum.inr a:Key)=Sum.inl b)=false:=decide_eq_false (λq=>nomatch q)
def wq(prog:Program)(w:World):PySem.KeyKind prog w Key where
 is:=Dv
 hash:=Lw w
 inj:=λv a b ha hb=>by
  rcases bU ha with ⟨i,t,rfl,rfl⟩ | ⟨x,t,rfl,rfl⟩
  ·rcases bU hb with ⟨j,u,rfl,e⟩ | ⟨y,u,rfl,e⟩
   ·injection e with e1 _;rw[e1]
   ·exact nomatch e
  ·rcases bU hb with ⟨j,u,rfl,e⟩ | ⟨y,u,rfl,e⟩
   ·exact nomatch e
   ·injection e with e1 _;rw[e1]
 byValue:=λk v h=>by
  rcases bU h with ⟨i,t,rfl,rfl⟩ | ⟨x,t,rfl,rfl⟩ <;> rfl
 pyHash:=λhv h=>by
  rcases bU hv with ⟨i,t,rfl,rfl⟩ | ⟨x,t,rfl,rfl⟩
  ·exact wpAny_pyHash_int h
  ·exact wpAny_pyHash_str h
 eqBool:=λhu hv h=>by
  rcases bU hu with ⟨i,t,rfl,rfl⟩ | ⟨x,t,rfl,rfl⟩
  ·rcases bU hv with ⟨j,u,rfl,rfl⟩ | ⟨y,u,rfl,rfl⟩
   ·rw[Fq]at h;exact wpAny_eqBool_int h
   ·rw[Fp]at h;exact SeqAt.EqAt.int_str i t y u _ _ _ _ h
  ·rcases bU hv with ⟨j,u,rfl,rfl⟩ | ⟨y,u,rfl,rfl⟩
   ·rw[Fo]at h;exact SeqAt.EqAt.str_int x t j u _ _ _ _ h
   ·rw[Fn]at h;exact wpAny_eqBool_str h
 «strs»:=λk x t v h=>by
  rcases bU h with ⟨i,u,rfl,e⟩ | ⟨y,u,rfl,e⟩
  ·exact nomatch e
  ·injection e with e1 _
   subst e1
   cases v <;> rfl
end L2
namespace L2
open PySem PySem.Spec PyProof.Rows
inductive V where
 | non | bl (b:Bool) | int (i:Int) | str (x:Str) | zW (b:Array UInt8) | GK (b:UInt64) | ref (a:Addr) | ty (n:String)
 deriving DecidableEq
def RelV:V->Value->Prop
 | .non,u=>u=Value.none
 | .bl b,u=>u=Value.bool b
 | .int i,u=>∃t,u=Value.int i t
 | .str x,u=>∃t,u=Value.str x t
 | .zW b,u=>∃t,u=Value.bytes b t
 | .GK b,u=>∃t,u=Value.float b t
 | .ref a,u=>u=Value.ref a
 | .ty n,u=>u=Value.type n
abbrev Vals:List V->List Value->Prop:=Paired RelV
theorem Vals.length{xs:List V}{us:List Value}(r:Vals xs us):xs.length=us.length:=Paired.length r
theorem Vals.get:∀{xs:List V} {us:List Value} {i:Nat} {x:V},Vals xs us->xs[i]?=some x->∃u,us[i]?=some u/\RelV x u
 | _,_,_,_,.nil,e=>by simp at e
 | _,_,0,_,.cons r _,e=>by simp at e;subst e;exact⟨_,rfl,r⟩
 | _,_,i+1,x,.cons _ t,e=>by
  obtain⟨u,h1,h2⟩:=Vals.get (i:=i) (x:=x) t (by simpa using e)
  exact⟨u,by simpa using h1,h2⟩
theorem Vals.set{x:V}{u:Value}(r:RelV x u):∀{xs:List V} {us:List Value} (i:Nat),Vals xs us->Vals (xs.set i x) (us.set i u)
 | _,_,_,.nil=>.nil
 | _,_,0,.cons _ t=>.cons r t
 | _,_,i+1,.cons q t=>.cons q (Vals.set r i t)
theorem Vals.append:∀{xs ys:List V} {us ws:List Value},Vals xs us->Vals ys ws->Vals (xs++ys) (us++ws)
 | _,_,_,_,.nil,s=>s
 | _,_,_,_,.cons r t,s=>.cons r (Vals.append t s)
theorem Vals.take:∀{xs:List V} {us:List Value} (n:Nat),Vals xs us->Vals (xs.take n) (us.take n)
 | _,_,0,_=>.nil
 | _,_,_+1,.nil=>.nil
 | _,_,n+1,.cons r t=>.cons r (Vals.take n t)
theorem Vals.drop:∀{xs:List V} {us:List Value} (n:Nat),Vals xs us->Vals (xs.drop n) (us.drop n)
 | _,_,0,r=>r
 | _,_,_+1,.nil=>.nil
 | _,_,n+1,.cons _ t=>Vals.drop n t
def Gm:Option V->Option Value->Prop
 | some v,some u=>RelV v u
 | none,none=>True
 | _,_=>False
def KV{κ:Type}:List (κ×V)->List (κ×Value)->Prop:=Paired λ(p:κ×V) (q:κ×Value)=>p.1=q.1/\RelV p.2 q.2
def kV:Key->V
 | .inl i=>.int i
 | .inr x=>.str x
inductive HO where
 | lst (xs:List V)
 | tup (xs:List V)
 | dK (eM:List (Key×V)) | dT (eM:List (List Key×V))
 | set (S:Int->Bool) (n:Nat)
 | ins (C dx:Addr) (fs:List (Str×V))
 | own (x:Addr)
 | xd (fs:List (Str×V))
 | met (f x:Addr)
 | Kq (lo hi:Int)
 | wF (o:Obj) (u:HO)
 | Ea (ps:Array Value)
 | ext (φ:Heap->Prop)
abbrev Hp:=Addr->Option HO
def upd(H:Hp)(a:Addr)(o:HO):Hp:=λb=>if b=a then some o else H b
theorem aq{H:Hp}{a:Addr}{o:HO}:upd H a o a=some o:=by unfold upd;rw[aU rfl]
theorem aD{H:Hp}{a b:Addr}{o:HO}(h:b≠a):upd H a o b=H b:=by unfold upd;rw[aK h]
theorem m5{H:Hp}{a:Addr}{o u:HO}:upd (upd H a o) a u=upd H a u:=by
 funext b;unfold upd;split <;> rfl
theorem Hm{H:Hp}{a b:Addr}{o u:HO}(h:H a=some o)(h':H b=some u)(d:o≠u):a≠b:=by
 intro e;subst e;rw[h]at h';exact d (dU h')
theorem aG{H:Hp}{a b:Addr}{o:HO}(h:H a=some o)(h':H b=none):a≠b:=by
 intro e;subst e;rw[h]at h';cases h'
section
variable (P:Program)(w:World)
def cZ(H:Hp)(h:Heap)(a:Addr):HO->Prop
 | .lst xs=>xs.length<=sizeLine/\∃(its:List Value) (n:Nat),Vals xs its/\h.get? a=some { cls:=.type "list",data:=.seq its.toArray n }
 | .tup xs=>xs.length<=sizeLine/\∃its:List Value,Vals xs its/\IsTup h a its.toArray
 | .dK eM=>eM.length<=sizeLine/\(a==sysModules)=false/\∃vs,KV eM vs/\h.DictOf (wq P w) a vs
 | .dT eM=>eM.length<=sizeLine/\(a==sysModules)=false/\∃xs:List (List Key×Addr×Value),
   Paired (λ(p:List Key×V) (q:List Key×Addr×Value)=>p.1=q.1/\H q.2.1=some (.tup (p.1.map kV))/\RelV p.2 q.2.2) eM xs/\
   ∃o es ep,h.get? a=some o/\o.ExactDict/\o.data=.dict es ep/\es.toList=xs.map (entryOfKey (tupleKind (wq P w)))/\(xs.map (·.1)).Nodup
 | .set S n=>h.SetOf (intKind P w) a S n
 | .ins C dx fs=>H dx=some (.own a)/\fs.length<=1000/\dx≠a/\h.get? a=some (PySem.W.instObj C dx)/\
   ∃mA,h.Ns1 dx mA/\(∀f,Gm (fs.lookup f) (mA f))/\PySem.Within mA (fs.map (·.1))
 | .own _=>∃o,h.get? a=some o
 | .xd fs=>∃mA,h.Ns1 a mA/\∀f,Gm (fs.lookup f) (mA f)
 | .Kq lo hi=>∃t u v,h.get? a=some { cls:=.type "range",data:=.fields #[.int lo t,.int hi u,.int 1 v] }
 | .wF o u=>h.get? a=some o/\cZ H h a u
 | .Ea ps=>h.get? a=some { cls:=.none,data:=.fields ps }
 | .met f x=>h.get? a=some (PySem.W.methodObj (.ref f) (.ref x))
 | .ext φ=>φ h/\(∃o,h.get? a=some o)/\∀h1 h2:Heap,φ h1->(∀o,h1.get? a=some o->h2.get? a=some o)->φ h2
def lh(H:Hp)(h:Heap):Prop:=∀a o,H a=some o->cZ P w H h a o
end
section
variable {P:Program}{w:World}{H H':Hp}{h h':Heap}{a:Addr}{o:HO}
theorem cZ.lt(x:cZ P w H h a o):a<h.objs.size:=by
 cases o with
 | lst xs=>obtain⟨_,_,_,_,e⟩:=x;exact bL e
 | tup xs=>obtain⟨_,_,_,p⟩:=x;exact p.lt
 | dK eM=>obtain⟨_,_,_,_,o,_,_,e,_⟩:=x;exact bL e
 | dT eM=>obtain⟨_,_,_,_,o,_,_,e,_⟩:=x;exact bL e
 | set S n=>obtain⟨o,_,_,_,e,_⟩:=x;exact bL e
 | ins C dx fs=>obtain⟨_,_,_,e,_⟩:=x;exact bL e
 | own y=>obtain⟨_,e⟩:=x;exact bL e
 | xd fs=>obtain⟨_,⟨_,_,_,e,_⟩,_⟩:=x;exact bL e
 | Kq lo hi=>obtain⟨_,_,_,e⟩:=x;exact bL e
 | wF ob u=>obtain⟨e,_⟩:=x;exact bL e
 | Ea ps=>exact bL (show h.get? a=some _ from x)
 | met f y=>exact bL (show h.get? a=some _ from x)
 | ext φ=>obtain⟨_,⟨_,e⟩,_⟩:=x;exact bL e
theorem Paired.Ho{α β:Type}{F G:α->β->Prop}:∀{l₁:List α} {l₂:List β},Paired F l₁ l₂->(∀a b,F a b->G a b)->Paired G l₁ l₂
 | _,_,.nil,_=>.nil
 | _,_,.cons r t,f=>.cons (f _ _ r) (Paired.Ho t f)
theorem cZ.stay(x:cZ P w H h a o)(k:∀b u,(b=a\/H b=some (.own a))->h.get? b=some u->h'.get? b=some u)
  (ho:∀b,H b=some (.own a)->H' b=some (.own a)) (ht:∀b xs,H b=some (.tup xs)->H' b=some (.tup xs)):cZ P w H' h' a o:=by
 induction o with
 | lst xs=>obtain⟨z,its,n,r,e⟩:=x;exact⟨z,its,n,r,k _ _ (.inl rfl) e⟩
 | tup xs=>obtain⟨z,its,r,ob,e,c⟩:=x;exact⟨z,its,r,ob,k _ _ (.inl rfl) e,c⟩
 | dK eM=>obtain⟨z,y,vs,r,ob,es,ep,e,c⟩:=x;exact⟨z,y,vs,r,ob,es,ep,k _ _ (.inl rfl) e,c⟩
 | dT eM=>
  obtain⟨z,y,xs,r,ob,es,ep,e,c⟩:=x
  exact⟨z,y,xs,Paired.Ho r λp q z=>⟨z.1,ht _ _ z.2.1,z.2.2⟩,ob,es,ep,k _ _ (.inl rfl) e,c⟩
 | set S n=>obtain⟨ob,es,ep,t,e,c⟩:=x;exact⟨ob,es,ep,t,k _ _ (.inl rfl) e,c⟩
 | ins C dx fs=>
  obtain⟨d,z,ne,e,mA,⟨od,es,ep,e2,c⟩,r⟩:=x
  exact⟨ho _ d,z,ne,k _ _ (.inl rfl) e,mA,⟨od,es,ep,k _ _ (.inr d) e2,c⟩,r⟩
 | own y=>obtain⟨ob,e⟩:=x;exact⟨ob,k _ _ (.inl rfl) e⟩
 | xd fs=>obtain⟨mA,⟨od,es,ep,e,c⟩,r⟩:=x;exact⟨mA,⟨od,es,ep,k _ _ (.inl rfl) e,c⟩,r⟩
 | Kq lo hi=>obtain⟨t,u,v,e⟩:=x;exact⟨t,u,v,k _ _ (.inl rfl) e⟩
 | wF ob u ih=>obtain⟨e,q⟩:=x;exact⟨k _ _ (.inl rfl) e,ih q⟩
 | Ea ps=>
  have e:h.get? a=some { cls:=.none,data:=.fields ps }:=x
  show h'.get? a=some { cls:=.none,data:=.fields ps }
  exact k a _ (.inl rfl) e
 | met f y=>
  have e:h.get? a=some (PySem.W.methodObj (.ref f) (.ref y)):=x
  show h'.get? a=some (PySem.W.methodObj (.ref f) (.ref y))
  exact k a _ (.inl rfl) e
 | ext φ=>obtain⟨p,⟨o,e⟩,st⟩:=x;exact⟨st _ _ p λo q=>k _ _ (.inl rfl) q,⟨o,k _ _ (.inl rfl) e⟩,st⟩
theorem lh.lt(x:lh P w H h)(e:H a=some o):a<h.objs.size:=(x a o e).lt
theorem lh.fresh(x:lh P w H h)(e:h.objs.size<=a):H a=none:=by
 cases q:H a with
 | none=>rfl
 | some u=>exact absurd (fu (x.lt q) e) (jo _)
theorem lh.kept(x:lh P w H h)(k:∀b u,h.get? b=some u->h'.get? b=some u):lh P w H h':=λa o e=>
 (x a o e).stay (λb u _ q=>k b u q) (λ_ q=>q) λ_ _ q=>q
theorem lh.laid(x:lh P w H h)(k:∀b u,h.get? b=some u->h'.get? b=some u)(hp:h.objs.size<=a)(new:cZ P w (upd H a o) h' a o):lh P w (upd H a o) h':=λb u e=>by
 have hn:=x.fresh hp
 by_cases hb:b=a
 ·subst hb;rw[aq]at e;cases e;exact new
 ·rw[aD hb]at e
  exact(x b u e).stay (λc v _ q=>k c v q) (λc q=>by rw[aD (aG q hn)];exact q) λc xs q=>by rw[aD (aG q hn)];exact q
end
def Rd(H:Hp)(a:Addr)(u:HO):Prop:=H a=some u\/∃o,H a=some (.wF o u)
theorem Rd.ok{P:Program}{w:World}{H:Hp}{h:Heap}{a:Addr}{u:HO}(r:Rd H a u)(x:lh P w H h):cZ P w H h a u:=by
 rcases r with r | ⟨o,r⟩
 ·exact x a u r
 ·obtain⟨_,q⟩:=x a _ r
  exact q
def J0:Option HO->Prop
 | some (.lst _)=>True
 | some (.dK _)=>True
 | some (.dT _)=>True
 | some (.set _ _)=>True
 | some (.ins _ _ _)=>True
 | some (.ext _)=>True
 | _=>False
section
variable {P:Program}{w:World}{H:Hp}{h h':Heap}{x e:Addr}{o':HO}
theorem lh.write(ok:lh P w H h)(mu:J0 (H x))(he:e=x\/H e=some (.own x))(k:∀b u,b≠e->h.get? b=some u->h'.get? b=some u)(GD:∃u,h'.get? e=some u)
  (new:cZ P w (upd H x o') h' x o'):lh P w (upd H x o') h':=λb u q=>by
 have Hk:∀c y,H c=some (.own y)->c≠x:=λc y r z=>by subst z;rw[r]at mu;exact mu
 have uW:∀c xs,H c=some (.tup xs)->c≠x:=λc xs r z=>by subst z;rw[r]at mu;exact mu
 by_cases hb:b=x
 ·subst hb;rw[aq]at q;cases q;exact new
 ·rw[aD hb]at q
  by_cases FN:b=e
  ·have q':H b=some (.own x):=by
    rcases he with z | z
    ·exact absurd (FN.trans z) hb
    ·rw[FN];exact z
   rw[q]at q';cases q'
   obtain⟨v,hv⟩:=GD
   exact⟨v,by rw[FN];exact hv⟩
  ·refine(ok b u q).stay (λc v hc r=>k c v ?_ r) (λc r=>by rw[aD (Hk c b r)];exact r) λc xs r=>by rw[aD (uW c xs r)];exact r
   rcases hc with rfl | hc
   ·exact FN
   ·rintro rfl
    rcases he with z | z
    ·exact Hk c b hc z
    ·rw[hc]at z;cases z;exact hb rfl
end
structure Un(fs ex:List Addr)(H H':Hp)(h h':Heap):Prop where
 keep:∀b o,h.get? b=some o->H b=none->b∉fs->b∉ex->h'.get? b=some o
 slot:∀b o,h.get? b=some o->H b=none->b∈fs->b∉ex->∃sl,h'.get? b=some { o with slots:=sl }
 free:∀b o,h.get? b=some o->H b=none->b∉ex->H' b=none
 there:∀b o,h.get? b=some o->b∉ex->∃o',h'.get? b=some o'
 tups:∀b xs,H b=some (.tup xs)->H' b=some (.tup xs)
 frzs:∀b o u,H b=some (.wF o u)->H' b=some (.wF o u)
 tbls:∀b ps,H b=some (.Ea ps)->∃more,H' b=some (.Ea (ps++more))
section
variable {fs Uo ex V':List Addr}{H H1 H2:Hp}{h h1 h2 h':Heap}{a x e:Addr}{o:HO}
theorem Un.any(u:Un fs ex H H1 h h1){b:Addr}{ob:Obj}(q:h.get? b=some ob)(n:H b=none)(hx:b∉ex):∃sl,h1.get? b=some { ob with slots:=sl }:=by
 by_cases hb:b∈fs
 ·exact u.slot b ob q n hb hx
 ·exact⟨ob.slots,u.keep b ob q n hb hx⟩
theorem Un.kept(k:∀b u,h.get? b=some u->h'.get? b=some u):Un fs ex H H h h':=
 ⟨λb ob q _ _ _=>k b ob q,λb ob q _ _ _=>⟨ob.slots,k b ob q⟩,λ_ _ _ n _=>n,λb ob q _=>⟨ob,k b ob q⟩,λ_ _ q=>q,λ_ _ _ q=>q,λ_ ps q=>⟨#[],by rw[q];simp⟩⟩
theorem Un.refl:Un fs ex H H h h:=Un.kept λ_ _ q=>q
theorem Un.laid(k:∀b u,h.get? b=some u->h'.get? b=some u)(hp:h.objs.size<=a)(hn:H a=none):Un fs ex H (upd H a o) h h' where
 keep:=λb u q _ _ _=>k b u q
 slot:=λb u q _ _ _=>⟨u.slots,k b u q⟩
 free:=λb u q n _=>by rw[aD (dk (fu (bL q) hp))];exact n
 there:=λb u q _=>⟨u,k b u q⟩
 tups:=λb xs q=>by rw[aD (aG q hn)];exact q
 frzs:=λb u xs q=>by rw[aD (aG q hn)];exact q
 tbls:=λb ps q=>⟨#[],by rw[aD (aG q hn),q];simp⟩
theorem Un.write(mu:J0 (H x))(he:e=x\/H e=some (.own x))(k:∀b u,b≠e->h.get? b=some u->h'.get? b=some u)(GD:∃u,h'.get? e=some u):Un fs ex H (upd H x o) h h':=by
 have hx:∀b,H b=none->b≠x:=λb n z=>by subst z;rw[n]at mu;exact mu
 have hb:∀b,H b=none->b≠e:=λb n z=>by
  subst z
  rcases he with r | r
  ·exact hx b n r
  ·rw[n]at r;cases r
 have hm:∀b u,H b=some u->¬J0 (some u)->b≠x:=λb u q nm z=>by subst z;rw[q]at mu;exact nm mu
 refine⟨λb u q n _ _=>k b u (hb b n) q,λb u q n _ _=>⟨u.slots,k b u (hb b n) q⟩,λb u q n _=>by rw[aD (hx b n)];exact n,λb u q _=>?_,
  λb xs q=>by rw[aD (hm b _ q λz=>z)];exact q,λb u xs q=>by rw[aD (hm b _ q λz=>z)];exact q,λb ps q=>⟨#[],by rw[aD (hm b _ q λz=>z),q];simp⟩⟩
 by_cases FN:b=e
 ·subst FN;exact GD
 ·exact⟨u,k b u FN q⟩
end
def Jj(h:Heap)(H:Hp):List Addr:=(List.range h.objs.size).filter λa=>(H a).isSome
def rn(h:Heap)(H:Hp):Heap:=PySem.W.hideAll h (Jj h H)
theorem x9(h:Heap)(H:Hp):(rn h H).objs.size=h.objs.size:=PySem.W.hideAll_size _ _
theorem zL{h:Heap}{H:Hp}{b:Addr}{o:Obj}(e:h.get? b=some o)(n:H b=none):(rn h H).get? b=some o:=
 PySem.W.hideAll_get _ e λhm=>by
  have q:(H b).isSome=true:=(List.mem_filter.mp hm).2
  rw[n]at q;simp at q
theorem Cd{h:Heap}{H:Hp}{b:Addr}{o:Obj}(e:(rn h H).get? b=some o):h.get? b=some o/\H b=none:=by
 have e':h.get? b=some o:=PySem.W.of_hideAll (Jj h H) e
 refine⟨e',?_⟩
 cases q:H b with
 | none=>rfl
 | some x=>
  have hm:b∈Jj h H:=List.mem_filter.mpr ⟨qw.mpr (bL e'),by simp[q]⟩
  have z:(rn h H).get? b=none:=PySem.W.hideAll_none (Jj h H) hm
  rw[z]at e;cases e
def CZ(g h:Heap)(L:Addr):List (Addr×Obj):=(List.range h.objs.size).filterMap λa=>if a=L\/(g.get? a).isSome=true then none else (h.get? a).map λo=>(a,o)
def rest(g h:Heap)(L d:Addr):List (Addr×Obj):=(CZ g h L).filter λp=>decide (p.1≠d)
end L2
namespace L2
open PySem PySem.Spec PyProof.Rows
structure Mod(K:PySem.W.Frag)(mg:Str->Option Value)(base:Heap):Prop where
 Hr:K.In base
 glob:base.Ns mainGlobals mg
 blt:∃mb,base.Ns builtinsNs mb/\∀x:Str,x≠"__name__"->mb x=bootBuiltins x
 nolimit:base.NoLimit
structure Cx where
 prog:Program
 w:World
 K:PySem.W.Frag
 mg:Str->Option Value
 base:Heap
 A:Around
 N:List Str
 s₀:Shared
 H₀:Hp
 env:Env
 outer:List Env
 stack:List Env
 ex:List Addr
 fn:Str->Bool
 calm:Bool
 pn:List (Addr×Obj)
 xe:Value->Shared->Prop
def gP(l:List Env):List Addr:=l.filterMap (·.frame)
abbrev Cx.fs(X:Cx):List Addr:=gP X.outer
def GP(sc:Scope)(x:Str):Prop:=sc.names.lookup x=some .local\/sc.names.lookup x=some .cell\/sc.names.lookup x=some .free
def Loc(sc:Scope)(x:Str):Prop:=sc.names.lookup x=some .local\/sc.names.lookup x=some .cell
def Look(env:Env)(h:Heap)(m:Str->Option Value)(x:Str)(u:Value):Prop:=
 (env.kindOf x=some .local/\m x=some u)\/((env.kindOf x=some .cell\/env.kindOf x=some .free)/\∃c,env.cells.lookup x=some c/\h.IsCell c (some u))
structure Cx.Ok(X:Cx):Prop where
 mod:Mod X.K X.mg X.base
 kind:X.env.scope.kind=.function
 glob:X.env.globals=mainGlobals
 blt:X.env.builtins=builtinsNs
 above:X.s₀.heap.objs.size<=X.env.locals
 inj:∀x y c,X.env.cells.lookup x=some c->X.env.cells.lookup y=some c->x=y
 has:∀x,(X.env.kindOf x=some .cell\/X.env.kindOf x=some .free)->∃c,X.env.cells.lookup x=some c
 CW:∀x c,X.fn x=true->X.env.cells.lookup x=some c->X.s₀.heap.objs.size<=c
 hd:X.calm=true->X.A.handled=none
 frames:X.A.frames=some X.stack
 Dp:X.stack=X.outer\/(X.stack=X.env::X.outer/\X.env.frame=some X.env.locals)
 GL:∀b∈X.ex,b≠X.env.locals/\∀x c,X.env.cells.lookup x=some c->c≠b
 bs:∀b o,X.base.get? b=some o->X.s₀.heap.get? b=some o/\X.H₀ b=none
 yt:X.base.objs.size<=X.s₀.heap.objs.size
 qS:∀b o,X.base.get? b=some o->b∉X.ex
 tQ:∀b∈X.ex,b∉X.fs
 jT:X.s₀.heap.FunFrames X.base X.outer
 Af:∀b∈X.fs,X.H₀ b=none
structure Inv(X:Cx)(pins:List (Addr×Obj))(σ:List (Option V))(H:Hp)(s:Shared):Prop where
 ok:X.Ok
 os:s.os=X.s₀.os
 bare:AllBare s.gens
 base:Un X.fs X.ex X.H₀ H X.s₀.heap s.heap
 loc:∃m,s.heap.Ns X.env.locals m/\∀(i:Nat) (x:Str) (v:V),X.N[i]?=some x->σ[i]?=some (some v)->GP X.env.scope x->∃u,RelV v u/\Look X.env s.heap m x u
 cell:∀x c,X.env.cells.lookup x=some c->∃v,s.heap.IsCell c v
 free:H X.env.locals=none
 dS:∀x c,X.env.cells.lookup x=some c->H c=none
 pin:∀p∈X.pn++pins,s.heap.get? p.1=some p.2/\H p.1=none/\p.1≠X.env.locals/\p.1∉X.fs/\∀v,p.2.data≠.cell v
 bY:lh X.prog X.w H s.heap
 len:σ.length=X.N.length
section
variable {X:Cx}{pins:List (Addr×Obj)}{σ:List (Option V)}{H H':Hp}{s:Shared}{h':Heap}
theorem Cx.Ok.Lk(ok:X.Ok){b:Addr}{o:Obj}(e:X.base.get? b=some o):b∉X.fs:=λhb=>by
 have:=(ok.jT.mem hb).1
 rw[e]at this;cases this
theorem Inv.bs(I:Inv X pins σ H s):∀b o,X.base.get? b=some o->s.heap.get? b=some o/\H b=none:=λb o e=>
 ⟨I.base.keep b o (I.ok.bs b o e).1 (I.ok.bs b o e).2 (I.ok.Lk e) (I.ok.qS b o e),I.base.free b o (I.ok.bs b o e).1 (I.ok.bs b o e).2 (I.ok.qS b o e)⟩
theorem Inv.bk(I:Inv X pins σ H s):∀b o,X.base.get? b=some o->s.heap.get? b=some o:=λb o e=>(I.bs b o e).1
theorem Inv.mod(I:Inv X pins σ H s):Mod X.K X.mg X.base:=I.ok.mod
theorem Inv.mV(I:Inv X pins σ H s):X.K.In s.heap:=I.ok.mod.Hr.keeps I.bk
theorem Inv.lt(I:Inv X pins σ H s):X.env.locals<s.heap.objs.size:=let ⟨_,hn,_⟩:=I.loc;hn.lt
theorem Inv.sz(I:Inv X pins σ H s):X.s₀.heap.objs.size<=s.heap.objs.size:=dD I.ok.above (nB I.lt)
theorem Inv.Lj(I:Inv X pins σ H s){a:Addr}(h:s.heap.objs.size<=a):a∉X.fs:=λhb=>by
 obtain⟨_,o,ho,_⟩:=I.ok.jT.mem hb
 exact absurd (fu (bL ho) (dD I.sz h)) (jo _)
theorem Inv.CV(I:Inv X pins σ H s):∀x c,X.env.cells.lookup x=some c->c≠X.env.locals:=λx c e z=>by
 obtain⟨v,o,ho,hd⟩:=I.cell x c e
 obtain⟨m,⟨o',es,ep,rM,JD,_⟩,_⟩:=I.loc
 rw[z,rM]at ho;cases ho;rw[JD]at hd;cases hd
theorem Inv.jT(I:Inv X pins σ H s):s.heap.FunFrames X.base X.outer:=by
 have all:∀(l:List Env),(∀b∈gP l,b∈X.fs)->X.s₀.heap.FunFrames X.base l->s.heap.FunFrames X.base l:=by
  intro l
  induction l with
  | nil=>intro _ _;trivial
  | cons env r ih=>
   intro hs hl
   obtain⟨hk,⟨L,o,hf,hn,ho,hd⟩,hr⟩:=hl
   have hL:L∈X.fs:=hs L (by unfold gP;rw[uz,hf];exact fw)
   obtain⟨sl,e⟩:=I.base.slot L o ho (I.ok.Af L hL) hL λz=>I.ok.tQ L z hL
   exact⟨hk,⟨L,_,hf,hn,e,hd⟩,ih (λb hb=>hs b (by unfold gP;rw[uz,hf];exact fz _ hb)) hr⟩
 exact all X.outer (λ_ hb=>hb) I.ok.jT
theorem Inv.stack(I:Inv X pins σ H s):s.heap.FunFrames X.base X.stack:=by
 rcases I.ok.Dp with e | ⟨e,hf⟩
 ·rw[e];exact I.jT
 ·rw[e]
  obtain⟨m,hn,_⟩:=I.loc
  refine .cons (by rw[I.ok.kind];decide) hf hn ?_ I.jT
  exact vz (dD I.ok.yt I.ok.above)
theorem Inv.nU(I:Inv X pins σ H s):∀b∈gP X.stack,b∈X.env.locals::X.fs:=λb hb=>by
 rcases I.ok.Dp with e | ⟨e,hf⟩
 ·rw[e]at hb;exact fz _ hb
 ·rw[e]at hb
  unfold gP at hb
  rw[uz,hf]at hb
  exact hb
theorem Inv.ku(I:Inv X pins σ H s):∀b∈gP X.stack,H b=none:=λb hb=>by
 rcases fH.mp (I.nU b hb) with e | hb
 ·rw[e];exact I.free
 ·obtain⟨_,o,ho,_⟩:=I.ok.jT.mem hb
  exact I.base.free b o ho (I.ok.Af b hb) λz=>I.ok.tQ b z hb
theorem Inv.step{g':Array GenState}{t':Nat}{d':Drawn}{ch:List Addr}(I:Inv X pins σ H s)
  (hX:∀b∈ch,(b∈X.ex\/X.s₀.heap.objs.size<=b)/\b≠X.env.locals/\(∀x c,X.env.cells.lookup x=some c->c≠b)/\∀p∈X.pn++pins,p.1≠b)
  (keep:∀b o,b≠X.env.locals->b∉X.fs->b∉ch->s.heap.get? b=some o->H b=none->h'.get? b=some o)
  (slot:∀b o,b≠X.env.locals->b∈X.fs->b∉ch->s.heap.get? b=some o->H b=none->∃sl,h'.get? b=some { o with slots:=sl }) (free:∀b o,b∉ch->s.heap.get? b=some o->H b=none->H' b=none)
  (there:∀b o,b∉ch->s.heap.get? b=some o->∃o',h'.get? b=some o')
  (tups:∀b xs,H b=some (.tup xs)->H' b=some (.tup xs)) (frzs:∀b o u,H b=some (.wF o u)->H' b=some (.wF o u)) (tbls:∀b ps,H b=some (.Ea ps)->∃more,H' b=some (.Ea (ps++more)))
  (ns:∀m,s.heap.Ns X.env.locals m->h'.Ns X.env.locals m) (bY:lh X.prog X.w H' h') (hg:AllBare g') :
  Inv X pins σ H' { s with heap:=h',gens:=g',drawn:=d',toks:=t' }:=by
 have O7:∀b o,X.s₀.heap.get? b=some o->b≠X.env.locals:=λb o e=>dk (fu (bL e) I.ok.above)
 have Jv:∀b o,X.s₀.heap.get? b=some o->b∉X.ex->b∉ch:=λb o e hx hb=>by
  rcases(hX b hb).1 with z | z
  ·exact hx z
  ·exact absurd (fu (bL e) z) (jo _)
 have cellK:∀x c,X.env.cells.lookup x=some c->∀v,s.heap.IsCell c v->h'.IsCell c v:=λx c e v ⟨o,ho,hd⟩=>by
  have Hn:c∉ch:=λz=>(hX c z).2.2.1 x c e rfl
  by_cases hc:c∈X.fs
  ·obtain⟨sl,q⟩:=slot c o (I.CV x c e) hc Hn ho (I.dS x c e)
   exact⟨_,q,hd⟩
  ·exact⟨o,keep c o (I.CV x c e) hc Hn ho (I.dS x c e),hd⟩
 refine⟨I.ok,I.os,hg,⟨λb o e n hb hx=>?_,λb o e n hb hx=>?_,λb o e n hx=>?_,λb o e hx=>?_,λb xs e=>tups b xs (I.base.tups b xs e),λb o xs e=>frzs b o xs (I.base.frzs b o xs e),λb ps e=>?_⟩,?_,λx c e=>?_,?_,λx c e=>?_,λp hp=>?_,bY,I.len⟩
 ·exact keep b o (O7 b o e) hb (Jv b o e hx) (I.base.keep b o e n hb hx) (I.base.free b o e n hx)
 ·obtain⟨sl,e1⟩:=I.base.slot b o e n hb hx
  obtain⟨Kl,e2⟩:=slot b _ (O7 b o e) hb (Jv b o e hx) e1 (I.base.free b o e n hx)
  exact⟨Kl,e2⟩
 ·obtain⟨o',e1⟩:=I.base.there b o e hx
  exact free b o' (Jv b o e hx) e1 (I.base.free b o e n hx)
 ·obtain⟨o',e1⟩:=I.base.there b o e hx
  exact there b o' (Jv b o e hx) e1
 ·obtain⟨m1,e1⟩:=I.base.tbls b ps e
  obtain⟨m2,e2⟩:=tbls b _ e1
  exact⟨m1++m2,by rw[e2,uw]⟩
 ·obtain⟨m,hn,hl⟩:=I.loc
  refine⟨m,ns m hn,λi x v e1 e2 e3=>?_⟩
  obtain⟨u,r,l⟩:=hl i x v e1 e2 e3
  refine⟨u,r,?_⟩
  rcases l with l | ⟨k,c,e,z⟩
  ·exact .inl l
  ·exact .inr ⟨k,c,e,cellK x c e _ z⟩
 ·obtain⟨v,z⟩:=I.cell x c e
  exact⟨v,cellK x c e v z⟩
 ·obtain⟨m,⟨o,_,_,ho,_⟩,_⟩:=I.loc
  exact free _ o (λz=>(hX _ z).2.1 rfl) ho I.free
 ·obtain⟨v,o,ho,hd⟩:=I.cell x c e
  exact free c o (λz=>(hX c z).2.2.1 x c e rfl) ho (I.dS x c e)
 ·obtain⟨e,n,ne,nf,d⟩:=I.pin p hp
  have Hn:p.1∉ch:=λz=>(hX p.1 z).2.2.2 p hp rfl
  exact⟨keep p.1 p.2 ne nf Hn e n,free p.1 p.2 Hn e n,ne,nf,d⟩
theorem Inv.un{t':Nat}(I:Inv X pins σ H s)(u:Un X.fs [] H H' s.heap h')(bY:lh X.prog X.w H' h'):Inv X pins σ H' { s with heap:=h',toks:=t' }:=by
 obtain⟨m,⟨o,es,ep,ho,r⟩,_⟩:=id I.loc
 obtain⟨sl,hL⟩:=u.any ho I.free (by simp)
 exact I.step (g':=s.gens) (d':=s.drawn) (ch:=[]) (λ_ z=>nomatch z) (λb o _ hb _ e n=>u.keep b o e n hb (by simp)) (λb o _ hb _ e n=>u.slot b o e n hb (by simp)) (λb o _ e n=>u.free b o e n (by simp)) (λb o _ e=>u.there b o e (by simp)) u.tups u.frzs u.tbls (λm' hm=>by
  obtain⟨o',DK,JR,rM,r'⟩:=hm
  rw[ho]at rM;cases rM
  exact⟨_,DK,JR,hL,r'⟩) bY I.bare
theorem Inv.call{g':Array GenState}{t':Nat}{d':Drawn}{ch:List Addr}(I:Inv X pins σ H s)(u:Un (gP X.stack) ch H H' s.heap h')(bY:lh X.prog X.w H' h')(hg:AllBare g')
  (hX:∀b∈ch,(b∈X.ex\/X.s₀.heap.objs.size<=b)/\b≠X.env.locals/\(∀x c,X.env.cells.lookup x=some c->c≠b)/\∀p∈X.pn++pins,p.1≠b) :
  Inv X pins σ H' { s with heap:=h',gens:=g',drawn:=d',toks:=t' }:=by
 obtain⟨m,⟨o,es,ep,ho,r⟩,_⟩:=id I.loc
 obtain⟨sl,hL⟩:=u.any ho I.free λz=>(hX _ z).2.1 rfl
 exact I.step (ch:=ch) hX (λb o hL hb hc e n=>u.keep b o e n (λz=>(fH.mp (I.nU b z)).elim hL hb) hc) (λb o _ _ hc e n=>u.any e n hc) (λb o hc e n=>u.free b o e n hc) (λb o hc e=>u.there b o e hc) u.tups u.frzs u.tbls (λm' hm=>by
  obtain⟨o',DK,JR,rM,r'⟩:=hm
  rw[ho]at rM;cases rM
  exact⟨_,DK,JR,hL,r'⟩) bY hg
theorem Inv.turned{t':Nat}{it:Addr}(I:Inv X pins σ H s)(k:∀b o,b≠it->s.heap.get? b=some o->h'.get? b=some o)(hn:H it=none)(hL:it≠X.env.locals)
  (h1:it∈X.ex\/X.s₀.heap.objs.size<=it) (h2:∀x c,X.env.cells.lookup x=some c->c≠it) (h3:∀p∈X.pn++pins,p.1≠it):Inv X pins σ H { s with heap:=h',toks:=t' }:=by
 have O6:∀b u,H b=some u->b≠it:=λb u e z=>by rw[z,hn]at e;cases e
 refine I.step (g':=s.gens) (d':=s.drawn) (ch:=[it]) (λb hb=>?_) (λb o _ _ hc e _=>k b o (λz=>hc (by simp[z])) e) (λb o _ _ hc e _=>⟨o.slots,k b o (λz=>hc (by simp[z])) e⟩) (λ_ _ _ _ n=>n)
  (λb o hc e=>⟨o,k b o (λz=>hc (by simp[z])) e⟩) (λ_ _ e=>e) (λ_ _ _ e=>e) (λb ps e=>⟨#[],by rw[e];simp⟩) (λm hm=>?_) (λb u e=>?_) I.bare
 ·have e:b=it:=by simpa using hb
  subst e
  exact⟨h1,hL,h2,h3⟩
 ·obtain⟨o,es,ep,ho,r⟩:=hm
  exact⟨o,es,ep,k _ o (ic hL) ho,r⟩
 ·refine(I.bY b u e).stay (λc v hc q=>k c v ?_ q) (λ_ q=>q) λ_ _ q=>q
  rcases hc with z | z
  ·rw[z];exact O6 b u e
  ·exact O6 c _ z
theorem Inv.tok(I:Inv X pins σ H s)(t:Nat):Inv X pins σ H { s with toks:=t }:=I.un (h':=s.heap) (t':=t) Un.refl I.bY
theorem Inv.kept{t':Nat}(I:Inv X pins σ H s)(k:∀b u,s.heap.get? b=some u->h'.get? b=some u):Inv X pins σ H { s with heap:=h',toks:=t' }:=I.un (Un.kept k) (I.bY.kept k)
theorem Inv.laid{a:Addr}{o:HO}{t':Nat}(I:Inv X pins σ H s)(k:∀b u,s.heap.get? b=some u->h'.get? b=some u)(hp:s.heap.objs.size<=a)(new:cZ X.prog X.w (upd H a o) h' a o) :
  Inv X pins σ (upd H a o) { s with heap:=h',toks:=t' }:=I.un (Un.laid k hp (I.bY.fresh hp)) (I.bY.laid k hp new)
theorem Inv.write{x e:Addr}{o:HO}{t':Nat}(I:Inv X pins σ H s)(mu:J0 (H x))(he:e=x\/H e=some (.own x))(k:∀b u,b≠e->s.heap.get? b=some u->h'.get? b=some u)(GD:∃u,h'.get? e=some u)
  (new:cZ X.prog X.w (upd H x o) h' x o):Inv X pins σ (upd H x o) { s with heap:=h',toks:=t' }:=I.un (Un.write mu he k GD) (I.bY.write mu he k GD new)
theorem Inv.v8{fP:List (Addr×Obj)}(I:Inv X pins σ H s)(h:∀p∈fP,s.heap.get? p.1=some p.2/\H p.1=none/\p.1≠X.env.locals/\p.1∉X.fs/\∀v,p.2.data≠.cell v):Inv X fP σ H s:=
 ⟨I.ok,I.os,I.bare,I.base,I.loc,I.cell,I.free,I.dS,λp hp=>(dm.mp hp).elim (λz=>I.pin p (pE _ z)) (h p),I.bY,I.len⟩
theorem oo{N:List Str}(hN:N.Nodup){i j:Nat}{x:Str}(a:N[i]?=some x)(b:N[j]?=some x):i=j:=by
 obtain⟨h1,e1⟩:=fK.mp a
 obtain⟨h2,e2⟩:=fK.mp b
 exact(List.getElem_inj hN).mp (e1.trans e2.symm)
theorem p6{M:Model}{A:Around}{E:Value->Shared->Prop}{i:Nat}{x:Str}{v:V}{u:Value}{Q:Unit->Shared->Prop}(I:Inv X pins σ H s)(hN:X.N.Nodup)(hi:X.N[i]?=some x)(hx:Loc X.env.scope x)(r:RelV v u)
  (h:∀s',Inv X pins (σ.set i (some v)) H s'->(∃a,Heap.SameBut a s.heap s'.heap/\(a=X.env.locals\/X.env.cells.lookup x=some a))->Q () s') (hf:X.fn x=true\/X.env.scope.names.lookup x=some .local:=by first | exact .inl rfl | exact .inr rfl | assumption):wpAny M A (storeName X.env x u) Q E s:=by
 obtain⟨m,hn,hl⟩:=id I.loc
 have FJ:(X.env.scope.kind == .class||(X.env.scope.kind == .module&&X.env.locals != X.env.globals))=false:=by rw[I.ok.kind];rfl
 have GC:i<σ.length:=by rw[I.len];exact(fK.mp hi).1
 have CV:=I.CV
 have tracked:∀{a:Addr} {h':Heap},(∃o,s.heap.get? a=some o/\H a=none)->Heap.SameBut a s.heap h'->lh X.prog X.w H h':=λ{a h'} ha hs b ob e=>by
  obtain⟨_,_,tG⟩:=ha
  refine(I.bY b ob e).stay (λc w' hc q=>(hs.2 c ?_).trans q) (λ_ q=>q) λ_ _ q=>q
  rintro rfl
  rcases hc with rfl | hc
  ·rw[tG]at e;cases e
  ·rw[tG]at hc;cases hc
 rcases hx with hk | hk
 ·refine wpAny_storeName_local hk hn (λh' Mr hs=>?_) FJ
  obtain⟨oL,_,_,Ts,_⟩:=id hn
  refine h _ ⟨I.ok,I.os,I.bare,⟨λb o e n hb hx=>?_,λb o e n hb hx=>?_,I.base.free,λb o e hx=>?_,I.base.tups,I.base.frzs,I.base.tbls⟩,⟨_,Mr,λj y v' e1 e2 e3=>?_⟩,λy c e=>?_,I.free,I.dS,λp hp=>?_,tracked ⟨oL,Ts,I.free⟩ hs,by simpa using I.len⟩ ⟨_,hs,.inl rfl⟩
  ·exact(hs.2 b (dk (fu (bL e) I.ok.above))).trans (I.base.keep b o e n hb hx)
  ·obtain⟨sl,e1⟩:=I.base.slot b o e n hb hx
   exact⟨sl,(hs.2 b (dk (fu (bL e) I.ok.above))).trans e1⟩
  ·obtain⟨o',e1⟩:=I.base.there b o e hx
   exact⟨o',(hs.2 b (dk (fu (bL e) I.ok.above))).trans e1⟩
  ·by_cases hj:j=i
   ·subst hj
    rw[hi]at e1;cases e1
    rw[vH GC]at e2
    cases e2
    exact⟨u,r,.inl ⟨hk,by simp⟩⟩
   ·rw[uA (ic hj)]at e2
    obtain⟨u',r',q⟩:=hl j y v' e1 e2 e3
    refine⟨u',r',?_⟩
    rcases q with ⟨k,e⟩ | ⟨k,c,e,z⟩
    ·refine .inl ⟨k,?_⟩
     have:y≠x:=λe=>hj (oo hN e1 (e ▸ hi))
     simp[this,e]
    ·exact .inr ⟨k,c,e,z.sameBut hs (CV y c e)⟩
  ·obtain⟨w',z⟩:=I.cell y c e
   exact⟨w',z.sameBut hs (CV y c e)⟩
  ·obtain⟨e,n,ne,nf,d⟩:=I.pin p hp
   exact⟨(hs.2 p.1 ne).trans e,n,ne,nf,d⟩
 ·have Mv:X.fn x=true:=by
   rcases hf with z | z
   ·exact z
   ·rw[z]at hk;cases hk
  obtain⟨c,hc⟩:=I.ok.has x (.inl hk)
  obtain⟨w',z⟩:=I.cell x c hc
  refine wpAny_storeName_cell I.ok.kind hk hc z (λh' Qb hs=>?_)
  obtain⟨oc,P0,Mp⟩:=id z
  refine h { s with heap:=h' } ⟨I.ok,I.os,I.bare,⟨λb o e n hb hx=>?_,λb o e n hb hx=>?_,I.base.free,λb o e hx=>?_,I.base.tups,I.base.frzs,I.base.tbls⟩,⟨m,hn.sameBut hs (ic (CV x c hc)),λj y v' e1 e2 e3=>?_⟩,λy c' e=>?_,I.free,I.dS,λp hp=>?_,tracked ⟨oc,P0,I.dS x c hc⟩ hs,by simpa using I.len⟩ ⟨c,hs,.inr hc⟩
  ·exact(hs.2 b (dk (fu (bL e) (I.ok.CW x c Mv hc)))).trans (I.base.keep b o e n hb hx)
  ·obtain⟨sl,e1⟩:=I.base.slot b o e n hb hx
   exact⟨sl,(hs.2 b (dk (fu (bL e) (I.ok.CW x c Mv hc)))).trans e1⟩
  ·obtain⟨o',e1⟩:=I.base.there b o e hx
   exact⟨o',(hs.2 b (dk (fu (bL e) (I.ok.CW x c Mv hc)))).trans e1⟩
  ·by_cases hj:j=i
   ·subst hj
    rw[hi]at e1;cases e1
    rw[vH GC]at e2
    cases e2
    exact⟨u,r,.inr ⟨.inl hk,c,hc,Qb⟩⟩
   ·rw[uA (ic hj)]at e2
    obtain⟨u',r',q⟩:=hl j y v' e1 e2 e3
    refine⟨u',r',?_⟩
    rcases q with q | ⟨k,c',e,z'⟩
    ·exact .inl q
    ·refine .inr ⟨k,c',e,z'.sameBut hs ?_⟩
     rintro rfl
     exact hj (oo hN e1 (I.ok.inj _ _ _ e hc ▸ hi))
  ·by_cases P9:c'=c
   ·subst P9;exact⟨_,Qb⟩
   ·obtain⟨w2,z2⟩:=I.cell y c' e
    exact⟨w2,z2.sameBut hs P9⟩
  ·obtain⟨e,n,ne,nf,d⟩:=I.pin p hp
   refine⟨(hs.2 p.1 ?_).trans e,n,ne,nf,d⟩
   intro q
   rw[q,P0]at e
   have q':oc=p.2:=dU e
   exact d w' (by rw[<-q'];exact Mp)
theorem iC{M:Model}{A:Around}{E:Value->Shared->Prop}{i:Nat}{x:Str}{v:V}{u:Value}{Q:Unit->Shared->Prop}(I:Inv X pins σ H s)(hN:X.N.Nodup)(hi:X.N[i]?=some x)(hx:Loc X.env.scope x)(r:RelV v u)
  (h:∀s',Inv X pins (σ.set i (some v)) H s'->Q () s') (hf:X.fn x=true\/X.env.scope.names.lookup x=some .local:=by first | exact .inl rfl | exact .inr rfl | assumption):wpAny M A (storeName X.env x u) Q E s:=
 p6 I hN hi hx r (λs' I' _=>h s' I') hf
theorem Inv.call'{s':Shared}{ch:List Addr}(I:Inv X pins σ H s)(ho:s'.os=s.os)(u:Un (gP X.stack) ch H H' s.heap s'.heap)(bY:lh X.prog X.w H' s'.heap)(hg:AllBare s'.gens)
  (hX:∀b∈ch,(b∈X.ex\/X.s₀.heap.objs.size<=b)/\b≠X.env.locals/\(∀x c,X.env.cells.lookup x=some c->c≠b)/\∀p∈X.pn++pins,p.1≠b):Inv X pins σ H' s':=by
 obtain⟨h',g',d',t',o'⟩:=s'
 have e:o'=s.os:=ho
 subst e
 exact I.call (g':=g') (t':=t') (d':=d') u bY hg hX
end
abbrev XK:=Value->Option Addr->Hp->Prop
abbrev St:=List (Option V)
abbrev VK:=V->Hp->Prop
abbrev TE:=St->Hp->VK->Prop
abbrev TT:=St->Hp->(Bool->Hp->Prop)->Prop
abbrev TA:=St->Hp->(List V->Hp->Prop)->Prop
structure Ends where
 nx:St->Hp->Prop
 rt:VK
 bk:St->Hp->Prop:=λ_ _=>False
 ct:St->Hp->Prop:=λ_ _=>False
abbrev TS:=Ends->St->Hp->Prop
def EP(X:Cx)(pins:List (Addr×Obj))(σ:St)(Q:VK)(u:Value)(s':Shared):Prop:=∃v H',Inv X pins σ H' s'/\RelV v u/\Q v H'
def TP(X:Cx)(pins:List (Addr×Obj))(σ:St)(Q:Bool->Hp->Prop)(b:Bool)(s':Shared):Prop:=∃H',Inv X pins σ H' s'/\Q b H'
def AP(X:Cx)(pins:List (Addr×Obj))(σ:St)(Q:List V->Hp->Prop)(us:List Value)(s':Shared):Prop:=∃vs H',Inv X pins σ H' s'/\Vals vs us/\Q vs H'
def SP(X:Cx)(pins:List (Addr×Obj))(D:Ends)(f:Flow)(s':Shared):Prop:=
 match f with
 | .next=>∃σ' H',Inv X pins σ' H' s'/\D.nx σ' H'
 | .brk=>∃σ' H',Inv X pins σ' H' s'/\D.bk σ' H'
 | .cont=>∃σ' H',Inv X pins σ' H' s'/\D.ct σ' H'
 | .ret u=>∃v σ' H',Inv X pins σ' H' s'/\RelV v u/\D.rt v H'
def PE(X:Cx)(e:Expr)(t:TE):Prop:=
 ∀(pins:List (Addr×Obj)) (s:Shared) (σ:St) (H:Hp) (Q:VK),Inv X pins σ H s->t σ H Q->wpAny (model X.prog X.w) X.A (eval e X.env) (EP X pins σ Q) X.xe s
def PT(X:Cx)(e:Expr)(t:TT):Prop:=
 ∀(pins:List (Addr×Obj)) (s:Shared) (σ:St) (H:Hp) (Q:Bool->Hp->Prop),Inv X pins σ H s->t σ H Q->wpAny (model X.prog X.w) X.A (isTrue e X.env (eval e X.env)) (TP X pins σ Q) X.xe s
def PW(X:Cx)(e:Expr)(t:TT):Prop:=
 ∀(whole:Sem Value) (pins:List (Addr×Obj)) (s:Shared) (σ:St) (H:Hp) (Q:Bool->Hp->Prop),Inv X pins σ H s->t σ H Q->wpAny (model X.prog X.w) X.A (isTrue e X.env whole) (TP X pins σ Q) X.xe s
theorem PW.pt{X:Cx}{e:Expr}{t:TT}(h:PW X e t):PT X e t:=h _
def PA(X:Cx)(es:List Expr)(t:TA):Prop:=
 ∀(pos:Pos) (pins:List (Addr×Obj)) (s:Shared) (σ:St) (H:Hp) (Q:List V->Hp->Prop),Inv X pins σ H s->t σ H Q->wpAny (model X.prog X.w) X.A (spliced (backTo pos (starEach es X.env))) (AP X pins σ Q) X.xe s
def PS(X:Cx)(st:Stmt)(t:TS):Prop:=
 ∀(pins:List (Addr×Obj)) (s:Shared) (σ:St) (H:Hp) (D:Ends),Inv X pins σ H s->t D σ H->wpAny (model X.prog X.w) X.A (exec st X.env) (SP X pins D) X.xe s
def o4(X:Cx)(st:List Stmt)(t:TS):Prop:=
 ∀(pins:List (Addr×Obj)) (s:Shared) (σ:St) (H:Hp) (D:Ends),Inv X pins σ H s->t D σ H->wpAny (model X.prog X.w) X.A (execs st X.env) (SP X pins D) X.xe s
theorem bS{α:Type}{t:Sem α}{Q Q':α->Shared->Prop}{M:Model}{A:Around}{E:Value->Shared->Prop}{s:Shared}(h:wpAny M A t Q E s)(hQ:∀a s,Q a s->Q' a s):wpAny M A t Q' E s:=bW h hQ λ_ _ x=>x
end L2
namespace L2
open PySem PySem.Spec PyProof.Rows
section
variable {X:Cx}
theorem bin{a b:Expr}{ta tb:TE}(ha:PE X a ta)(hb:PE X b tb){pins:List (Addr×Obj)}{s:Shared}{σ:St}{H:Hp}{R:V->V->Hp->Prop}(I:Inv X pins σ H s)(h:ta σ H λx H1=>tb σ H1 λy H2=>R x y H2)
  {α:Type} {Q:α->Shared->Prop} {f:Value->Value->Sem α}
  (hf:∀v u s2 x y H2,Inv X pins σ H2 s2->RelV x v->RelV y u->R x y H2->wpAny (model X.prog X.w) X.A (f v u) Q X.xe s2) :
  wpAny (model X.prog X.w) X.A (eval a X.env) (λv s₁=>wpAny (model X.prog X.w) X.A (eval b X.env) (λu s₂=>wpAny (model X.prog X.w) X.A (f v u) Q X.xe s₂) X.xe s₁) X.xe s:=by
 refine bS (ha pins s σ H _ I h) λv s1 ⟨x,H1,I1,r1,q1⟩=>?_
 refine bS (hb pins s1 σ H1 _ I1 q1) λu s2 ⟨y,H2,I2,r2,q2⟩=>?_
 exact hf v u s2 x y H2 I2 r1 r2 q2
def sC(i:Nat):TE:=λσ H Q=>∃v,σ[i]?=some (some v)/\Q v H
def tC(v:V):TE:=λ_ H Q=>Q v H
theorem zk{i:Nat}{x:Str}{pos:Pos}(hN:X.N[i]?=some x)(hv:GP X.env.scope x)(hd:(x==("__debug__" : Str))=false:=by decide)(yb:(x==("__classdict__" : Str))=false:=by decide):PE X (.Name x pos) (sC i):=by
 intro pins s σ H Q I h
 obtain⟨v,e,h⟩:=h
 obtain⟨m,hn,hl⟩:=I.loc
 obtain⟨u,r,l⟩:=hl i x v hN e hv
 have fin:EP X pins σ Q u s:=⟨v,H,I,r,h⟩
 rcases l with ⟨hk,hm⟩ | ⟨hk,c,hc,jD⟩
 ·exact wpAny_Name (wpAny_loadName_local I.ok.kind hk hn hm fin) hd
 ·rcases hk with hk | hk
  ·exact wpAny_Name (wpAny_loadName_cell I.ok.kind hk hc jD fin) hd
  ·exact wpAny_Name (wpAny_loadName_free I.ok.kind hk hc jD fin yb) hd
theorem Fb{i j pos}:PE X (.Constant (.int i) j pos) (tC (.int i)):=λ_ _ _ H _ I h=>wpAny_Constant_int ⟨.int i,H,I.tok _,⟨_,rfl⟩,h⟩
theorem Hh{b j pos}:PE X (.Constant (.bool b) j pos) (tC (.bl b)):=λ_ _ _ H _ I h=>Constant_bool ⟨.bl b,H,I,rfl,h⟩
theorem Ez{j pos}:PE X (.Constant .none j pos) (tC .non):=λ_ _ _ H _ I h=>Constant_none ⟨.non,H,I,rfl,h⟩
theorem Ew{x j pos}:PE X (.Constant (.str x) j pos) (tC (.str x)):=λ_ _ _ H _ I h=>Calls.Constant_str ⟨.str x,H,I.tok _,⟨_,rfl⟩,h⟩
def Gl(X:Cx)(x:Str):Prop:=X.env.kindOf x=some .globalImplicit
theorem kK{E:Value->Shared->Prop}{pins:List (Addr×Obj)}{s:Shared}{σ:St}{H:Hp}{x:Str}{u:Value}{pos:Pos}{Q:Value->Shared->Prop}(I:Inv X pins σ H s)(hg:Gl X x)(hm:X.mg x=some u)(h:Q u s)
  (hd:(x==("__debug__" : Str))=false:=by decide):wpAny (model X.prog X.w) X.A (eval (.Name x pos) X.env) Q E s:=
 Calls.Name_function_global I.ok.kind hg (Calls.loadGlobal_global (by rw[I.ok.glob];exact I.mod.glob.keeps I.bk) hm h) hd
theorem oC{E:Value->Shared->Prop}{pins:List (Addr×Obj)}{s:Shared}{σ:St}{H:Hp}{x:Str}{u:Value}{pos:Pos}{Q:Value->Shared->Prop}(I:Inv X pins σ H s)(hg:Gl X x)(hm:X.mg x=none)(hv:bootBuiltins x=some u)(h:Q u s)
  (hn:x≠"__name__":=by decide) (hd:(x==("__debug__" : Str))=false:=by decide):wpAny (model X.prog X.w) X.A (eval (.Name x pos) X.env) Q E s:=by
 obtain⟨mb,h1,h2⟩:=I.mod.blt
 exact Calls.Name_function_global I.ok.kind hg (Calls.loadGlobal_builtin (by rw[I.ok.glob];exact I.mod.glob.keeps I.bk) hm (by rw[I.ok.blt];exact h1.keeps I.bk) ((h2 x hn).trans hv) h) hd
theorem Bz{x:Str}{v:V}{u:Value}{pos:Pos}(hg:Gl X x)(hm:X.mg x=some u)(r:RelV v u)(hd:(x==("__debug__" : Str))=false:=by decide):PE X (.Name x pos) (tC v):=
 λ_ _ _ H _ I h=>kK I hg hm ⟨v,H,I,r,h⟩ hd
theorem qP{x:Str}{v:V}{u:Value}{pos:Pos}(hg:Gl X x)(hm:X.mg x=none)(hv:bootBuiltins x=some u)(r:RelV v u)(hn:x≠"__name__":=by decide)(hd:(x==("__debug__" : Str))=false:=by decide):PE X (.Name x pos) (tC v):=
 λ_ _ _ H _ I h=>oC I hg hm hv ⟨v,H,I,r,h⟩ hn hd
variable {a b:Expr}{ta tb:TE}{pos:Pos}
def PC(X:Cx)(op:CmpOp)(a b:Expr)(t:TE):Prop:=
 ∀(pins:List (Addr×Obj)) (s:Shared) (σ:St) (H:Hp) (Q:VK),Inv X pins σ H s->t σ H Q->
  wpAny (model X.prog X.w) X.A (eval a X.env) (λv s₁=>wpAny (model X.prog X.w) X.A (eval b X.env) (λu s₂=>wpAny (model X.prog X.w) X.A (compareOp op v u) (EP X pins σ Q) X.xe s₂) X.xe s₁) X.xe s
theorem zB(b:Expr){op:CmpOp}(h:op≠.In)(h2:op≠.NotIn):behindInMarks op b=false:=by
 have e1:(op==CmpOp.In)=false:=by cases op <;> first | rfl | exact absurd rfl h
 have e2:(op==CmpOp.NotIn)=false:=by cases op <;> first | rfl | exact absurd rfl h2
 cases b <;> simp[behindInMarks,e1,e2]
def tB(t:TE):TT:=λσ H Q=>t σ H λx H1=>∃c,x=.bl c/\Q c H1
theorem Kw{op:CmpOp}{t:TE}(h:PC X op a b t)(h1:behindInMarks op b=false:=by first | exact zB _ (by decide) (by decide) | rfl):PT X (.Compare a [op] [b] pos) (tB t):=by
 intro pins s σ H Q I hw
 refine wpAny_isTrue_Compare1 (bS (h pins s σ H _ I hw) λv s1 h1=>bS h1 λu s2 h2=>bS h2 λc s3 ⟨x,H1,I1,r1,q1⟩=>?_) h1
 obtain⟨d,rfl,q⟩:=q1
 cases r1
 exact mq ⟨H1,I1,q⟩
theorem zc{e:Expr}{t:TE}(h:PE X e t)(he:∀whole,isTrue e X.env whole=(do let v <-whole;standAt e.pos;holding [v] (truthy v)):=by intro _;rfl):PT X e (tB t):=by
 intro pins s σ H Q I hw
 refine isTrue_plain (bS (h pins s σ H _ I hw) λv s1 ⟨x,H1,I1,r1,q1⟩=>?_) (he _)
 obtain⟨d,rfl,q⟩:=q1
 cases r1
 exact mq ⟨H1,I1,q⟩
variable {tA Aa:TT}{rest:List Expr}
def xA(t u:TT):TT:=λσ H Q=>t σ H λc H1=>if c=true then u σ H1 Q else Q false H1
def Gv(t u:TT):TT:=λσ H Q=>t σ H λc H1=>if c=true then Q true H1 else u σ H1 Q
def xr(t:TT):TT:=λσ H Q=>t σ H λc H1=>Q (!c) H1
theorem Bo(ha:PT X a tA):PW X (.BoolOp .And [a] pos) tA:=by
 intro wh pins s σ H Q I h
 refine isTrue_and (bS (ha pins s σ H Q I h) λc s1 e=>?_)
 cases c with
 | true=>exact isTrue_and_nil e
 | false=>exact e
theorem Ei(ha:PT X a tA):PW X (.BoolOp .Or [a] pos) tA:=by
 intro wh pins s σ H Q I h
 refine isTrue_or (bS (ha pins s σ H Q I h) λc s1 e=>?_)
 cases c with
 | false=>exact isTrue_or_nil e
 | true=>exact e
theorem Ej(ha:PT X a tA)(hb:PW X (.BoolOp .And (b::rest) pos) Aa):PW X (.BoolOp .And (a::b::rest) pos) (xA tA Aa):=by
 intro wh pins s σ H Q I h
 refine isTrue_and (bS (ha pins s σ H _ I h) λc s1 ⟨H1,I1,q1⟩=>?_)
 cases c with
 | true=>exact hb wh pins s1 σ H1 Q I1 q1
 | false=>exact⟨H1,I1,q1⟩
theorem Hb(ha:PT X a tA)(hb:PW X (.BoolOp .Or (b::rest) pos) Aa):PW X (.BoolOp .Or (a::b::rest) pos) (Gv tA Aa):=by
 intro wh pins s σ H Q I h
 refine isTrue_or (bS (ha pins s σ H _ I h) λc s1 ⟨H1,I1,q1⟩=>?_)
 cases c with
 | true=>exact⟨H1,I1,q1⟩
 | false=>exact hb wh pins s1 σ H1 Q I1 q1
theorem Ek(ha:PT X a tA):PT X (.UnaryOp .Not a pos) (xr tA):=by
 intro pins s σ H Q I h
 exact isTrue_not (ha pins s σ H (λc H1=>Q (!c) H1) I h)
def pZ(ta tb:TE):TE:=λσ H Q=>ta σ H λx H1=>∃c,x=.bl c/\if c=true then tb σ H1 Q else Q (.bl false) H1
def Am(ta tb:TE):TE:=λσ H Q=>ta σ H λx H1=>∃c,x=.bl c/\if c=true then Q (.bl true) H1 else tb σ H1 Q
def pU(ta:TE):TE:=λσ H Q=>ta σ H λx H1=>∃c,x=.bl c/\Q (.bl (!c)) H1
theorem Ex{op}{t:TE}(h:PE X a t):PE X (.BoolOp op [a] pos) t:=λpins s σ H Q I hw=>BoolOp_one (h pins s σ H Q I hw)
theorem Fc(ha:PE X a ta)(hb:PE X (.BoolOp .And (b::rest) pos) tb):PE X (.BoolOp .And (a::b::rest) pos) (pZ ta tb):=by
 intro pins s σ H Q I h
 refine BoolOp_and (bS (ha pins s σ H _ I h) λv s1 ⟨x,H1,I1,r1,q1⟩=>?_)
 obtain⟨c,rfl,q1⟩:=q1
 cases r1
 refine mq ?_
 cases c with
 | true=>exact hb pins s1 σ H1 Q I1 q1
 | false=>exact⟨.bl false,H1,I1,rfl,q1⟩
theorem Ey(ha:PE X a ta):PE X (.UnaryOp .Not a pos) (pU ta):=by
 intro pins s σ H Q I h
 refine UnaryOp_ (bS (ha pins s σ H _ I h) λv s1 ⟨x,H1,I1,r1,q1⟩=>?_)
 obtain⟨c,rfl,q1⟩:=q1
 cases r1
 exact not_of (mq ⟨.bl (!c),H1,I1,rfl,q1⟩)
def Jl(t:TT)(ta tb:TE):TE:=λσ H Q=>t σ H λc H1=>if c=true then ta σ H1 Q else tb σ H1 Q
end
end L2
namespace L2
open PySem PySem.Spec PyProof.Rows
def mh(K:PySem.W.Frag)(H:Hp)(a:Addr)(xs:List V):Prop:=
 Rd H a (.lst xs)\/
  ∃(o:Obj) (its:Array Value) (n:Nat),K.lookup a=some o/\o.cls=.type "list"/\o.dict=none/\o.data=.seq its n/\its.size<=sizeLine/\Vals xs its.toList
def oY(K:PySem.W.Frag)(H:Hp)(a:Addr)(xs:List V):Prop:=
 Rd H a (.tup xs)\/
  ∃(o:Obj) (its:Array Value) (n:Nat),K.lookup a=some o/\o.cls=.type "tuple"/\o.data=.seq its n/\its.size<=sizeLine/\Vals xs its.toList
def Og:Value->Option V
 | .none=>some .non
 | .bool b=>some (.bl b)
 | .int i _=>some (.int i)
 | .str x _=>some (.str x)
 | .bytes b _=>some (.zW b)
 | .float b _=>some (.GK b)
 | .ref a=>some (.ref a)
 | .type n=>some (.ty n)
 | _=>none
theorem RelV.abs{x:V}{u:Value}(r:RelV x u):Og u=some x:=by
 cases x with
 | non=>cases r;rfl
 | bl _=>cases r;rfl
 | int _=>obtain⟨t,rfl⟩:=r;rfl
 | str _=>obtain⟨t,rfl⟩:=r;rfl
 | zW _=>obtain⟨t,rfl⟩:=r;rfl
 | GK _=>obtain⟨t,rfl⟩:=r;rfl
 | ref _=>cases r;rfl
 | ty _=>cases r;rfl
theorem RelV.inj{x y:V}{u:Value}(r:RelV x u)(q:RelV y u):x=y:=dU (r.abs.symm.trans q.abs)
theorem Vals.inj:∀{xs ys:List V} {us:List Value},Vals xs us->Vals ys us->xs=ys
 | _,_,_,.nil,.nil=>rfl
 | _,_,_,.cons r t,.cons r' t'=>by rw[r.inj r',Vals.inj t t']
section
variable {X:Cx}{pins:List (Addr×Obj)}{σ:St}{H:Hp}{s:Shared}{a:Addr}{xs ys:List V}
theorem mh.of{K:PySem.W.Frag}(h:H a=some (.lst xs)):mh K H a xs:=.inl (.inl h)
theorem oY.of{K:PySem.W.Frag}(h:H a=some (.tup xs)):oY K H a xs:=.inl (.inl h)
theorem Inv.list(I:Inv X pins σ H s)(h:mh X.K H a xs):∃its:List Value,Vals xs its/\PlainL s.heap a its.toArray/\xs.length<=sizeLine:=by
 rcases h with h | ⟨o,its,n,hk,hc,hd,hs,hz,r⟩
 ·obtain⟨z,its,n,r,e⟩:=h.ok I.bY
  exact⟨its,r,⟨_,n,e,rfl,rfl,rfl⟩,z⟩
 ·refine⟨its.toList,r,⟨o,n,I.mV a o hk,hc,hd,by simpa using hs⟩,?_⟩
  have e:=r.length
  simp only[nH]at e
  lia
theorem Inv.tuple(I:Inv X pins σ H s)(h:oY X.K H a xs):∃its:List Value,Vals xs its/\IsTup s.heap a its.toArray/\xs.length<=sizeLine:=by
 rcases h with h | ⟨o,its,n,hk,hc,hs,hz,r⟩
 ·obtain⟨z,its,r,p⟩:=h.ok I.bY
  exact⟨its,r,p,z⟩
 ·refine⟨its.toList,r,⟨o,I.mV a o hk,hc,n,by simpa using hs⟩,?_⟩
  have e:=r.length
  simp only[nH]at e
  lia
theorem Inv.zG(I:Inv X pins σ H s)(h:mh X.K H a xs)(h':mh X.K H a ys):xs=ys:=by
 obtain⟨its,r,⟨o,n,e,_,_,d⟩,_⟩:=I.list h
 obtain⟨its',r',⟨o',n',e',_,_,d'⟩,_⟩:=I.list h'
 rw[e]at e';cases e'
 rw[d]at d'
 injection d' with d1 _
 have:its=its':=by simpa using cR Array.toList d1
 subst this
 exact r.inj r'
theorem Inv.xj(I:Inv X pins σ H s)(h:oY X.K H a xs)(h':oY X.K H a ys):xs=ys:=by
 obtain⟨its,r,⟨o,e,_,n,d⟩,_⟩:=I.tuple h
 obtain⟨its',r',⟨o',e',_,n',d'⟩,_⟩:=I.tuple h'
 rw[e]at e';cases e'
 rw[d]at d'
 injection d' with d1 _
 have:its=its':=by simpa using cR Array.toList d1
 subst this
 exact r.inj r'
end
abbrev Cx.wish(X:Cx)(E:Value->Shared->Prop):Cx:={ X with xe:=E }
abbrev Cx.Ac(X:Cx):Cx:=X.wish λ_ _=>False
theorem Cx.Ok.wish{X:Cx}(ok:X.Ok)(E:Value->Shared->Prop):(X.wish E).Ok:=
 ⟨ok.mod,ok.kind,ok.glob,ok.blt,ok.above,ok.inj,ok.has,ok.CW,ok.hd,ok.frames,ok.Dp,ok.GL,ok.bs,ok.yt,ok.qS,ok.tQ,ok.jT,ok.Af⟩
theorem Cx.Ok.iy{X:Cx}{E:Value->Shared->Prop}(ok:(X.wish E).Ok):X.Ok:=
 ⟨ok.mod,ok.kind,ok.glob,ok.blt,ok.above,ok.inj,ok.has,ok.CW,ok.hd,ok.frames,ok.Dp,ok.GL,ok.bs,ok.yt,ok.qS,ok.tQ,ok.jT,ok.Af⟩
section
variable {X:Cx}{pins:List (Addr×Obj)}{σ:St}{H:Hp}{s:Shared}{E:Value->Shared->Prop}
theorem Inv.wish(I:Inv X pins σ H s)(E:Value->Shared->Prop):Inv (X.wish E) pins σ H s:=⟨I.ok.wish E,I.os,I.bare,I.base,I.loc,I.cell,I.free,I.dS,I.pin,I.bY,I.len⟩
theorem Inv.iy(I:Inv (X.wish E) pins σ H s):Inv X pins σ H s:=⟨I.ok.iy,I.os,I.bare,I.base,I.loc,I.cell,I.free,I.dS,I.pin,I.bY,I.len⟩
theorem SP.iy{D:Ends}{f:Flow}{s':Shared}(h:SP (X.wish E) pins D f s'):SP X pins D f s':=by
 cases f with
 | next=>obtain⟨σ',H',I,q⟩:=h;exact⟨σ',H',I.iy,q⟩
 | brk=>obtain⟨σ',H',I,q⟩:=h;exact⟨σ',H',I.iy,q⟩
 | cont=>obtain⟨σ',H',I,q⟩:=h;exact⟨σ',H',I.iy,q⟩
 | ret u=>obtain⟨v,σ',H',I,r,q⟩:=h;exact⟨v,σ',H',I.iy,r,q⟩
theorem o4.Ac{st:List Stmt}{t:TS}(h:o4 X.Ac st t):o4 X st t:=λpins s σ H D I hw=>
 bW (h pins s σ H D (I.wish _) hw) (λ_ _ q=>q.iy) λ_ _ z=>False.elim z
end
section
variable {X:Cx}{st:Stmt}{rest:List Stmt}{t u:TS}{e:Expr}{te:TE}{pos:Pos}
def nR:TS:=λD σ H=>D.nx σ H
def tSeq(t u:TS):TS:=λD σ H=>t { D with nx:=u D } σ H
theorem Br:o4 X [] nR:=λ_ _ σ H _ I h=>qv ⟨σ,H,I,h⟩
theorem zf(h1:PS X st t)(h2:o4 X rest u):o4 X (st::rest) (tSeq t u):=by
 intro pins s σ H D I h
 refine wpAny_execs_cons (bS (h1 pins s σ H { D with nx:=u D } I h) λf s1 q=>?_)
 cases f with
 | next=>
  obtain⟨σ',H',I',q⟩:=q
  exact h2 pins s1 σ' H' D I' q
 | ret v=>exact q
 | brk=>exact q
 | cont=>exact q
theorem Bq(h1:PS X st t):o4 X [st] t:=by
 intro pins s σ H D I h
 refine wpAny_execs_cons (bS (h1 pins s σ H D I h) λf s1 q=>?_)
 cases f with
 | next=>exact qv q
 | ret v=>exact q
 | brk=>exact q
 | cont=>exact q
theorem Inv.quiet{pins:List (Addr×Obj)}{σ:St}{H:Hp}{s:Shared}(I:Inv X pins σ H s):interactive X.env=false:=by simp[interactive,I.ok.kind]
def pV(te:TE):TS:=λD σ H=>te σ H λ_ H1=>D.nx σ H1
theorem v5(he:PE X e te)(hs:swapsWith e none pos.line X.env=pure false:=by rfl):PS X (.Expr e pos) (pV te):=by
 intro pins s σ H D I h
 exact wpAny_Expr_any (bS (he pins s σ H _ I h) λv s1 ⟨x,H1,I1,r1,q1⟩=>⟨σ,H1,I1,q1⟩) I.quiet hs
def xq(te:TE):TS:=λD σ H=>te σ H D.rt
theorem En(he:PE X e te):PS X (.Return (some e) pos) (xq te):=by
 intro pins s σ H D I h
 exact wpAny_Return_some (bS (he pins s σ H _ I h) λv s1 ⟨x,H1,I1,r1,q1⟩=>⟨x,σ,H1,I1,r1,q1⟩)
def vN:TS:=λD _ H=>D.rt .non H
def uQ(c:TT)(t u:TS):TS:=λD σ H=>c σ H λb H1=>if b=true then t D σ H1 else u D σ H1
theorem Hc{c:Expr}{a b:List Stmt}{tc:TT}(hc:PT X c tc)(ha:o4 X a t)(hb:o4 X b u):PS X (.If c a b pos) (uQ tc t u):=by
 intro pins s σ H D I h
 refine wpAny_If (bS (hc pins s σ H _ I h) λd s1 ⟨H1,I1,q1⟩=>?_)
 cases d with
 | true=>exact ha pins s1 σ H1 D I1 q1
 | false=>exact hb pins s1 σ H1 D I1 q1
def qC:TS:=λ_ _ _=>False
end
abbrev TG:=V->St->Hp->(St->Hp->Prop)->Prop
def PG(X:Cx)(target:Expr)(t:TG):Prop:=
 ∀(pins:List (Addr×Obj)) (s:Shared) (σ:St) (H:Hp) (v:V) (u:Value) (Q:St->Hp->Prop),Inv X pins σ H s->RelV v u->t v σ H Q->
  wpAny (model X.prog X.w) X.A (assign target X.env u) (λ_ s'=>∃σ' H',Inv X pins σ' H' s'/\Q σ' H') X.xe s
abbrev vo:=V->V->V->Hp->(Hp->Prop)->Prop
def ym(X:Cx)(t:vo):Prop:=
 ∀(pins:List (Addr×Obj)) (s:Shared) (σ:St) (H:Hp) (o i v:V) (ov iv u:Value) (Q:Hp->Prop),Inv X pins σ H s->RelV o ov->RelV i iv->RelV v u->t o i v H Q->
  wpAny (model X.prog X.w) X.A (setItem ov iv u) (λ_ s'=>∃H',Inv X pins σ H' s'/\Q H') X.xe s
abbrev De:=V->V->Hp->VK->Prop
def Gn(X:Cx)(op:Operator)(t:De):Prop:=
 ∀(pins:List (Addr×Obj)) (s:Shared) (σ:St) (H:Hp) (x y:V) (v u:Value) (Q:VK),Inv X pins σ H s->RelV x v->RelV y u->t x y H Q->
  wpAny (model X.prog X.w) X.A (inplaceOp op v u) (EP X pins σ Q) X.xe s
section
variable {X:Cx}{pos:Pos}
def bX(i:Nat):TG:=λv σ H Q=>Q (σ.set i (some v)) H
theorem v9{i:Nat}{x:Str}(hN:X.N.Nodup)(hi:X.N[i]?=some x)(hx:Loc X.env.scope x)(hf:X.fn x=true\/X.env.scope.names.lookup x=some .local:=by first | exact .inl rfl | exact .inr rfl | assumption):PG X (.Name x pos) (bX i):=by
 intro pins s σ H v u Q I r h
 exact wpAny_assign_Name (iC I hN hi hx r (λs' I'=>⟨_,H,I',h⟩) hf)
def yc(to ti:TE)(t:vo):TG:=λv σ H Q=>to σ H λo H1=>ti σ H1 λi H2=>t o i v H2 λH3=>Q σ H3
theorem zj{o i:Expr}{to ti:TE}{t:vo}(ho:PE X o to)(hi:PE X i ti)(hs:ym X t)
  (ha:∀v,assign (.Subscript o i pos) X.env v=(do
   let ov <-holding [v] (eval o X.env)
   let iv <-holding [v,ov] (eval i X.env)
   standAt pos
   holding [v,ov,iv] (setItem ov iv v)
   release [v,ov,iv] []):=by intro _;rfl):PG X (.Subscript o i pos) (yc to ti t):=by
 intro pins s σ H v u Q I r h
 rw[ha]
 refine bh (ml (bS (ho pins s σ H _ I h) λov s1 ⟨x,H1,I1,r1,q1⟩=>?_))
 refine bh (ml (bS (hi pins s1 σ H1 _ I1 q1) λiv s2 ⟨y,H2,I2,r2,q2⟩=>?_))
 refine bh (pz (bh (ml (bS (hs pins s2 σ H2 x y v ov iv u _ I2 r1 r2 r q2) λ_ s3 ⟨H3,I3,q3⟩=>?_))))
 exact wpAny_release ⟨σ,H3,I3,q3⟩
def mS(te:TE)(g:TG):TS:=λD σ H=>te σ H λx H1=>g x σ H1 D.nx
theorem qO{tg e:Expr}{te:TE}{g:TG}(he:PE X e te)(hg:PG X tg g)(hs:swapsWithSole [tg] e pos.line X.env=pure false:=by rfl)(hw:swappedStores [tg] e X.env=pure none:=by rfl)
  (h1:(assignEach [tg] X.env).map (·.2)=[assign tg X.env]:=by rfl):PS X (.Assign [tg] e pos) (mS te g):=by
 intro pins s σ H D I h
 refine wpAny_Assign_stores (bS (he pins s σ H _ I h) λv s1 ⟨x,H1,I1,r1,q1⟩=>?_) hs hw
 rw[h1]
 exact bS (hg pins s1 σ H1 x v _ I1 r1 q1) λ_ s2 q=>q
theorem Em{i:Nat}{x:Str}{e:Expr}{te:TE}{pos':Pos}(hN:X.N.Nodup)(hi:X.N[i]?=some x)(hx:Loc X.env.scope x)(he:PE X e te)(hs:swapsWith e (some (.Name x pos')) pos.line X.env=pure false:=by rfl)(hf:X.fn x=true\/X.env.scope.names.lookup x=some .local:=by first | exact .inl rfl | exact .inr rfl | assumption) :
  PS X (.Assign [.Name x pos'] e pos) (mS te (bX i)):=by
 intro pins s σ H D I h
 refine wpAny_Assign_Name (bS (he pins s σ H _ I h) λv s1 ⟨y,H1,I1,r1,q1⟩=>?_) hs
 exact iC I1 hN hi hx r1 (λs2 I2=>⟨_,H1,I2,q1⟩) hf
def uR(i:Nat)(te:TE)(ti:De):TS:=λD σ H=>∃x,σ[i]?=some (some x)/\te σ H λy H1=>ti x y H1 λz H2=>D.nx (σ.set i (some z)) H2
theorem Ep{i:Nat}{x:Str}{e:Expr}{te:TE}{op:Operator}{ti:De}{pos':Pos}(hN:X.N.Nodup)(hi:X.N[i]?=some x)(hx:Loc X.env.scope x)(he:PE X e te)(ho:Gn X op ti)(hf:X.fn x=true\/X.env.scope.names.lookup x=some .local:=by first | exact .inl rfl | exact .inr rfl | assumption) :
  PS X (.AugAssign (.Name x pos') op e pos) (uR i te ti):=by
 intro pins s σ H D I h
 obtain⟨v,e1,h⟩:=h
 obtain⟨m,hn,hl⟩:=I.loc
 have J6:GP X.env.scope x:=by rcases hx with k | k;exact .inl k;exact .inr (.inl k)
 obtain⟨u,r,l⟩:=hl i x v hi e1 J6
 refine wpAny_AugAssign_Name ?_
 have go:wpAny (model X.prog X.w) X.A (eval e X.env) (λw s₂=>wpAny (model X.prog X.w) X.A (inplaceOp op u w) (λr s₃=>wpAny (model X.prog X.w) X.A (storeName X.env x r) (λ_=>SP X pins D .next) X.xe s₃) X.xe s₂) X.xe s:=by
  refine bS (he pins s σ H _ I h) λw s1 ⟨y,H1,I1,r1,q1⟩=>?_
  refine bS (ho pins s1 σ H1 v y u w _ I1 r r1 q1) λz s2 ⟨zv,H2,I2,r2,q2⟩=>?_
  exact iC I2 hN hi hx r2 (λs3 I3=>⟨_,H2,I3,q2⟩) hf
 rcases l with ⟨hk,hm⟩ | ⟨hk,c,hc,jD⟩
 ·exact wpAny_loadName_local I.ok.kind hk hn hm go
 ·rcases hk with hk | hk
  ·exact wpAny_loadName_cell I.ok.kind hk hc jD go
  ·rcases hx with k | k
   ·have:X.env.scope.names.lookup x=some .free:=hk
    rw[k]at this;cases this
   ·have:X.env.scope.names.lookup x=some .free:=hk
    rw[k]at this;cases this
def pY(to ti te:TE)(uO:V->V->Hp->VK->Prop)(D':De)(uN:vo):TS:=λD σ H=>to σ H λo H1=>ti σ H1 λi H2=>uO o i H2 λx H3=>te σ H3 λy H4=>D' x y H4 λz H5=>uN o i z H5 λH6=>D.nx σ H6
def Gp(X:Cx)(t:V->V->Hp->VK->Prop):Prop:=
 ∀(pins:List (Addr×Obj)) (s:Shared) (σ:St) (H:Hp) (o i:V) (ov iv:Value) (Q:VK),Inv X pins σ H s->RelV o ov->RelV i iv->t o i H Q->
  wpAny (model X.prog X.w) X.A (getItem ov iv) (EP X pins σ Q) X.xe s
theorem v7{o i e:Expr}{to ti te:TE}{uO:V->V->Hp->VK->Prop}{D':De}{uN:vo}{op:Operator}{DY:Pos}(ho:PE X o to)(hi:PE X i ti)(hg:Gp X uO)(he:PE X e te)(hp:Gn X op D')(hs:ym X uN)
  (ha:∀ov iv new,augStore i ov iv new=(do holding [new,ov,iv] (setItem ov iv new);release [new,ov,iv] [];pure .next):=by intros;rfl):PS X (.AugAssign (.Subscript o i DY) op e pos) (pY to ti te uO D' uN):=by
 intro pins s σ H D I h
 refine wpAny_AugAssign_SubscriptAny (bS (ho pins s σ H _ I h) λov s1 ⟨x1,H1,I1,r1,q1⟩=>?_) ha
 refine bS (hi pins s1 σ H1 _ I1 q1) λiv s2 ⟨x2,H2,I2,r2,q2⟩=>?_
 refine bS (hg pins s2 σ H2 x1 x2 ov iv _ I2 r1 r2 q2) λold s3 ⟨x3,H3,I3,r3,q3⟩=>?_
 refine bS (he pins s3 σ H3 _ I3 q3) λv s4 ⟨x4,H4,I4,r4,q4⟩=>?_
 refine bS (hp pins s4 σ H4 x3 x4 old v _ I4 r3 r4 q4) λnew s5 ⟨x5,H5,I5,r5,q5⟩=>?_
 exact bS (hs pins s5 σ H5 x1 x2 x5 ov iv new _ I5 r1 r2 r5 q5) λ_ s6 ⟨H6,I6,q6⟩=>⟨σ,H6,I6,q6⟩
def Gy(f:Int->Int->Int):De:=λx y H Q=>∃i j,x=.int i/\y=.int j/\Q (.int (f i j)) H
theorem zJ:Gn X .Add (Gy λi j=>i+j):=by
 intro pins s σ H x y v u Q I r1 r2 h
 obtain⟨i,j,e1,e2,q⟩:=h
 subst e1;subst e2
 obtain⟨t,rfl⟩:=r1
 obtain⟨t',rfl⟩:=r2
 exact iadd_int ⟨.int _,H,I.tok _,⟨_,rfl⟩,q⟩
theorem Fw:Gn X .Sub (Gy λi j=>i-j):=by
 intro pins s σ H x y v u Q I r1 r2 h
 obtain⟨i,j,e1,e2,q⟩:=h
 subst e1;subst e2
 obtain⟨t,rfl⟩:=r1
 obtain⟨t',rfl⟩:=r2
 exact isub_int ⟨.int _,H,I.tok _,⟨_,rfl⟩,q⟩
def uP(c:TT)(tb:TS):TS:=λD σ H=>∃W:Nat->St->Hp->Prop,(∃m,W m σ H)/\∀m σ H,W m σ H->
 c σ H λb H1=>if b=true then ∃N:St->Hp->Prop,(∀σ' H',N σ' H'->∃m',m'<m/\W m' σ' H')/\tb { D with nx:=N,ct:=N,bk:=D.nx } σ H1 else D.nx σ H1
theorem zg{c:Expr}{body:List Stmt}{tc:TT}{tb:TS}(hp:PassesOwn (model X.prog X.w) X.A X.env X.xe)(hc:PT X c tc)(hb:o4 X body tb):PS X (.While c body [] pos) (uP tc tb):=by
 intro pins s σ H D I h
 obtain⟨W,⟨m0,w0⟩,turn⟩:=h
 refine wpAny_While (codeAny_whileLoop (λn s'=>∃σ' H',Inv X pins σ' H' s'/\W n σ' H') ?_ m0 ⟨σ,H,I,w0⟩)
 rintro n s1 ⟨σ1,H1,I1,w1⟩
 refine nC hp (bS (hc pins s1 σ1 H1 _ I1 (turn n σ1 H1 w1)) λb s2 ⟨H2,I2,q2⟩=>?_)
 cases b with
 | true=>
  obtain⟨N,hN,q2⟩:=q2
  rw[aU rfl]
  refine nC hp (bS (hb pins s2 σ1 H2 _ I2 q2) λf s3 q3=>?_)
  cases f with
  | next=>
   obtain⟨σ3,H3,I3,n3⟩:=q3
   obtain⟨m',hm,w3⟩:=hN σ3 H3 n3
   exact⟨m',hm,σ3,H3,I3,w3⟩
  | cont=>
   obtain⟨σ3,H3,I3,n3⟩:=q3
   obtain⟨m',hm,w3⟩:=hN σ3 H3 n3
   exact⟨m',hm,σ3,H3,I3,w3⟩
  | brk=>exact q3
  | ret v=>exact q3
 | false=>
  rw[aK dn]
  exact qv ⟨σ1,H2,I2,q2⟩
end
structure It where
 go:Nat->Hp->Prop
 vL:Nat->Hp->V->Hp->Prop
 stop:Nat->Hp->Prop
def o3(X:Cx)(pins:List (Addr×Obj))(H:Hp)(b:Addr):Prop:=
 H b=none/\b≠X.env.locals/\b∉X.fs/\(b∈X.ex\/X.s₀.heap.objs.size<=b)/\(∀x c,X.env.cells.lookup x=some c->c≠b)/\∀p∈X.pn++pins,p.1≠b
theorem Inv.CK{X:Cx}{pins:List (Addr×Obj)}{σ:St}{H H':Hp}{s:Shared}{b:Addr}(I:Inv X pins σ H s)(hb:s.heap.objs.size<=b)(hn:H' b=none):o3 X pins H' b:=by
 refine⟨hn,qu (fu I.lt hb),I.Lj hb,.inr (dD I.sz hb),λx c e z=>?_,λp hp z=>?_⟩
 ·obtain⟨v,q⟩:=I.cell x c e
  exact absurd (fu q.lt (by rw[z];exact hb)) (jo _)
 ·exact absurd (fu (bL (I.pin p hp).1) (by rw[z];exact hb)) (jo _)
structure Turn(P:Program)(w:World)(K:PySem.W.Frag)(tg:Expr)(J:It)(fp:List Addr)(it:Addr)(tn:Nat->Heap->Prop):Prop where
 mem:it∈fp
 obj:∀i h,tn i h->∀b∈fp,∃o,h.get? b=some o/\∀v,o.data≠.cell v
 keep:∀i h h',tn i h->(∀b∈fp,∀o,h.get? b=some o->h'.get? b=some o)->tn i h'
 item:∀(X:Cx),X.prog=P->X.w=w->X.K=K->X.calm=true->∀(i:Nat) (pins:List (Addr×Obj)) (s:Shared) (σ:St) (H:Hp) (E:Value->Shared->Prop),Inv X pins σ H s->(∀b∈fp,o3 X pins H b)->tn i s.heap->J.go i H->
  wpAny (model P w) X.A (pyNext (.ref it)) (λr s1=>∃u,r=some u/\
   wpAny (model P w) X.A (letOwnedTupleGo tg (.ref it) u) (λ_ s2=>∃x H',Inv X pins σ H' s2/\RelV x u/\J.vL i H x H'/\tn (i+1) s2.heap/\∀b∈fp,H' b=none) E s1) E s
 done:∀(X:Cx),X.prog=P->X.w=w->X.K=K->X.calm=true->∀(i:Nat) (pins:List (Addr×Obj)) (s:Shared) (σ:St) (H:Hp) (E:Value->Shared->Prop),Inv X pins σ H s->(∀b∈fp,o3 X pins H b)->tn i s.heap->J.stop i H->
  wpAny (model P w) X.A (pyNext (.ref it)) (λr s1=>r=none/\Inv X pins σ H s1) E s
 self:∀(A:Around) (i:Nat) (s:Shared) (Q:Value->Shared->Prop) (E:Value->Shared->Prop),tn i s.heap->Q (.ref it) s->wpAny (model P w) A (pyIter (.ref it)) Q E s
abbrev TI:=St->Hp->(It->Hp->Prop)->Prop
def PIE(X:Cx)(pins:List (Addr×Obj))(σ:St)(tg:Expr)(R:It->Hp->Prop)(Ht:Value)(s2:Shared):Prop:=
 ∃(it:Addr) (fp:List Addr) (tn:Nat->Heap->Prop) (J:It) (H':Hp),Ht=.ref it/\Inv X pins σ H' s2/\Turn X.prog X.w X.K tg J fp it tn/\tn 0 s2.heap/\(∀b∈fp,o3 X pins H' b)/\R J H'
def PI(X:Cx)(tg iter:Expr)(wi:TI):Prop:=
 ∀(pins:List (Addr×Obj)) (s:Shared) (σ:St) (H:Hp) (R:It->Hp->Prop),Inv X pins σ H s->wi σ H R->
  wpAny (model X.prog X.w) X.A (eval iter X.env) (λv s1=>wpAny (model X.prog X.w) X.A (pyIter v) (PIE X pins σ tg R) X.xe s1) X.xe s
theorem wD{M : Model}{A : Around}{E : Value → Shared → Prop}{s : Shared}{tg : Expr}{it : Addr}{u : Value}{o : Obj}{n : String}{vs : Array Value}{Q : Unit → Shared → Prop}(ho : s.heap.get? it=some o)(hc : o.cls=.type n)(hd : o.data=.fields vs)
    (hn : ["enumerate", "zip", "dict_itemiterator", "dict_reverseitemiterator", "odict_iterator", "itertools.zip_longest", "itertools.pairwise"].contains n=false) (hQ : Q () s) : wpAny M A (letOwnedTupleGo tg (.ref it) u) Q E s := by
  unfold letOwnedTupleGo
  cases tg <;> first
    | exact cj hQ
    | (cases u <;> first
        | exact cj hQ
        | (refine bh (wpAny_load ho ?_)
           rw[hc, hd]
           show wpAny M A (if (["enumerate", "zip", "dict_itemiterator", "dict_reverseitemiterator", "odict_iterator", "itertools.zip_longest", "itertools.pairwise"].contains n&&vs[0]? == some (rawInt _))=true then _ else _) Q E s
           rw[aK (by intro h; rw[hn, Bool.false_and]at h; cases h)]
           exact cj hQ))
def vr(K:PySem.W.Frag)(a:Addr):It:=
 ⟨λi H=>∃xs x,mh K H a xs/\xs[i]?=some x,λi H x H'=>H'=H/\∀xs,mh K H a xs->xs[i]?=some x,λi H=>∃xs,mh K H a xs/\xs.length<=i⟩
def Df(K:PySem.W.Frag)(a:Addr):It:=
 ⟨λi H=>∃xs x,oY K H a xs/\xs[i]?=some x,λi H x H'=>H'=H/\∀xs,oY K H a xs->xs[i]?=some x,λi H=>∃xs,oY K H a xs/\xs.length<=i⟩
def vq(lo:Int)(n:Nat):It:=⟨λi _=>i<n,λi H x H'=>H'=H/\x=.int (lo+i),λi _=>n<=i⟩
theorem xh{P:Program}{w:World}{K:PySem.W.Frag}{tg:Expr}(a it:Addr):Turn P w K tg (vr K a) [it] it (λi h=>h.IsListIter it a i) where
 mem:=by simp
 obj:=λi h st b hb=>by
  have e:b=it:=by simpa using hb
  subst e
  obtain⟨o,e,c,d⟩:=st
  exact⟨o,e,λv z=>by rw[d]at z;cases z⟩
 keep:=λi h h' st k=>st.at λo e=>k it (by simp) o e
 item:=by
  intro X hP hw hK hc i pins s σ H E I hf st hg
  subst hP hw hK
  obtain⟨xs,x,hq,hx⟩:=hg
  obtain⟨its,rv,p,hz⟩:=I.list hq
  obtain⟨u,hu,ru⟩:=rv.get hx
  obtain⟨f0,f1,f2,f3,f4,f5⟩:=hf it (by simp)
  refine wpAny_pyNext_list_item st p.isList (x:=u) (by simpa using hu) λh' yK sb=>?_
  have I1:Inv X pins σ H { s with heap:=h' }:=I.turned (t':=s.toks) (λb o hb e=>(sb.2 b hb).trans e) f0 f1 f3 f4 f5
  obtain⟨o,e,c,d⟩:=id yK
  exact⟨u,rfl,wD (s:={ s with heap:=h' }) e c d (by decide) ⟨x,H,I1,ru,⟨rfl,λys hy=>by rw[I.zG hy hq];exact hx⟩,yK,λb hb=>(hf b hb).1⟩⟩
 done:=by
  intro X hP hw hK hc i pins s σ H E I hf st hg
  subst hP hw hK
  obtain⟨xs,hq,hx⟩:=hg
  obtain⟨its,rv,p,hz⟩:=I.list hq
  obtain⟨f0,f1,f2,f3,f4,f5⟩:=hf it (by simp)
  have hl:=rv.length
  exact wpAny_pyNext_list_end (I.ok.hd hc) st p.isList (by simp;lia) λh' eb=>⟨rfl,I.turned (t':=s.toks) (λb o hb e=>eb b o hb e) f0 f1 f3 f4 f5⟩
 self:=λ_ _ _ _ _ st h=>wpAny_pyIter_listiter st h
theorem uK{P:Program}{w:World}{K:PySem.W.Frag}{tg:Expr}(a it:Addr):Turn P w K tg (Df K a) [it] it (λi h=>h.IsTupleIter it a i) where
 mem:=by simp
 obj:=λi h st b hb=>by
  have e:b=it:=by simpa using hb
  subst e
  obtain⟨o,e,c,d⟩:=st
  exact⟨o,e,λv z=>by rw[d]at z;cases z⟩
 keep:=λi h h' st k=>st.at λo e=>k it (by simp) o e
 item:=by
  intro X hP hw hK hc i pins s σ H E I hf st hg
  subst hP hw hK
  obtain⟨xs,x,hq,hx⟩:=hg
  obtain⟨its,rv,p,hz⟩:=I.tuple hq
  obtain⟨u,hu,ru⟩:=rv.get hx
  obtain⟨f0,f1,f2,f3,f4,f5⟩:=hf it (by simp)
  refine wpAny_pyNext_tuple_item st (show s.heap.IsTuple a its.toArray from p) (x:=u) (by simpa using hu) λh' yK sb=>?_
  have I1:Inv X pins σ H { s with heap:=h' }:=I.turned (t':=s.toks) (λb o hb e=>(sb.2 b hb).trans e) f0 f1 f3 f4 f5
  obtain⟨o,e,c,d⟩:=id yK
  exact⟨u,rfl,wD (s:={ s with heap:=h' }) e c d (by decide) ⟨x,H,I1,ru,⟨rfl,λys hy=>by rw[I.xj hy hq];exact hx⟩,yK,λb hb=>(hf b hb).1⟩⟩
 done:=by
  intro X hP hw hK hc i pins s σ H E I hf st hg
  subst hP hw hK
  obtain⟨xs,hq,hx⟩:=hg
  obtain⟨its,rv,p,hz⟩:=I.tuple hq
  obtain⟨f0,f1,f2,f3,f4,f5⟩:=hf it (by simp)
  have hl:=rv.length
  exact wpAny_pyNext_tuple_end (I.ok.hd hc) st (show s.heap.IsTuple a its.toArray from p) (by simp;lia) λh' eb=>⟨rfl,I.turned (t':=s.toks) (λb o hb e=>eb b o hb e) f0 f1 f3 f4 f5⟩
 self:=λ_ _ _ _ _ st h=>wpAny_pyIter_tupleiter st h
theorem uL{P:Program}{w:World}{K:PySem.W.Frag}{tg:Expr}(it:Addr)(lo:Int)(n:Nat):Turn P w K tg (vq lo n) [it] it (λi h=>IsRangeIter h it (lo+(i:Nat)*1) ((n:Int)-(i:Nat)) 1) where
 mem:=by simp
 obj:=λi h st b hb=>by
  have e:b=it:=by simpa using hb
  subst e
  exact⟨_,st,λv z=>by
   have z':Data.fields _=Data.cell v:=z
   cases z'⟩
 keep:=λi h h' st k=>k it (by simp) _ st
 item:=by
  intro X hP hw hK hc i pins s σ H E I hf st hg
  subst hP hw hK
  obtain⟨f0,f1,f2,f3,f4,f5⟩:=hf it (by simp)
  have W:=Walks.range (prog:=X.prog) (w:=X.w) (I.ok.hd hc) it lo 1 n
  refine W.item i s _ _ hg st λv h' tk hv yK kk=>?_
  obtain⟨t,rfl⟩:=hv
  have I1:Inv X pins σ H { s with heap:=h',toks:=tk }:=I.turned (λb o hb e=>kk b o (by simpa using hb) e) f0 f1 f3 f4 f5
  refine⟨_,rfl,wD (s:={ s with heap:=h',toks:=tk }) (n:="range_iterator") yK rfl rfl (by decide) ⟨.int (lo+i),H,I1,⟨t,?_⟩,⟨rfl,rfl⟩,yK,λb hb=>(hf b hb).1⟩⟩
  rw[Int.mul_one]
 done:=by
  intro X hP hw hK hc i pins s σ H E I hf st hg
  subst hP hw hK
  obtain⟨f0,f1,f2,f3,f4,f5⟩:=hf it (by simp)
  exact wpAny_pyNext_range_end (I.ok.hd hc) st (by have:n<=i:=hg;lia) λh' eb=>⟨rfl,I.turned (t':=s.toks) (λb o hb e=>eb b o hb e) f0 f1 f3 f4 f5⟩
 self:=λ_ _ _ _ _ st h=>wpAny_pyIter_rangeiter st h
end L2
namespace L2
open PySem PySem.Spec PyProof.Rows
section
variable {X:Cx}{tg:Expr}
def qf(K:PySem.W.Frag)(tl:TE):TI:=λσ H R=>tl σ H λx H1=>∃a,x=.ref a/\(∃xs,mh K H1 a xs)/\R (vr K a) H1
def xY(K:PySem.W.Frag)(tl:TE):TI:=λσ H R=>tl σ H λx H1=>∃a,x=.ref a/\(∃xs,oY K H1 a xs)/\R (Df K a) H1
theorem By{l:Expr}{tl:TE}(hl:PE X l tl):PI X tg l (qf X.K tl):=by
 intro pins s σ H R I h
 refine bS (hl pins s σ H _ I h) λv s1 ⟨x,H1,I1,r1,q1⟩=>?_
 obtain⟨a,e,⟨xs,hq⟩,q⟩:=q1
 subst e
 cases r1
 obtain⟨its,rv,p,hz⟩:=I1.list hq
 refine wpAny_pyIter_list p.isList ?_
 refine⟨s1.heap.objs.size,[s1.heap.objs.size],_,_,H1,rfl,I1.kept (t':=s1.toks) λb o e=>eR _ e,xh a _,⟨_,gI _ rfl,rfl,rfl⟩,λb hb=>?_,q⟩
 have e:b=s1.heap.objs.size:=by simpa using hb
 subst e
 exact I1.CK (cg _) (I1.bY.fresh (cg _))
theorem Es{l:Expr}{tl:TE}(hl:PE X l tl):PI X tg l (xY X.K tl):=by
 intro pins s σ H R I h
 refine bS (hl pins s σ H _ I h) λv s1 ⟨x,H1,I1,r1,q1⟩=>?_
 obtain⟨a,e,⟨xs,hq⟩,q⟩:=q1
 subst e
 cases r1
 obtain⟨its,rv,p,hz⟩:=I1.tuple hq
 refine wpAny_pyIter_tuple (show s1.heap.IsTuple a its.toArray from p) ?_
 refine⟨s1.heap.objs.size,[s1.heap.objs.size],_,_,H1,rfl,I1.kept (t':=s1.toks) λb o e=>eR _ e,uK a _,⟨_,gI _ rfl,rfl,rfl⟩,λb hb=>?_,q⟩
 have e:b=s1.heap.objs.size:=by simpa using hb
 subst e
 exact I1.CK (cg _) (I1.bY.fresh (cg _))
theorem sF{pins:List (Addr×Obj)}{σ:St}{H:Hp}{s:Shared}{R:It->Hp->Prop}{E:Value->Shared->Prop}{lo hi:Int}{t u v:Tok}{tk:Nat}(I:Inv X pins σ H s)(h1 : -(2 ^ 62)<=lo)(h2:lo<2 ^ 62)(h3 : -(2 ^ 62)<=hi)(h4:hi<2 ^ 62)
  (q:R (vq lo (hi-lo).toNat) H):wpAny (model X.prog X.w) X.A (pyIter (.ref s.heap.objs.size)) (PIE X pins σ tg R) E { s with heap:=s.heap.push { cls:=.type "range",data:=.fields #[.int lo t,.int hi u,.int 1 v] },toks:=tk }:=by
 refine wpAny_pyIter_range (IsRange.new ..) (small_one h1 h2 h3 h4) ?_
 have I1:Inv X pins σ H { s with heap:=s.heap.push { cls:=.type "range",data:=.fields #[.int lo t,.int hi u,.int 1 v] },toks:=tk }:=I.kept λb o e=>eR _ e
 refine⟨(s.heap.push { cls:=.type "range",data:=.fields #[.int lo t,.int hi u,.int 1 v] }).objs.size,[(s.heap.push { cls:=.type "range",data:=.fields #[.int lo t,.int hi u,.int 1 v] }).objs.size],_,_,H,rfl,
  I1.kept (t':=tk) λb o e=>eR _ e,uL _ lo (hi-lo).toNat,?_,λb hb=>?_,q⟩
 ·have e1:lo+((0:Nat):Int)*1=lo:=by simp
  have e2:(((hi-lo).toNat:Nat):Int)-((0:Nat):Int)=Builtin.Range.rangeSize lo hi 1:=by rw[rangeSize_one];split <;> lia
  show IsRangeIter _ _ (lo+((0:Nat):Int)*1) ((((hi-lo).toNat:Nat):Int)-((0:Nat):Int)) 1
  rw[e1,e2]
  exact gI _ rfl
 ·have e:b=(s.heap.push { cls:=.type "range",data:=.fields #[.int lo t,.int hi u,.int 1 v] }).objs.size:=by simpa using hb
  subst e
  exact I1.CK (cg _) (I1.bY.fresh (cg _))
def qe(ta:TA):TI:=λσ H R=>ta σ H λvs H1=>∃j:Int,vs=[.int j]/\-(2 ^ 62)<=j/\j<2 ^ 62/\R (vq 0 j.toNat) H1
def qd(ta:TA):TI:=λσ H R=>ta σ H λvs H1=>∃i j:Int,vs=[.int i,.int j]/\(-(2 ^ 62)<=i/\i<2 ^ 62/\-(2 ^ 62)<=j/\j<2 ^ 62)/\R (vq i (j-i).toNat) H1
theorem p9{a:Expr}{ta:TA}{p pos:Pos}(hg:Gl X "range")(hm:X.mg "range" = none)(ha:PA X [a] ta)(hs:starEach [a] X.env=[(false,eval a X.env)]:=by rfl):PI X tg (.Call (.Name "range" p) [a] [] pos) (qe ta):=by
 intro pins s σ H R I h
 refine Call_ (oC I hg hm boot_range (yx (bS (ha pos pins s σ H _ I h) λus s1 ⟨vs,H1,I1,r1,q1⟩=>?_) hs rfl))
 obtain⟨j,e,q1,q2,q⟩:=q1
 subst e
 cases r1 with
 | cons r rr=>
  cases rr
  obtain⟨t,rfl⟩:=r
  exact call_range_1 (sF I1 (by lia) (by lia) q1 q2 (by simpa using q))
theorem lM{a b:Expr}{ta:TA}{p pos:Pos}(hg:Gl X "range")(hm:X.mg "range" = none)(ha:PA X [a,b] ta)(hs:starEach [a,b] X.env=[(false,eval a X.env),(false,eval b X.env)]:=by rfl)(Hw:starEach [b] X.env=[(false,eval b X.env)]:=by rfl) :
  PI X tg (.Call (.Name "range" p) [a,b] [] pos) (qd ta):=by
 intro pins s σ H R I h
 refine Call_ (oC I hg hm boot_range (yx (bS (ha pos pins s σ H _ I h) λus s1 ⟨vs,H1,I1,r1,q1⟩=>?_) (by rw[hs,Hw]) (by rw[Hw];rfl)))
 obtain⟨i,j,e,⟨q1,q2,q3,q4⟩,q⟩:=q1
 subst e
 cases r1 with
 | cons r rr=>
  cases rr with
  | cons r' rr=>
   cases rr
   obtain⟨t,rfl⟩:=r
   obtain⟨t',rfl⟩:=r'
   exact call_range_2 (sF I1 q1 q2 q3 q4 q)
def Ao(wi:TI)(g:TG)(tb:TS):TS:=λD σ H=>wi σ H λJ H1=>∃W:Nat->Nat->St->Hp->Prop,(∃m,W 0 m σ H1)/\∀i m σ H,W i m σ H->
 (J.stop i H/\D.nx σ H)\/(J.go i H/\∃N:St->Hp->Prop,(∀σ' H',N σ' H'->∃m',m'<m/\W (i+1) m' σ' H')/\∀x H',J.vL i H x H'->g x σ H' λσ2 H2=>tb { D with nx:=N,ct:=N,bk:=D.nx } σ2 H2)
def lL(fp:List Addr)(h:Heap):List (Addr×Obj):=fp.filterMap λb=>(h.get? b).map λo=>(b,o)
theorem dY{fp:List Addr}{h:Heap}{b:Addr}{o:Obj}(hb:b∈fp)(e:h.get? b=some o):(b,o)∈lL fp h:=List.mem_filterMap.mpr ⟨b,hb,by rw[e];rfl⟩
theorem xR{fp:List Addr}{h:Heap}{p:Addr×Obj}(hp:p∈lL fp h):p.1∈fp/\h.get? p.1=some p.2:=by
 obtain⟨b,hb,e⟩:=List.mem_filterMap.mp hp
 cases q:h.get? b with
 | none=>rw[q]at e;cases e
 | some o=>
  rw[q]at e
  have e':(b,o)=p:=dU e
  subst e'
  exact⟨hb,q⟩
theorem Inv.pinned{pins:List (Addr×Obj)}{σ:St}{H:Hp}{s:Shared}{fp:List Addr}(I:Inv X pins σ H s)(hf:∀b∈fp,o3 X pins H b)(ho:∀b∈fp,∃o,s.heap.get? b=some o/\∀v,o.data≠.cell v):Inv X (pins++lL fp s.heap) σ H s:=
 I.v8 λp hp=>(dm.mp hp).elim (λz=>I.pin p (fe _ z)) λz=>by
  obtain⟨hb,e⟩:=xR z
  obtain⟨f0,f1,f2,_⟩:=hf p.1 hb
  obtain⟨o,e',d⟩:=ho p.1 hb
  rw[e]at e';cases e'
  exact⟨e,f0,f1,f2,d⟩
theorem Inv.iA{pins pl:List (Addr×Obj)}{σ:St}{H:Hp}{s:Shared}(I:Inv X (pins++pl) σ H s):Inv X pins σ H s:=I.v8 λp hp=>I.pin p (fe _ (pE _ hp))
theorem Eo{iter:Expr}{body:List Stmt}{wi:TI}{g:TG}{tb:TS}{pos:Pos}(hp:PassesOwn (model X.prog X.w) X.A X.env X.xe)(hc:X.calm=true)(hi:PI X tg iter wi)(hg:PG X tg g)(hb:o4 X body tb)
  (hs:∀x,foldedSetIterable iter X.env x=pure x:=by intro _;rfl):PS X (.For tg iter body [] pos) (Ao wi g tb):=by
 intro pins s σ H D I h
 refine wpAny_For (bS (hi pins s σ H _ I h) λv s1 h1=>bS h1 λHt s2 h2=>?_) hs
 obtain⟨it,fp,tn,J,H2,e,I2,T,sD,f2,W,⟨m0,w0⟩,turn⟩:=h2
 subst e
 have stat:∀{H':Hp},(∀b∈fp,H' b=none)->∀b∈fp,o3 X pins H' b:=λhn b hb=>⟨hn b hb,(f2 b hb).2⟩
 refine codeAny_forLoop_any (λn s'=>∃i σ' H',Inv X pins σ' H' s'/\tn i s'.heap/\(∀b∈fp,H' b=none)/\W i n σ' H') ?_ m0 ⟨0,σ,H2,I2,sD,λb hb=>(f2 b hb).1,w0⟩
 rintro n s3 ⟨i,σ3,H3,I3,O1,Qk,w3⟩
 rcases turn i n σ3 H3 w3 with ⟨stop,qn⟩ | ⟨go,N,hN,step⟩
 ·refine nC hp (bS (T.done X rfl rfl rfl hc i pins s3 σ3 H3 X.xe I3 (stat Qk) O1 stop) λr s4 ⟨hr,I4⟩=>?_)
  subst hr
  exact qv ⟨σ3,H3,I4,qn⟩
 ·refine nC hp (bS (T.item X rfl rfl rfl hc i pins s3 σ3 H3 X.xe I3 (stat Qk) O1 go) λr s4 ⟨u,hr,h4⟩=>?_)
  subst hr
  refine nC hp (bS h4 λ_ s5 ⟨x,H5,I5,r5,y5,J',Up⟩=>?_)
  have VB:=I5.pinned (stat Up) (T.obj _ _ J')
  refine nC hp (bS (hg _ s5 σ3 H5 x u _ VB r5 (step x H5 y5)) λ_ s6 ⟨σ6,H6,I6,q6⟩=>?_)
  refine nC hp (bS (hb _ s6 σ6 H6 _ I6 q6) λf s7 q7=>?_)
  have again:∀{σ7:St} {H7:Hp},Inv X (pins++lL fp s5.heap) σ7 H7 s7->N σ7 H7->∃m,m<n/\∃i σ' H',Inv X pins σ' H' s7/\tn i s7.heap/\(∀b∈fp,H' b=none)/\W i m σ' H':=λ{σ7 H7} I7 n7=>by
   obtain⟨m',hm,w7⟩:=hN σ7 H7 n7
   refine⟨m',hm,i+1,σ7,H7,I7.iA,T.keep _ _ _ J' λb hb o e=>(I7.pin (b,o) (fe _ (fe _ (dY hb e)))).1,λb hb=>?_,w7⟩
   obtain⟨o,e,d⟩:=T.obj _ _ J' b hb
   exact(I7.pin (b,o) (fe _ (fe _ (dY hb e)))).2.1
  cases f with
  | next=>obtain⟨σ7,H7,I7,n7⟩:=q7;exact again I7 n7
  | cont=>obtain⟨σ7,H7,I7,n7⟩:=q7;exact again I7 n7
  | brk=>obtain⟨σ7,H7,I7,q7⟩:=q7;exact⟨σ7,H7,I7.iA,q7⟩
  | ret v=>obtain⟨x7,σ7,H7,I7,r7,q7⟩:=q7;exact⟨x7,σ7,H7,I7.iA,r7,q7⟩
end
theorem zN{K:PySem.W.Frag}{a:Addr}{xs:List V}{g:TG}{tb:TS}{D:Ends}{σ:St}{H:Hp}(Pv:Nat->St->Hp->Prop)(h0:Pv 0 σ H)(hl:∀i σ H,i<=xs.length->Pv i σ H->mh K H a xs)
  (hs:∀i x σ H,xs[i]?=some x->Pv i σ H->g x σ H λσ2 H2=>tb { D with nx:=Pv (i+1),ct:=Pv (i+1),bk:=D.nx } σ2 H2) (hd:∀σ H,Pv xs.length σ H->D.nx σ H) :
  ∃W:Nat->Nat->St->Hp->Prop,(∃m,W 0 m σ H)/\∀i m σ H,W i m σ H->
   ((vr K a).stop i H/\D.nx σ H)\/((vr K a).go i H/\∃N:St->Hp->Prop,(∀σ' H',N σ' H'->∃m',m'<m/\W (i+1) m' σ' H')/\∀x H',(vr K a).vL i H x H'->g x σ H' λσ2 H2=>tb { D with nx:=N,ct:=N,bk:=D.nx } σ2 H2):=by
 refine⟨λi m σ H=>m=xs.length-i/\i<=xs.length/\Pv i σ H,⟨xs.length,by simp,jn _,h0⟩,?_⟩
 rintro i m σ H ⟨rfl,hi,p⟩
 have q:=hl i σ H hi p
 by_cases lT:i<xs.length
 ·refine .inr ⟨⟨xs,xs[i],q,by simp[lT]⟩,Pv (i+1),λσ' H' p'=>⟨xs.length-(i+1),by lia,rfl,lT,p'⟩,λx H' y=>?_⟩
  obtain⟨e,y⟩:=y
  subst e
  exact hs i x σ _ (y xs q) p
 ·have e:i=xs.length:=by lia
  subst e
  exact .inl ⟨⟨xs,q,cg _⟩,hd σ H p⟩
theorem CN{K:PySem.W.Frag}{a:Addr}{xs:List V}{g:TG}{tb:TS}{D:Ends}{σ:St}{H:Hp}(Pv:Nat->St->Hp->Prop)(h0:Pv 0 σ H)(hl:∀i σ H,i<=xs.length->Pv i σ H->oY K H a xs)
  (hs:∀i x σ H,xs[i]?=some x->Pv i σ H->g x σ H λσ2 H2=>tb { D with nx:=Pv (i+1),ct:=Pv (i+1),bk:=D.nx } σ2 H2) (hd:∀σ H,Pv xs.length σ H->D.nx σ H) :
  ∃W:Nat->Nat->St->Hp->Prop,(∃m,W 0 m σ H)/\∀i m σ H,W i m σ H->
   ((Df K a).stop i H/\D.nx σ H)\/((Df K a).go i H/\∃N:St->Hp->Prop,(∀σ' H',N σ' H'->∃m',m'<m/\W (i+1) m' σ' H')/\∀x H',(Df K a).vL i H x H'->g x σ H' λσ2 H2=>tb { D with nx:=N,ct:=N,bk:=D.nx } σ2 H2):=by
 refine⟨λi m σ H=>m=xs.length-i/\i<=xs.length/\Pv i σ H,⟨xs.length,by simp,jn _,h0⟩,?_⟩
 rintro i m σ H ⟨rfl,hi,p⟩
 have q:=hl i σ H hi p
 by_cases lT:i<xs.length
 ·refine .inr ⟨⟨xs,xs[i],q,by simp[lT]⟩,Pv (i+1),λσ' H' p'=>⟨xs.length-(i+1),by lia,rfl,lT,p'⟩,λx H' y=>?_⟩
  obtain⟨e,y⟩:=y
  subst e
  exact hs i x σ _ (y xs q) p
 ·have e:i=xs.length:=by lia
  subst e
  exact .inl ⟨⟨xs,q,cg _⟩,hd σ H p⟩
theorem yd{lo:Int}{n:Nat}{g:TG}{tb:TS}{D:Ends}{σ:St}{H:Hp}(Pv:Nat->St->Hp->Prop)(h0:Pv 0 σ H)
  (hs:∀i σ H,i<n->Pv i σ H->g (.int (lo+i)) σ H λσ2 H2=>tb { D with nx:=Pv (i+1),ct:=Pv (i+1),bk:=D.nx } σ2 H2) (hd:∀σ H,Pv n σ H->D.nx σ H) :
  ∃W:Nat->Nat->St->Hp->Prop,(∃m,W 0 m σ H)/\∀i m σ H,W i m σ H->
   ((vq lo n).stop i H/\D.nx σ H)\/((vq lo n).go i H/\∃N:St->Hp->Prop,(∀σ' H',N σ' H'->∃m',m'<m/\W (i+1) m' σ' H')/\∀x H',(vq lo n).vL i H x H'->g x σ H' λσ2 H2=>tb { D with nx:=N,ct:=N,bk:=D.nx } σ2 H2):=by
 refine⟨λi m σ H=>m=n-i/\i<=n/\Pv i σ H,⟨n,by simp,jn _,h0⟩,?_⟩
 rintro i m σ H ⟨rfl,hi,p⟩
 by_cases lT:i<n
 ·refine .inr ⟨lT,Pv (i+1),λσ' H' p'=>⟨n-(i+1),by lia,rfl,lT,p'⟩,λx H' y=>?_⟩
  obtain⟨e,y⟩:=y
  subst e y
  exact hs i σ _ lT p
 ·have e:i=n:=by lia
  subst e
  exact .inl ⟨cg _,hd σ H p⟩
end L2
namespace L2
open PySem PySem.Spec PyProof.Rows
abbrev R2:=V->V->Hp->VK->Prop
def ib(X:Cx)(f:Value->Value->Sem Value)(r:R2):Prop:=
 ∀(pins:List (Addr×Obj)) (s:Shared) (σ:St) (H:Hp) (x y:V) (v u:Value) (Q:VK),Inv X pins σ H s->RelV x v->RelV y u->r x y H Q->
  wpAny (model X.prog X.w) X.A (f v u) (EP X pins σ Q) X.xe s
def cH(X:Cx)(f:Value)(r:List V->Hp->VK->Prop):Prop:=
 ∀(pins:List (Addr×Obj)) (s:Shared) (σ:St) (H:Hp) (xs:List V) (us:List Value) (Q:VK),Inv X pins σ H s->Vals xs us->r xs H Q->
  wpAny (model X.prog X.w) X.A (call f us) (EP X pins σ Q) X.xe s
def yo(r:R2)(ta tb:TE):TE:=λσ H Q=>ta σ H λx H1=>tb σ H1 λy H2=>r x y H2 Q
def Jk(r:V->Hp->VK->Prop)(ta:TE):TE:=λσ H Q=>ta σ H λx H1=>r x H1 Q
def rI(C:Int->Int->Prop)(g:Int->Int->V):R2:=λx y H Q=>∃i j,x=.int i/\y=.int j/\C i j/\Q (g i j) H
def yq(g:Int->Int->V):R2:=λx y H Q=>∃i j,x=.int i/\y=.int j/\Q (g i j) H
def rU(g:Int->V):V->Hp->VK->Prop:=λx H Q=>∃i,x=.int i/\Q (g i) H
section
variable {X:Cx}{a b c:Expr}{ta tb tc:TE}{pos:Pos}
theorem Gi(ha:PE X a ta)(hb:PE X b tb){pins:List (Addr×Obj)}{s:Shared}{σ:St}{H:Hp}{R:V->V->Hp->Prop}(I:Inv X pins σ H s)
  (h:ta σ H λx H1=>tb σ H1 λy H2=>R x y H2) {Q:Value->Shared->Prop} {f:Value->Value->Sem Value}
  (hf:∀v u s2 x y H2,Inv X pins σ H2 s2->RelV x v->RelV y u->R x y H2->wpAny (model X.prog X.w) X.A (f v u) Q X.xe s2) :
  wpAny (model X.prog X.w) X.A (eval a X.env) (λv s₁=>wpAny (model X.prog X.w) X.A (eval b X.env) (λu s₂=>wpAny (model X.prog X.w) X.A (f v u) Q X.xe s₂) X.xe s₁) X.xe s:=by
 refine bS (ha pins s σ H _ I h) λv s1 ⟨x,H1,I1,r1,q1⟩=>?_
 refine bS (hb pins s1 σ H1 _ I1 q1) λu s2 ⟨y,H2,I2,r2,q2⟩=>?_
 exact hf v u s2 x y H2 I2 r1 r2 q2
theorem Hf{op:Operator}{r:R2}(ho:ib X (binaryOp op) r)(ha:PE X a ta)(hb:PE X b tb):PE X (.BinOp a op b pos) (yo r ta tb):=by
 intro pins s σ H Q I h
 exact wpAny_BinOp (Gi ha hb I h λv u s2 x y H2 I2 rx ry q=>ho pins s2 σ H2 x y v u Q I2 rx ry q)
theorem Jr{f:Value->Value->Sem Value}{C:Int->Int->Prop}{g:Int->Int->Int}
  (rule:∀(i j:Int) (t u:Tok) (s:Shared) (Q:Value->Shared->Prop) (E:Value->Shared->Prop),C i j->Q (.int (g i j) s.toks) { s with toks:=s.toks+1 }->wpAny (model X.prog X.w) X.A (f (.int i t) (.int j u)) Q E s) :
  ib X f (rI C λi j=>.int (g i j)):=by
 intro pins s σ H x y v u Q I rx ry h
 obtain⟨i,j,rfl,rfl,hc,q⟩:=h
 obtain⟨t,rfl⟩:=rx
 obtain⟨t',rfl⟩:=ry
 exact rule i j t t' s _ _ hc ⟨.int (g i j),H,I.tok _,⟨_,rfl⟩,q⟩
theorem Hj{f:Value->Value->Sem Value}{g:Int->Int->Int}
  (rule:∀(i j:Int) (t u:Tok) (s:Shared) (Q:Value->Shared->Prop) (E:Value->Shared->Prop),Q (.int (g i j) s.toks) { s with toks:=s.toks+1 }->wpAny (model X.prog X.w) X.A (f (.int i t) (.int j u)) Q E s) :
  ib X f (yq λi j=>.int (g i j)):=by
 intro pins s σ H x y v u Q I rx ry h
 obtain⟨i,j,rfl,rfl,q⟩:=h
 obtain⟨t,rfl⟩:=rx
 obtain⟨t',rfl⟩:=ry
 exact rule i j t t' s _ _ ⟨.int (g i j),H,I.tok _,⟨_,rfl⟩,q⟩
theorem BV{f:Value->Value->Sem Value}{g:Int->Int->Bool}
  (rule:∀(i j:Int) (t u:Tok) (s:Shared) (Q:Value->Shared->Prop) (E:Value->Shared->Prop),Q (.bool (g i j)) s->wpAny (model X.prog X.w) X.A (f (.int i t) (.int j u)) Q E s) :
  ib X f (yq λi j=>.bl (g i j)):=by
 intro pins s σ H x y v u Q I rx ry h
 obtain⟨i,j,rfl,rfl,q⟩:=h
 obtain⟨t,rfl⟩:=rx
 obtain⟨t',rfl⟩:=ry
 exact rule i j t t' s _ _ ⟨.bl (g i j),H,I,rfl,q⟩
def Jd(i j:Int):Prop:=0<=j/\j<=1000000/\i.natAbs<2 ^ 64
def g6(i j:Int):Prop:=(-(2 ^ 64)<i/\i<2 ^ 64)\/(-(2 ^ 64)<j/\j<2 ^ 64)
theorem g6.ok{i j:Int}(h:g6 i j):IntMulOk i j:=by
 rcases h with ⟨h1,h2⟩ | ⟨h1,h2⟩
 ·exact .of_left (intBits_le_64 h1 h2)
 ·exact .of_right (intBits_le_64 h1 h2)
theorem bM:ib X (binaryOp .Add) (yq λi j=>.int (i+j)):=Hj λ_ _ _ _ _ _ _ q=>add_int q
theorem qQ:ib X (binaryOp .Sub) (yq λi j=>.int (i-j)):=Hj λ_ _ _ _ _ _ _ q=>sub_int q
theorem og:ib X (binaryOp .Mult) (rI g6 λi j=>.int (i*j)):=Jr λ_ _ _ _ _ _ _ hc q=>mul_int q hc.ok
theorem iG:ib X (binaryOp .Mod) (rI (λ_ j=>0<j) λi j=>.int (i%j)):=Jr λi j _ _ _ _ _ hc q=>by
 have h1:(0:Int)<j:=hc
 exact mod_int' (by lia) (by rw[Int.fmod_eq_emod_of_nonneg i (by lia)];exact q)
theorem lN:ib X (binaryOp .Pow) (rI Jd λi j=>.int (i ^ j.toNat)):=Jr λ_ _ _ _ _ _ _ hc q=>pow_int_small hc.1 hc.2.1 hc.2.2 q
end
def xI:V->V->Bool
 | .non,.non=>true | .non,.int _=>true | .int _,.non=>true | .non,.bl _=>true | .bl _,.non=>true | .non,.str _=>true | .str _,.non=>true
 | .int _,.int _=>true | .bl _,.bl _=>true | .str _,.str _=>true | .zW _,.zW _=>true
 | .int _,.str _=>true | .str _,.int _=>true | .bl _,.str _=>true | .str _,.bl _=>true
 | _,_=>false
def G9:R2:=λx y H Q=>xI x y=true/\Q (.bl (decide (x=y))) H
def G8:R2:=λx y H Q=>xI x y=true/\Q (.bl (!decide (x=y))) H
theorem wH{i j:Int}:decide (V.int i=V.int j)=(i==j):=by
 rw[nD]
 simp
theorem zS{i j:Bool}:decide (V.bl i=V.bl j)=(i==j):=by
 rw[nD]
 simp
theorem wG{i j:Str}:decide (V.str i=V.str j)=(i==j):=by
 rw[nD]
 simp
theorem wI{i j:Array UInt8}:decide (V.zW i=V.zW j)=(i.toList==j.toList):=by
 rw[nD]
 cases i
 cases j
 simp
section
variable {X:Cx}{a b c:Expr}{ta tb tc:TE}{pos:Pos}
theorem bp{pins:List (Addr×Obj)}{σ:St}{H:Hp}{s:Shared}{Q:VK}{k k':Bool}(I:Inv X pins σ H s)(q:Q (.bl k) H)(e:k=k'):EP X pins σ Q (.bool k') s:=by
 subst e
 exact⟨.bl k,H,I,rfl,q⟩
theorem eL:ib X (compareOp .Eq) G9:=by
 intro pins s σ H x y v u Q I rx ry h
 obtain⟨hs,q⟩:=h
 cases x with
 | non=>
  cases rx
  cases y with
  | non=>cases ry;exact PySem.EqNone.eq_none_none (bp I q (by simp))
  | bl j=>cases ry;exact PySem.EqNone.eq_none_bool (bp I q (by simp))
  | int j=>obtain⟨t',rfl⟩:=ry;exact PySem.EqNone.eq_none_int (bp I q (by simp))
  | str j=>obtain⟨t',rfl⟩:=ry;exact PySem.EqNone.eq_none_str (bp I q (by simp))
  | _=>exact absurd (show false=true from hs) dn
 | bl i=>
  cases rx
  cases y with
  | non=>cases ry;exact PySem.EqNone.eq_bool_none (bp I q (by simp))
  | bl j=>cases ry;exact eq_bool (bp I q zS)
  | str j=>obtain⟨t',rfl⟩:=ry;exact PySem.EqMixed.eq_bool_str (bp I q (by simp))
  | _=>exact absurd (show false=true from hs) dn
 | int i=>
  obtain⟨t,rfl⟩:=rx
  cases y with
  | non=>cases ry;exact PySem.EqNone.eq_int_none (bp I q (by simp))
  | int j=>obtain⟨t',rfl⟩:=ry;exact eq_int (bp I q wH)
  | str j=>obtain⟨t',rfl⟩:=ry;exact PySem.EqMixed.eq_int_str (bp I q (by simp))
  | _=>exact absurd (show false=true from hs) dn
 | str i=>
  obtain⟨t,rfl⟩:=rx
  cases y with
  | non=>cases ry;exact PySem.EqNone.eq_str_none (bp I q (by simp))
  | bl j=>cases ry;exact PySem.EqMixed.eq_str_bool (bp I q (by simp))
  | int j=>obtain⟨t',rfl⟩:=ry;exact PySem.EqMixed.eq_str_int (bp I q (by simp))
  | str j=>obtain⟨t',rfl⟩:=ry;exact eq_str (bp I q wG)
  | _=>exact absurd (show false=true from hs) dn
 | zW i=>
  obtain⟨t,rfl⟩:=rx
  cases y with
  | zW j=>obtain⟨t',rfl⟩:=ry;exact PySem.W.eq_bytes (bp I q wI)
  | _=>exact absurd (show false=true from hs) dn
 | _=>cases y <;> exact absurd (show false=true from hs) dn
theorem zr:ib X (compareOp .NotEq) G8:=by
 intro pins s σ H x y v u Q I rx ry h
 obtain⟨hs,q⟩:=h
 cases x with
 | non=>
  cases rx
  cases y with
  | non=>cases ry;exact PySem.EqNone.ne_none_none (bp I q (by simp))
  | bl j=>cases ry;exact PySem.EqNone.ne_none_bool (bp I q (by simp))
  | int j=>obtain⟨t',rfl⟩:=ry;exact PySem.EqNone.ne_none_int (bp I q (by simp))
  | str j=>obtain⟨t',rfl⟩:=ry;exact PySem.EqNone.ne_none_str (bp I q (by simp))
  | _=>exact absurd (show false=true from hs) dn
 | bl i=>
  cases rx
  cases y with
  | non=>cases ry;exact PySem.EqNone.ne_bool_none (bp I q (by simp))
  | bl j=>cases ry;exact ne_bool (bp I q (cR not zS))
  | str j=>obtain⟨t',rfl⟩:=ry;exact PySem.EqMixed.ne_bool_str (bp I q (by simp))
  | _=>exact absurd (show false=true from hs) dn
 | int i=>
  obtain⟨t,rfl⟩:=rx
  cases y with
  | non=>cases ry;exact PySem.EqNone.ne_int_none (bp I q (by simp))
  | int j=>obtain⟨t',rfl⟩:=ry;exact ne_int (bp I q (cR not wH))
  | str j=>obtain⟨t',rfl⟩:=ry;exact PySem.EqMixed.ne_int_str (bp I q (by simp))
  | _=>exact absurd (show false=true from hs) dn
 | str i=>
  obtain⟨t,rfl⟩:=rx
  cases y with
  | non=>cases ry;exact PySem.EqNone.ne_str_none (bp I q (by simp))
  | bl j=>cases ry;exact PySem.EqMixed.ne_str_bool (bp I q (by simp))
  | int j=>obtain⟨t',rfl⟩:=ry;exact PySem.EqMixed.ne_str_int (bp I q (by simp))
  | str j=>obtain⟨t',rfl⟩:=ry;exact ne_str (bp I q (cR not wG))
  | _=>exact absurd (show false=true from hs) dn
 | zW i=>
  obtain⟨t,rfl⟩:=rx
  cases y with
  | zW j=>obtain⟨t',rfl⟩:=ry;exact PySem.W.ne_bytes (bp I q (cR not wI))
  | _=>exact absurd (show false=true from hs) dn
 | _=>cases y <;> exact absurd (show false=true from hs) dn
theorem wc:ib X (compareOp .Lt) (yq λi j=>.bl (decide (i<j))):=BV λ_ _ _ _ _ _ _ q=>lt_int q
theorem wd:ib X (compareOp .LtE) (yq λi j=>.bl (decide (i<=j))):=BV λ_ _ _ _ _ _ _ q=>le_int q
theorem zt:ib X (compareOp .Gt) (yq λi j=>.bl (decide (j<i))):=BV λ_ _ _ _ _ _ _ q=>gt_int q
theorem Hi:ib X (compareOp .GtE) (yq λi j=>.bl (decide (j<=i))):=BV λ_ _ _ _ _ _ _ q=>ge_int q
theorem bf(b:Expr){op:CmpOp}(h:op≠.In:=by decide)(h2:op≠.NotIn:=by decide):behindInMarks op b=false:=by
 have e1:(op==CmpOp.In)=false:=by cases op <;> first | rfl | exact absurd rfl h
 have e2:(op==CmpOp.NotIn)=false:=by cases op <;> first | rfl | exact absurd rfl h2
 cases b <;> simp[behindInMarks,e1,e2]
theorem BL{op:CmpOp}{r:R2}(ho:ib X (compareOp op) r)(ha:PE X a ta)(hb:PE X b tb)(hm:behindInMarks op b=false):PE X (.Compare a [op] [b] pos) (yo r ta tb):=by
 intro pins s σ H Q I h
 exact wpAny_Compare1 (Gi ha hb I h λv u s2 x y H2 I2 rx ry q=>ho pins s2 σ H2 x y v u Q I2 rx ry q) hm
def mB(t:TE):TT:=λσ H Q=>t σ H λx H'=>∃k,x=.bl k/\Q k H'
theorem Bp{op:CmpOp}{r:R2}(ho:ib X (compareOp op) r)(ha:PE X a ta)(hb:PE X b tb)(hm:behindInMarks op b=false):PT X (.Compare a [op] [b] pos) (mB (yo r ta tb)):=by
 intro pins s σ H Q I h
 refine wpAny_isTrue_Compare1 (bS (ha pins s σ H _ I h) λv s1 ⟨x,H1,I1,r1,q1⟩=>bS (hb pins s1 σ H1 _ I1 q1) λu s2 ⟨y,H2,I2,r2,q2⟩=>
  bS (ho pins s2 σ H2 x y v u _ I2 r1 r2 q2) λc s3 ⟨z,H3,I3,r3,k,e,q3⟩=>?_) hm
 subst e
 cases r3
 exact mq ⟨H3,I3,q3⟩
def iB(r r':R2)(ta tb tc:TE):TE:=λσ H Q=>ta σ H λx H1=>tb σ H1 λy H2=>r x y H2 λz H3=>∃k,z=.bl k/\
 (if k=true then tc σ H3 λw' H4=>r' y w' H4 Q else Q (.bl false) H3)
theorem sP{op op':CmpOp}{r r':R2}(ho:ib X (compareOp op) r)(rM:ib X (compareOp op') r')(ha:PE X a ta)(hb:PE X b tb)(hc:PE X c tc)
  (hm:lastMarks [op,op'] [b,c]=false:=by with_unfolding_all rfl):PE X (.Compare a [op,op'] [b,c] pos) (iB r r' ta tb tc):=by
 intro pins s σ H Q I h
 refine Compare_chain (bS (ha pins s σ H _ I h) λv s1 ⟨x,H1,I1,r1,q1⟩=>chain_link (bS (hb pins s1 σ H1 _ I1 q1) λu s2 ⟨y,H2,I2,r2,q2⟩=>
  bS (ho pins s2 σ H2 x y v u _ I2 r1 r2 q2) λd s3 ⟨z,H3,I3,r3,k,e,q3⟩=>?_)) hm
 subst e
 cases r3
 refine mq ?_
 cases k with
 | false=>exact ite_ff ⟨.bl false,H3,I3,rfl,q3⟩
 | true=>exact ite_tt (chain_last (bS (hc pins s3 σ H3 _ I3 q3) λw' s4 ⟨z',H4,I4,r4,q4⟩=>rM pins s4 σ H4 y z' u w' Q I4 r2 r4 q4))
theorem sM{op op':CmpOp}{r r':R2}(ho:ib X (compareOp op) r)(rM:ib X (compareOp op') r')(ha:PE X a ta)(hb:PE X b tb)(hc:PE X c tc)
  (hm:lastMarks [op,op'] [b,c]=false:=by with_unfolding_all rfl):PT X (.Compare a [op,op'] [b,c] pos) (mB (iB r r' ta tb tc)):=by
 intro pins s σ H Q I h
 refine isTrue_chain (bS (ha pins s σ H _ I h) λv s1 ⟨x,H1,I1,r1,q1⟩=>test_link (bS (hb pins s1 σ H1 _ I1 q1) λu s2 ⟨y,H2,I2,r2,q2⟩=>
  bS (ho pins s2 σ H2 x y v u _ I2 r1 r2 q2) λd s3 ⟨z,H3,I3,r3,k,e,q3⟩=>?_)) hm
 subst e
 cases r3
 refine mq ?_
 cases k with
 | false=>
  obtain⟨k',e',q'⟩:=q3
  cases e'
  exact ite_ff ⟨H3,I3,q'⟩
 | true=>
  refine ite_tt (test_last (bS (hc pins s3 σ H3 _ I3 q3) λw' s4 ⟨z',H4,I4,r4,q4⟩=>bS (rM pins s4 σ H4 y z' u w' _ I4 r2 r4 q4) λd' s5 ⟨z2,H5,I5,r5,k2,e2,q5⟩=>?_))
  subst e2
  cases r5
  exact mq ⟨H5,I5,q5⟩
theorem jS:(sizeLine:Nat)<2 ^ 63:=by rw[ly];decide
theorem bV:ib X (binaryOp .Add) (λx y H Q=>∃i j,x=.str i/\y=.str j/\i.length+j.length<=sizeLine/\Q (.str (i++j)) H):=by
 intro pins s σ H x y v u Q I rx ry h
 obtain⟨i,j,rfl,rfl,hz,q⟩:=h
 obtain⟨t,rfl⟩:=rx
 obtain⟨t',rfl⟩:=ry
 exact add_str (λt' tk=>⟨.str (i++j),H,I.tok _,⟨_,rfl⟩,q⟩) hz
theorem vals1{x:V}{us:List Value}(r:Vals [x] us):∃u,us=[u]/\RelV x u:=by
 cases r with
 | cons r1 r2=>cases r2;exact⟨_,rfl,r1⟩
theorem zV:cH X (.builtin "abs") (λxs H Q=>∃i,xs=[.int i]/\Q (.int (if i<0 then -i else i)) H):=by
 intro pins s σ H xs us Q I r h
 obtain⟨i,rfl,q⟩:=h
 obtain⟨u,rfl,t,rfl⟩:=vals1 r
 exact call_abs_int λu tk=>⟨.int (if i<0 then -i else i),H,I.tok _,⟨_,rfl⟩,q⟩
end
end L2
namespace L2
open PySem PySem.Spec PyProof.Rows
structure Gq(h:Heap)(x dx C:Addr)(mA:Str->Option Value):Prop where
 obj:h.get? x=some (PySem.W.instObj C dx)
 ns:h.Ns1 dx mA
 ne:dx≠x
theorem qb{h:Heap}{dx:Addr}{mA:Str->Option Value}(n:h.Ns1 dx mA):∃od,h.get? dx=some od/\∀name,PySem.W.lookIn name od=some (mA name):=by
 obtain⟨o,es,ep,ho,hd,hk,_,hm⟩:=n
 refine⟨o,ho,λname=>?_⟩
 have e:=hm name
 unfold nsFind findBy at e
 rw[<-Array.find?_toList]at e
 unfold PySem.W.lookIn
 rw[hd]
 dsimp only
 split
 ·rename_i y q
  rw[q]at e
  exact cR some e
 ·rename_i q
  rw[q]at e
  have a:es.toList.any (·.refKey)=false:=by
   rw[List.any_eq_false]
   intro y hy
   obtain⟨z,t,hkey⟩:=hk y (Array.mem_toList_iff.mp hy)
   simp[DictEntry.refKey,hkey]
  have a':¬es.toList.any (·.refKey)=true:=by rw[a];exact dn
  rw[aK a']
  exact cR some e
theorem Gq.look{h:Heap}{x dx C:Addr}{mA:Str->Option Value}(I:Gq h x dx C mA):∃od,PySem.W.InstAt h x (PySem.W.instObj C dx) C (some od)/\∀name,PySem.W.lookIn name od=some (mA name):=
 let ⟨od,ho,hl⟩:=qb I.ns
 ⟨od,⟨I.obj,rfl,rfl,ho⟩,hl⟩
section
variable {P:Program}{w:World}{H H':Hp}{h h':Heap}{a C dx:Addr}{fs Uo:List (Str×V)}
theorem Cq(bY:lh P w H h)(e:H a=some (.ins C dx fs)):∃mA,Gq h a dx C mA/\(∀f,Gm (fs.lookup f) (mA f))/\PySem.Within mA (fs.map (·.1))/\fs.length<=1000/\H dx=some (.own a):=by
 obtain⟨d,z,ne,ob,mA,n,r,q⟩:=(show cZ P w H h a (.ins C dx fs) from bY a _ e)
 exact⟨mA,⟨ob,n,ne⟩,r,q,z,d⟩
end
structure Cls(K:PySem.W.Frag)(C:Addr):Prop where
 pg:PySem.W.plainGet K C Str.empty=true
 hd:PySem.W.hasDictIn K C=true
 po:PySem.W.plainOver K C=true
 sa:PySem.W.findIn K (.ref C) "__setattr__" = some (some (.builtin "object.__setattr__"))
theorem Cls.get{K:PySem.W.Frag}{C:Addr}(c:Cls K C)(f:Str):PySem.W.plainGet K C f=true:=c.pg
section
variable {X:Cx}{pins:List (Addr×Obj)}{σ:St}{H:Hp}{s:Shared}{A:Around}{E:Value->Shared->Prop}{Q:Value->Shared->Prop}{c:Value}{b:Bool}
inductive gR (K:PySem.W.Frag) (H:Hp):V->Value->Prop where
 | non:gR K H .non (.type "NoneType")
 | bl (x:Bool):gR K H (.bl x) (.type "bool")
 | int (i:Int):gR K H (.int i) (.type "int")
 | str (x:Str):gR K H (.str x) (.type "str")
 | GK (x:UInt64):gR K H (.GK x) (.type "float")
 | lst {a:Addr} {xs:List V} (e:H a=some (.lst xs)):gR K H (.ref a) (.type "list")
 | wF {a:Addr} {o:Obj} {xs:List V} (e:H a=some (.wF o (.lst xs))):gR K H (.ref a) (.type "list")
 | tup {a:Addr} {xs:List V} (e:H a=some (.tup xs)):gR K H (.ref a) (.type "tuple")
 | dK {a:Addr} {eM:List (Key×V)} (e:H a=some (.dK eM)):gR K H (.ref a) (.type "dict")
 | dT {a:Addr} {eM:List (List Key×V)} (e:H a=some (.dT eM)):gR K H (.ref a) (.type "dict")
 | ins {a C dx:Addr} {fs:List (Str×V)} (e:H a=some (.ins C dx fs)) (cl:Cls K C) (ha:PySem.W.findIn K (.ref C) "__class__" = some (some (.builtin "object.__class__")))
   (hn:PySem.W.specialIn K (.builtin "object.__class__") "__get__" = some (some (.builtin "getset_descriptor.__get__"))) (PN:PySem.W.takesIn K (.builtin "object.__class__")=some true)
   (hm:PySem.W.mroIn K C (.type "object")=some true):gR K H (.ref a) (.ref C)
theorem xW{x:V}{u t:Value}(I:Inv X pins σ H s)(rx:RelV x u)(ty:gR X.K H x t)(e:PySem.W.kitOne X.K t c=some b)(h:∀tk,Q (.bool b) { s with toks:=tk }) :
  wpAny (model X.prog X.w) A (call (.builtin "isinstance") [u,c]) Q E s:=by
 cases ty with
 | non=>cases (show u=Value.none from rx);exact gF PySem.W.kitx_none I.mV True.intro e (λz=>nomatch z) h
 | bl y=>cases (show u=Value.bool y from rx);exact gF PySem.W.kitx_bool I.mV True.intro e (λz=>nomatch z) h
 | int i=>obtain⟨t,q⟩:=(show ∃t,u=Value.int i t from rx);cases q;exact gF PySem.W.kitx_int I.mV True.intro e (λz=>nomatch z) h
 | str y=>obtain⟨t,q⟩:=(show ∃t,u=Value.str y t from rx);cases q;exact gF PySem.W.kitx_str I.mV True.intro e (λz=>nomatch z) h
 | GK y=>obtain⟨t,q⟩:=(show ∃t,u=Value.float y t from rx);cases q;exact gF PySem.W.kitx_float I.mV True.intro e (λz=>nomatch z) h
 | @lst a xs ea=>
  cases (show u=Value.ref a from rx)
  obtain⟨_,_,n,_,h1⟩:=(show cZ X.prog X.w H s.heap a (.lst xs) from I.bY a _ ea)
  exact gF PySem.W.kitx_list I.mV ⟨_,h1,rfl⟩ e (λz=>nomatch z) h
 | @wF a ob xs ea=>
  cases (show u=Value.ref a from rx)
  obtain⟨_,_,_,n,_,h1⟩:=(show cZ X.prog X.w H s.heap a (.wF ob (.lst xs)) from I.bY a _ ea)
  exact gF PySem.W.kitx_list I.mV ⟨_,h1,rfl⟩ e (λz=>nomatch z) h
 | @tup a xs ea=>
  cases (show u=Value.ref a from rx)
  obtain⟨_,_,_,p⟩:=(show cZ X.prog X.w H s.heap a (.tup xs) from I.bY a _ ea)
  obtain⟨o,h1,h2,_⟩:=p
  exact gF PySem.W.kitx_tuple I.mV ⟨o,h1,h2⟩ e (λz=>nomatch z) h
 | @dK a eM ea=>
  cases (show u=Value.ref a from rx)
  obtain⟨_,_,vs,_,p⟩:=(show cZ X.prog X.w H s.heap a (.dK eM) from I.bY a _ ea)
  obtain⟨o,es,ep,h1,h2,_⟩:=p
  exact gF PySem.W.kitx_dict I.mV ⟨o,h1,h2.1⟩ e (λz=>nomatch z) h
 | @dT a eM ea=>
  cases (show u=Value.ref a from rx)
  obtain⟨_,_,xs,_,o,es,ep,h1,h2,_⟩:=(show cZ X.prog X.w H s.heap a (.dT eM) from I.bY a _ ea)
  exact gF PySem.W.kitx_dict I.mV ⟨o,h1,h2.1⟩ e (λz=>nomatch z) h
 | @ins a C dx fs ea cl ha hn PN hm=>
  cases (show u=Value.ref a from rx)
  obtain⟨mA,O,_⟩:=Cq I.bY ea
  obtain⟨od,J,_⟩:=O.look
  exact gF (PySem.W.kitx_own (cl.get _) cl.hd ha hn PN hm) I.mV J e (λz=>nomatch z) h
end
end L2
namespace L2
open PySem PySem.Spec PyProof.Rows
structure eB(k:Nat)(A:Around):Prop where
 hd:A.handled=none
 dp:A.depth+3*k+5<recursionLimit
 un:A.units+16*k+200<cLine
theorem eB.mono{j k:Nat}{A:Around}(r:eB k A)(h:j<=k:=by lia):eB j A:=⟨r.hd,by have:=r.dp;lia,by have:=r.un;lia⟩
theorem eB.deeper{k:Nat}{A:Around}(r:eB (k+1) A)(env:Env):eB k (A.deeper env):=
 ⟨r.hd,by have:=r.dp;show A.depth+1+3*k+5<_;lia,by have:=r.un;show A.units+3+16*k+200<_;lia⟩
theorem eB.depth{k:Nat}{A:Around}(r:eB k A):A.depth<recursionLimit:=by have:=r.dp;lia
theorem eB.units{k:Nat}{A:Around}(r:eB k A):A.units+64<cLine:=by have:=r.un;lia
theorem eB.fW{k:Nat}{A:Around}(r:eB k A):A.units<cLine:=by have:=r.un;lia
def xt:TA:=λ_ H Q=>Q [] H
def pW(ta:TE)(tr:TA):TA:=λσ H Q=>ta σ H λx H1=>tr σ H1 λxs H2=>Q (x::xs) H2
section
variable {X:Cx}{e:Expr}{es:List Expr}{te:TE}{t:TA}{pos:Pos}
theorem Fd:PA X [] xt:=λ_ _ _ _ H Q I h=>Calls.spliced_nil ⟨[],H,I,.nil,h⟩
theorem wa(ha:PE X e te)(hr:PA X es t)(hs:starEach (e::es) X.env=(false,eval e X.env)::starEach es X.env:=by rfl):PA X (e::es) (pW te t):=by
 intro pos pins s σ H Q I h
 rw[hs]
 show wpAny _ _ (spliced ((false,eval e X.env)::backTo pos (starEach es X.env))) _ _ s
 refine Calls.spliced_cons (bS (ha pins s σ H _ I h) λu s1 ⟨x,H1,I1,r1,q1⟩=>?_)
 exact bS (hr pos pins s1 σ H1 _ I1 q1) λus s2 ⟨xs,H2,I2,r2,q2⟩=>⟨x::xs,H2,I2,.cons r1 r2,q2⟩
def xl(t:TA):TE:=λσ H Q=>t σ H λxs H1=>xs.length<=sizeLine/\∀p,H1 p=none->Q (.ref p) (upd H1 p (.tup xs))
def xu(t:TA):TE:=λσ H Q=>t σ H λxs H1=>xs.length<=sizeLine/\∀p,H1 p=none->Q (.ref p) (upd H1 p (.lst xs))
theorem Eu{x1}(h:PA X es t):PE X (.Tuple es x1 pos) (xl t):=by
 intro pins s σ H Q I hq
 refine wpAny_Tuple_spliced (bS (h pos pins s σ H _ I hq) λus s1 ⟨xs,H1,I1,r,z,q⟩=>⟨by rw[<-r.length];exact z,?_⟩)
 have hf:H1 s1.heap.objs.size=none:=I1.bY.fresh (cg _)
 refine⟨.ref s1.heap.objs.size,upd H1 s1.heap.objs.size (.tup xs),I1.laid (t':=s1.toks) (λb u e=>eR _ e) (cg _) ?_,rfl,q _ hf⟩
 exact⟨z,us,r,⟨_,gI _ rfl,rfl,_,rfl⟩⟩
theorem EY(h:PA X es t):PE X (.List es pos) (xu t):=by
 intro pins s σ H Q I hq
 refine wpAny_List_spliced (bS (h pos pins s σ H _ I hq) λus s1 ⟨xs,H1,I1,r,z,q⟩=>⟨by rw[<-r.length];exact z,?_⟩)
 have hf:H1 s1.heap.objs.size=none:=I1.bY.fresh (cg _)
 refine⟨.ref s1.heap.objs.size,upd H1 s1.heap.objs.size (.lst xs),I1.laid (t':=s1.toks) (λb u e=>eR _ e) (cg _) ?_,rfl,q _ hf⟩
 exact⟨z,us,0,r,gI _ rfl⟩
end
abbrev Sp:=List V->Hp->VK->XK->Prop
abbrev yu:=List Env->Hp->Shared->XK->Value->Shared->Prop
structure Dg(P:Program)(w:World)(K:PySem.W.Frag)(mg:Str->Option Value)(base:Heap)(A:Around)(outer:List Env)(s:Shared)(H:Hp):Prop where
 frames:A.frames=some outer
 mod:Mod K mg base
 bs:∀b o,base.get? b=some o->s.heap.get? b=some o/\H b=none
 yt:base.objs.size<=s.heap.objs.size
 jT:s.heap.FunFrames base outer
 Af:∀b∈gP outer,H b=none
 bY:lh P w H s.heap
 bare:AllBare s.gens
def CE(outer:List Env)(P:Program)(w:World)(H:Hp)(s:Shared)(Q:VK)(u:Value)(s':Shared):Prop:=
 ∃v H',s'.os=s.os/\AllBare s'.gens/\Un (gP outer) [] H H' s.heap s'.heap/\lh P w H' s'.heap/\RelV v u/\Q v H'
def CR(CX:yu)(outer:List Env)(P:Program)(w:World)(H:Hp)(s:Shared)(Q:VK)(E:XK)(r:Result)(s':Shared):Prop:=
 match r with
 | .ok (.ret u)=>CE outer P w H s Q u s'
 | .ok _=>False
 | .error e=>CX outer H s E e s'
structure dc(P:Program)(w:World)(K:PySem.W.Frag)(mg:Str->Option Value)(base:Heap)(CX:yu)(k:Nat)(f:Addr)(fd:FuncData)(ps:List Str)(sp:Sp):Prop where
 len:∀vs H Q E,sp vs H Q E->vs.length=ps.length
 run:∀(A:Around) (outer:List Env) (s:Shared) (H:Hp) (args:Args) (us:List Value) (vs:List V) (Q:VK) (E:XK),eB k A->Dg P w K mg base A outer s H->BindsTo s fd args (ps.zip us)->Vals vs us->sp vs H Q E->
  codeAny (model P w) A (.call (.ref f) args) (CR CX outer P w H s Q E) s
section
variable {X:Cx}{pins:List (Addr×Obj)}{σ:St}{H:Hp}{s s':Shared}
theorem Inv.Il(I:Inv X pins σ H s):Dg X.prog X.w X.K X.mg X.base X.A X.stack s H:=
 ⟨I.ok.frames,I.ok.mod,I.bs,dD I.ok.yt I.sz,I.stack,I.ku,I.bY,I.bare⟩
theorem Inv.after{Q:VK}{u:Value}(I:Inv X pins σ H s)(h:CE X.stack X.prog X.w H s Q u s'):EP X pins σ Q u s':=by
 obtain⟨v,H',os,bare,un,bY,r,q⟩:=h
 obtain⟨hh,g,d,t,R1⟩:=s'
 obtain rfl:R1=s.os:=os
 exact⟨v,H',I.call (h':=hh) (g':=g) (d':=d) (t':=t) (ch:=[]) un bY bare (λb z=>absurd z (by simp)),r,q⟩
end
def pX(sp:Sp)(zQ:List V)(E:XK)(t:TA):TE:=λσ H Q=>t σ H λvs H1=>sp (vs++zQ) H1 Q E
def Binds(K:PySem.W.Frag)(fd:FuncData)(ps:List Str)(ds:List Value):Prop:=
 ∀(s:Shared) (us:List Value),K.In s.heap->(us++ds).length=ps.length->BindsTo s fd ⟨us,[]⟩ (ps.zip (us++ds))
theorem Binds.all{K:PySem.W.Frag}{fd:FuncData}{ps:List Str}(h:∀us:List Value,us.length=ps.length->bindArgs fd ⟨us,[]⟩=pure (ps.zip us)):Binds K fd ps []:=λs us _ hl=>by
 rw[nE]at hl ⊢
 exact .of_eq (h us hl)
def Passes(CX:yu)(X:Cx)(E:XK):Prop:=∀(pins:List (Addr×Obj)) (σ:St) (H:Hp) (s:Shared) (e:Value) (s':Shared),Inv X pins σ H s->CX X.stack H s E e s'->X.xe e s'
section
variable {X:Cx}{CX:yu}{k:Nat}{f C:Addr}{fd:FuncData}{ps:List Str}{sp:Sp}{zQ:List V}{ds:List Value}{E:XK}{x m:Str}{p pos apos:Pos}{e o:Expr}{es:List Expr}{ta:TE}{t:TA}
theorem Eh{pins:List (Addr×Obj)}{σ:St}{H:Hp}{s:Shared}{Q:VK}{us:List Value}{vs:List V}(F:dc X.prog X.w X.K X.mg X.base CX k f fd ps sp)(hr:eB k X.A)(hb:Binds X.K fd ps ds)(hd:Vals zQ ds)(hx:Passes CX X E)
  (I:Inv X pins σ H s) (r:Vals vs us) (h:sp (vs++zQ) H Q E):wpAny (model X.prog X.w) X.A (call (.ref f) us) (EP X pins σ Q) X.xe s:=by
 have r2:Vals (vs++zQ) (us++ds):=r.append hd
 have hl:(us++ds).length=ps.length:=by rw[<-r2.length];exact F.len _ _ _ _ h
 refine lq (codeAny_mono (F.run X.A X.stack s H ⟨us,[]⟩ (us++ds) (vs++zQ) Q E hr I.Il (hb s us I.mV hl) r2 h) λr s' hq=>?_)
 cases r with
 | error e=>exact hx pins σ H s e s' I hq
 | ok fl=>
  cases fl with
  | ret u=>exact I.after hq
  | next=>exact False.elim hq
  | brk=>exact False.elim hq
  | cont=>exact False.elim hq
theorem ni(F:dc X.prog X.w X.K X.mg X.base CX k f fd ps sp)(hr:eB k X.A)(hg:Gl X x)(hm:X.mg x=some (.ref f))(hk:PySem.W.keepIn X.K (.ref f)=true)(hb:Binds X.K fd ps ds)(hd:Vals zQ ds)(hx:Passes CX X E)
  (ha:PA X (e::es) t) (rq:(x==("__debug__" : Str))=false:=by decide) (he:starEach (e::es) X.env=(false,eval e X.env)::starEach es X.env:=by rfl) (ug:(backTo pos (starEach es X.env)).any (·.1)=false:=by rfl) :
  PE X (.Call (.Name x p) (e::es) [] pos) (pX sp zQ E t):=by
 intro pins s σ H Q I h
 refine rQ (kK I hg hm ?_ rq)
 refine uy (h₀:=X.base) I.ok.mod.Hr hk (bS (ha pos pins s σ H _ I h) λus s1 ⟨vs,H1,I1,r,q⟩=>⟨I1.mV,?_⟩) he ug
 exact Eh F hr hb hd hx I1 r q
end
structure aY(N P:List Str)(sc:Scope):Prop where
 kind:sc.kind=.function
 co:sc.isCoroutine=false
 gen:sc.isGenerator=false
 nd:N.Nodup
 pre:N.take P.length=P
 par:∀x∈P,sc.names.lookup x=some .local\/sc.names.lookup x=some .cell
 Fh:∀y∈sc.names,y.2≠.free
theorem qi{kindOf:Str->Option NameKind}{x:Str}:∀{binds:List (Str×Value)} {m:Str->Option Value},(∀v,(x,v)∉binds)->bindL kindOf binds m x=m x
 | [],_,_=>rfl
 | (n,v)::r,m,h=>by
  unfold bindL
  rw[qi λw hw=>h w (fz _ hw)]
  split
  ·have:x≠n:=by rintro rfl;exact h v fw
   simp[this]
  ·rfl
theorem ql{kindOf:Str->Option NameKind}{x:Str}:∀{binds:List (Str×Value)} {m:Str->Option Value},(∀v,(x,v)∉binds)->bindC kindOf binds m x=m x
 | [],_,_=>rfl
 | (n,v)::r,m,h=>by
  unfold bindC
  rw[ql λw hw=>h w (fz _ hw)]
  split
  ·rfl
  ·have:x≠n:=by rintro rfl;exact h v fw
   simp[this]
theorem qj{kindOf:Str->Option NameKind}{x:Str}{v:Value}:∀{P:List Str} {vs:List Value} {i:Nat} {m:Str->Option Value},P.Nodup->P[i]?=some x->vs[i]?=some v->kindOf x=some .local->
  bindL kindOf (P.zip vs) m x=some v
 | [],_,_,_,_,h,_,_=>by simp at h
 | _::_,[],_,_,_,_,h,_=>by simp at h
 | p::P,w::vs,0,m,nd,h1,h2,hk=>by
  simp at h1 h2;subst h1;subst h2
  show bindL kindOf ((p,w)::P.zip vs) m p=_
  unfold bindL
  rw[qi λv hv=>(qz.mp nd).1 (List.of_mem_zip hv).1,aU hk]
  simp
 | p::P,w::vs,i+1,m,nd,h1,h2,hk=>by
  show bindL kindOf ((p,w)::P.zip vs) m x=_
  unfold bindL
  exact qj (i:=i) (qz.mp nd).2 (by simpa using h1) (by simpa using h2) hk
theorem qm{kindOf:Str->Option NameKind}{x:Str}{v:Value}:∀{P:List Str} {vs:List Value} {i:Nat} {m:Str->Option Value},P.Nodup->P[i]?=some x->vs[i]?=some v->kindOf x≠some .local->
  bindC kindOf (P.zip vs) m x=some v
 | [],_,_,_,_,h,_,_=>by simp at h
 | _::_,[],_,_,_,_,h,_=>by simp at h
 | p::P,w::vs,0,m,nd,h1,h2,hk=>by
  simp at h1 h2;subst h1;subst h2
  show bindC kindOf ((p,w)::P.zip vs) m p=_
  unfold bindC
  rw[ql λv hv=>(qz.mp nd).1 (List.of_mem_zip hv).1,aK hk]
  simp
 | p::P,w::vs,i+1,m,nd,h1,h2,hk=>by
  show bindC kindOf ((p,w)::P.zip vs) m x=_
  unfold bindC
  exact qm (i:=i) (qz.mp nd).2 (by simpa using h1) (by simpa using h2) hk
def start(N:List Str)(vs:List V):St:=vs.map some++List.replicate (N.length-vs.length) none
def gk(CX:yu)(P:Program)(w:World)(K:PySem.W.Frag)(mg:Str->Option Value)(base:Heap)(N:List Str)(qual:Str)(scope:Scope)(f:Addr)(cd:Value)(A:Around)(outer:List Env)(s:Shared)(H:Hp)(E:XK):Cx where
 prog:=P
 w:=w
 K:=K
 mg:=mg
 base:=base
 A:=A.deeper (envOfC qual scope s.heap.objs.size f cd)
 N:=N
 s₀:=s
 H₀:=H
 env:=envOfC qual scope s.heap.objs.size f cd
 outer:=outer
 stack:=envOfC qual scope s.heap.objs.size f cd::outer
 ex:=[]
 calm:=true
 fn:=λ_=>true
 pn:=[]
 xe:=λe s'=>wpAny (model P w) (A.deeper (envOfC qual scope s.heap.objs.size f cd)) (leaving (envOfC qual scope s.heap.objs.size f cd) e) (λ_ uT=>CX outer H s E e uT) (λe' uT=>CX outer H s E e' uT) s'
theorem tV{sc:Scope}{n:Nat}{x:Str}(h:sc.names.lookup x=some .cell):∃c,(cellsFrom n sc.names []).lookup x=some c:=by
 have q:=PySem.W.cellsFrom_some sc.names n [] (.inl h)
 exact Option.isSome_iff_exists.mp q
theorem xX{CX:yu}{P:Program}{w:World}{K:PySem.W.Frag}{mg:Str->Option Value}{base:Heap}{N ps:List Str}{qual:Str}{scope:Scope}{f:Addr}{cd:Value}{A:Around}{outer:List Env}{s s1:Shared}{H:Hp}{E:XK}{us:List Value}{vs:List V}
  (S:aY N ps scope) (hd:A.handled=none) (e0:Dg P w K mg base A outer s H) (hl:vs.length=ps.length) (r:Vals vs us)
  (x:InCallC s s.heap.objs.size (bindL (envOfC qual scope s.heap.objs.size f cd).kindOf (ps.zip us) λ_=>none) (cellsFrom (s.heap.objs.size+1) scope.names []) (bindC (envOfC qual scope s.heap.objs.size f cd).kindOf (ps.zip us) λ_=>none) s1) :
  Inv (gk CX P w K mg base N qual scope f cd A outer s H E) [] (start N vs) H s1:=by
 have ug:ps.length<=N.length:=by have:=cR List.length S.pre;rw[dP]at this;lia
 obtain⟨h1,tk,rfl,hk⟩:=x.done
 have Hl:∀b:Addr,b∉(gk CX P w K mg base N qual scope f cd A outer s H E).ex:=λb z=>absurd (show b∈([]:List Addr) from z) (by simp)
 refine⟨⟨e0.mod,S.kind,rfl,rfl,cg _,λy z c h1 h2=>?_,λy hy=>?_,λy c _ h=>?_,λ_=>hd,Around.frames_deeper e0.frames,.inr ⟨rfl,rfl⟩,λb z=>absurd z (Hl b),e0.bs,e0.yt,λb _ _=>Hl b,λb z=>absurd z (Hl b),e0.jT,e0.Af⟩,
  rfl,e0.bare,Un.kept hk,⟨_,x.toInCall.ns,λi y v h1 h2 h3=>?_⟩,λy c h=>⟨_,x.cell y c h⟩,e0.bY.fresh (cg _),λy c h=>?_,λp hp=>absurd (show p∈([]:List (Addr×Obj)) from hp) (by simp),e0.bY.kept hk,?_⟩
 ·exact name_of_addr x.apart (ik h1) (ik h2)
 ·have hy:scope.names.lookup y=some .cell\/scope.names.lookup y=some .free:=hy
  rcases hy with hy | hy
  ·exact tV hy
  ·exact absurd rfl (S.Fh _ (ik hy))
 ·exact nB (x.above y c (ik h))
 ·have hi:i<vs.length:=by
   unfold start at h2
   by_cases hi:i<vs.length
   ·exact hi
   ·rw[kc (by simpa using hi)]at h2
    rw[List.getElem?_replicate]at h2
    split at h2 <;> cases h2
  have ha:vs[i]?=some v:=by
   unfold start at h2
   rw[mw (by simpa using hi),dR]at h2
   cases e:vs[i]? with
   | none=>rw[e]at h2;cases h2
   | some a=>rw[e]at h2;cases h2;rfl
  obtain⟨u,hu,rv⟩:=r.get ha
  have hp:ps[i]?=some y:=by
   rw[<-S.pre,List.getElem?_take_of_lt (by lia)];exact h1
  have O8:ps.Nodup:=by rw[<-S.pre];exact S.nd.sublist (List.take_sublist _ _)
  refine⟨u,rv,?_⟩
  rcases S.par y (gJ hp) with k | k
  ·exact .inl ⟨k,qj O8 hp hu k⟩
  ·obtain⟨c,e⟩:=tV (n:=s.heap.objs.size+1) k
   refine .inr ⟨.inl k,c,e,?_⟩
   have q:=x.cell y c e
   rw[qm O8 hp hu (by show scope.names.lookup y≠_;rw[k];decide)]at q
   exact q
 ·exact e0.bY.fresh (nB (x.above y c (ik h)))
 ·unfold start
  show _=N.length
  rw[ft,bB,il]
  lia
theorem DG{CX:yu}{P:Program}{w:World}{K:PySem.W.Frag}{mg:Str->Option Value}{base:Heap}{k:Nat}{f:Addr}{name qual:Str}{params:Arguments}{body:List Stmt}{scope:Scope}{dV kV doc pm dh ct oc:Value}{an od:Option Addr}
  {Ab:Array (Option Value)} {N ps:List Str} {sp:Sp} (lk:K.lookup f=some ⟨oc,od,.func (PySem.W.fnOf name qual params body scope dV kV doc pm an dh ct),Ab⟩) (yb:PySem.W.codeIn K dh qual=true) (S:aY N ps scope)
  (len:∀vs H Q E,sp vs H Q E->vs.length=ps.length)
  (kO:∀(A:Around) (outer:List Env) (s:Shared) (H:Hp) (vs:List V) (Q:VK) (E:XK),eB k (A.deeper (envOfC qual scope s.heap.objs.size f dh))->sp vs H Q E->
   ∃t,o4 (gk CX P w K mg base N qual scope f dh A outer s H E) body t/\t { nx:=λ_ H'=>Q .non H',rt:=Q } (start N vs) H) :
  dc P w K mg base CX (k+1) f (PySem.W.fnOf name qual params body scope dV kV doc pm an dh ct) ps sp:=by
 refine⟨len,λA outer s H args us vs Q E hr e0 hb r Ad=>?_⟩
 have hl:=len _ _ _ _ Ad
 have KX:K.In s.heap:=e0.mod.Hr.keeps λb o e=>(e0.bs b o e).1
 have lim:s.heap.NoLimit:=e0.mod.nolimit.keeps λb o e=>(e0.bs b o e).1
 have Hz:∀y∈ps.zip us,scope.names.lookup y.1=some .local\/(scope.names.lookup y.1=some .cell/\((cellsFrom (s.heap.objs.size+1) scope.names []).lookup y.1).isSome=true):=λ⟨n,v⟩ hy=>by
  rcases S.par n (List.of_mem_zip hy).1 with q | q
  ·exact .inl q
  ·exact .inr ⟨q,PySem.W.cellsFrom_some _ _ _ (.inl q)⟩
 refine codeAny_call_function hr.depth (KX _ _ lk) rfl S.co S.gen rfl (PySem.W.codeRec_of KX yb) (hb _ _ _ _ ?_)
 refine wpAny_newFunctionEnv_cells S.kind Hz λenv he s1 x=>?_
 subst he
 refine⟨lim.keeps x.toInCall.keep,codeAny_func ?_⟩
 obtain⟨t,ht,hq⟩:=kO A outer s H vs Q E (hr.deeper _) Ad
 have I:Inv (gk CX P w K mg base N qual scope f dh A outer s H E) [] (start N vs) H s1:=xX S hr.hd e0 hl r x
 refine bW (ht [] s1 (start N vs) H _ I hq) (λfl s' hs=>?_) λe s' hs=>hs
 have fin:∀{σ':St} {H':Hp} {v:V} {u:Value},Inv (gk CX P w K mg base N qual scope f dh A outer s H E) [] σ' H' s'->RelV v u->Q v H'->CE outer P w H s Q u s':=
  λ{σ' H' v u} J rv q=>⟨v,H',J.os,J.bare,J.base,J.bY,rv,q⟩
 cases fl with
 | ret u=>
  obtain⟨v,σ',H',J,rv,q⟩:=hs
  exact fin J rv q
 | next=>
  obtain⟨σ',H',J,q⟩:=hs
  exact fin (v:=V.non) (u:=Value.none) J rfl q
 | brk=>
  obtain⟨_,_,_,q⟩:=hs
  exact False.elim q
 | cont=>
  obtain⟨_,_,_,q⟩:=hs
  exact False.elim q
end L2
namespace L2
open PySem PySem.Spec PyProof.Rows
section
variable {X:Cx}{x:Str}{p pos:Pos}{e:Expr}{es:List Expr}{t:TA}{id T:String}{r:List V->Hp->VK->Prop}
def Dn(r:List V->Hp->VK->Prop)(t:TA):TE:=λσ H Q=>t σ H λvs H1=>r vs H1 Q
theorem iF(hc:cH X (.builtin id) r)(hg:Gl X x)(hm:X.mg x=none)(hv:bootBuiltins x=some (.builtin id))(ha:PA X (e::es) t)(hn:x≠"__name__":=by decide)(rq:(x==("__debug__" : Str))=false:=by decide)
  (he:starEach (e::es) X.env=(false,eval e X.env)::starEach es X.env:=by rfl) (ug:(backTo pos (starEach es X.env)).any (·.1)=false:=by rfl):PE X (.Call (.Name x p) (e::es) [] pos) (Dn r t):=by
 intro pins s σ H Q I h
 refine rQ (oC I hg hm hv ?_ hn rq)
 exact PyProof.Rows.callWith_builtin1 (bS (ha pos pins s σ H _ I h) λus s1 ⟨vs,H1,I1,r1,q1⟩=>hc pins s1 σ H1 vs us Q I1 r1 q1) he ug
theorem gM(hc:cH X (.type T) r)(hg:Gl X x)(hm:X.mg x=none)(hv:bootBuiltins x=some (.type T))(ha:PA X (e::es) t)(hn:x≠"__name__":=by decide)(rq:(x==("__debug__" : Str))=false:=by decide)
  (he:starEach (e::es) X.env=(false,eval e X.env)::starEach es X.env:=by rfl) (ug:(backTo pos (starEach es X.env)).any (·.1)=false:=by rfl):PE X (.Call (.Name x p) (e::es) [] pos) (Dn r t):=by
 intro pins s σ H Q I h
 refine rQ (oC I hg hm hv ?_ hn rq)
 exact yx (bS (ha pos pins s σ H _ I h) λus s1 ⟨vs,H1,I1,r1,q1⟩=>hc pins s1 σ H1 vs us Q I1 r1 q1) he ug
end
end L2
namespace HT
open PySem PyProof.Rows
section
open PySem.SeqAt
open PySem.AutoSeq1 (wpAny_loadPart')
open PySem.MeetsSeq PySem.MeetsSeq2 PySem.MeetsSeq3
end
section
variable {prog:Program}{w:World}{A:Around}{E:Value->Shared->Prop}{s:Shared}
def eG(n d:Nat):Option Int->Nat
 | none=>d
 | some v=>if v<0 then (v+(n:Int)).toNat else min v.toNat n
theorem Ef(n d:Nat)(hd:d<=n)(o:Option Int):eG n d o<=n:=by
 cases o with
 | none=>exact hd
 | some v=>
  show(if v<0 then (v+(n:Int)).toNat else min v.toNat n)<=n
  by_cases hv:v<0
  ·rw[aU hv];lia
  ·rw[aK hv];exact Nat.min_le_right _ _
end
end HT
namespace L2
open PySem PySem.Spec PyProof.Rows
abbrev TO:=St->Hp->(Option Int->Hp->Prop)->Prop
def PO(X:Cx)(e:Option Expr)(t:TO):Prop:=
 ∀(pins:List (Addr×Obj)) (s:Shared) (σ:St) (H:Hp) (Q:Option Int->Hp->Prop),Inv X pins σ H s->t σ H Q->
  wpAny (model X.prog X.w) X.A (evalPart e X.env) (λu s'=>∃o H',Inv X pins σ H' s'/\IsPart u o/\Q o H') X.xe s
def jf:TO:=λ_ H Q=>Q none H
def pT(t:TE):TO:=λσ H Q=>t σ H λx H1=>∃i,x=.int i/\Q (some i) H1
section
variable {X:Cx}{e:Expr}{te:TE}{lo hi:Option Expr}{tl th:TO}{pos p2:Pos}
theorem Bw:PO X none jf:=by
 intro pins s σ H Q I h
 rw[evalPart_none]
 exact cj ⟨none,H,I,.none,h⟩
theorem Bv(h:PE X e te):PO X (some e) (pT te):=by
 intro pins s σ H Q I hw
 rw[evalPart_some]
 refine bS (h pins s σ H _ I hw) λu s1 ⟨x,H1,I1,r1,q1⟩=>?_
 obtain⟨i,rfl,q⟩:=q1
 obtain⟨t,rfl⟩:=r1
 exact⟨some i,H1,I1,.int i t,q⟩
def DN(X:Cx)(r:V->Option Int->Option Int->Hp->VK->Prop):Prop:=
 ∀(pins:List (Addr×Obj)) (s:Shared) (σ:St) (H:Hp) (x:V) (v vl vu:Value) (lo hi:Option Int) (sl:Addr) (Q:VK),Inv X pins σ H s->RelV x v->s.heap.IsSliceOf sl vl vu .none->IsPart vl lo->IsPart vu hi->r x lo hi H Q->
  ∃T id,typeLookup (.type T) "__getitem__" = pure (some (.builtin id))/\s.TypeIs v T/\wpAny (model X.prog X.w) X.A (getItem v (.ref sl)) (EP X pins σ Q) X.xe s
def Gu(r:V->Option Int->Option Int->Hp->VK->Prop)(te:TE)(tl th:TO):TE:=λσ H Q=>te σ H λx H1=>tl σ H1 λl H2=>th σ H2 λu H3=>r x l u H3 Q
theorem zl{r:V->Option Int->Option Int->Hp->VK->Prop}(hr:DN X r)(he:PE X e te)(hl:PO X lo tl)(hu:PO X hi th):PE X (.Subscript e (.Slice lo hi none p2) pos) (Gu r te tl th):=by
 intro pins s σ H Q I h
 refine Subscript_ (bS (he pins s σ H _ I h) λv s1 ⟨x,H1,I1,r1,q1⟩=>?_)
 refine wpAny_Slice (bS (hl pins s1 σ H1 _ I1 q1) λvl s2 ⟨l,H2,I2,pl,q2⟩=>bS (hu pins s2 σ H2 _ I2 q2) λvu s3 ⟨u,H3,I3,pu,q3⟩=>?_)
 rw[evalPart_none]
 refine cj ?_
 have I4:Inv X pins σ H3 { s3 with heap:=s3.heap.push { cls:=.type "slice",data:=.fields #[vl,vu,.none] } }:=I3.kept (t':=s3.toks) λb ob q=>eR _ q
 obtain⟨T,id,hT,ht,hg⟩:=hr pins { s3 with heap:=s3.heap.push { cls:=.type "slice",data:=.fields #[vl,vu,.none] } } σ H3 x v vl vu l u s3.heap.objs.size Q I4 r1 (Heap.IsSliceOf.new ..) pl pu q3
 show wpAny (model X.prog X.w) X.A (subscriptTail e (.Slice lo hi none p2) v (.ref s3.heap.objs.size)) (EP X pins σ Q) X.xe { s3 with heap:=s3.heap.push { cls:=.type "slice",data:=.fields #[vl,vu,.none] } }
 exact tail_any (ops:=[.ref s3.heap.objs.size,v]) ht hT hg (by with_unfolding_all rfl)
def kR(xs:List V)(lo hi:Option Int):List V:=(xs.drop (HT.eG xs.length 0 lo)).take (HT.eG xs.length xs.length hi-HT.eG xs.length 0 lo)
theorem tR(xs:List V)(lo hi:Option Int):(kR xs lo hi).length<=xs.length:=by
 unfold kR
 rw[dP,gH]
 lia
end
end L2
namespace L2
open PySem PySem.Spec PyProof.Rows
def wB(n:Nat)(i:Int):Option Nat:=if 0<=i then (if i<n then some i.toNat else none) else if -(n:Int)<=i then some (i+n).toNat else none
def lZ{α:Type}(xs:List α)(i:Int):Option α:=(wB xs.length i).bind λj=>xs[j]?
theorem wA{n:Nat}{i:Int}{j:Nat}(h:wB n i=some j):seqIndex? i n=some j/\j<n/\-(n:Int)<=i/\i<n:=by
 unfold wB at h
 by_cases h0:0<=i
 ·rw[aU h0]at h
  by_cases h1:i<n
  ·rw[aU h1]at h
   have e:i.toNat=j:=dU h
   exact⟨by rw[seqIndex_of h0 h1,e],by lia,by lia,h1⟩
  ·rw[aK h1]at h;cases h
 ·rw[aK h0]at h
  by_cases h1 : -(n:Int)<=i
  ·rw[aU h1]at h
   have e:(i+n).toNat=j:=dU h
   exact⟨by rw[seqIndex_neg (by lia) h1,e],by lia,h1,by lia⟩
  ·rw[aK h1]at h;cases h
theorem ny{α:Type}{xs:List α}{i:Int}{v:α}(h:lZ xs i=some v):∃j,seqIndex? i xs.length=some j/\xs[j]?=some v/\j<xs.length/\-(xs.length:Int)<=i/\i<xs.length:=by
 unfold lZ at h
 cases e:wB xs.length i with
 | none=>rw[e]at h;cases h
 | some j=>
  rw[e]at h
  obtain⟨h1,h2,h3,h4⟩:=wA e
  exact⟨j,h1,h,h2,h3,h4⟩
theorem cB{α:Type}{xs:List α}{j:Nat}{v:α}(h:xs[j]?=some v):lZ xs (j:Int)=some v:=by
 have hj:j<xs.length:=(fK.mp h).1
 have e:wB xs.length (j:Int)=some j:=by
  unfold wB
  rw[aU (by lia),aU (by lia)];simp
 unfold lZ;rw[e];exact h
def w8(b:Expr):Prop:=∀o i,subscripted b false o i=operate [o,i] (getItem o i)
def z7(X:Cx)(r:R2):Prop:=
 ∀(value slice:Expr) (pins:List (Addr×Obj)) (s:Shared) (σ:St) (H:Hp) (x y:V) (v u:Value) (Q:VK),Inv X pins σ H s->RelV x v->RelV y u->r x y H Q->
  subscripted slice false v u=operate [v,u] (getItem v u)->wpAny (model X.prog X.w) X.A (subscriptTail value slice v u) (EP X pins σ Q) X.xe s
def DP(X:Cx)(id:String)(r:V->List V->Hp->VK->Prop):Prop:=
 ∀(pins:List (Addr×Obj)) (s:Shared) (σ:St) (H:Hp) (x:V) (xs:List V) (v:Value) (us:List Value) (Q:VK),Inv X pins σ H s->RelV x v->Vals xs us->r x xs H Q->
  wpAny (model X.prog X.w) X.A (call (.builtin id) (v::us)) (EP X pins σ Q) X.xe s
section
variable {X:Cx}{a b:Expr}{ta tb:TE}{pos:Pos}
theorem Hg{r:R2}(hr:z7 X r)(ha:PE X a ta)(hb:PE X b tb)(hs:w8 b):PE X (.Subscript a b pos) (yo r ta tb):=by
 intro pins s σ H Q I h
 exact Subscript_ (Gi ha hb I h λv u s2 x y H2 I2 rx ry q=>hr a b pins s2 σ H2 x y v u Q I2 rx ry q (hs _ _))
def Ku(K:PySem.W.Frag):R2:=λx y H Q=>∃p xs i v,x=.ref p/\y=.int i/\mh K H p xs/\lZ xs i=some v/\Q v H
def Ks(K:PySem.W.Frag):R2:=λx y H Q=>∃p xs i v,x=.ref p/\y=.int i/\oY K H p xs/\lZ xs i=some v/\Q v H
def Kt:R2:=λx y H Q=>∃z i c,x=.str z/\y=.int i/\z.length<=sizeLine/\lZ z.cps.toList i=some c/\Q (.str ⟨#[c]⟩) H
theorem Cp:z7 X (Ku X.K):=by
 intro value slice pins s σ H x y v u Q I rx ry h hs
 obtain⟨p,xs,i,z,rfl,rfl,hq,he,q⟩:=h
 cases rx
 obtain⟨t,rfl⟩:=ry
 obtain⟨its,r,pl,hz⟩:=I.list hq
 obtain⟨j,h1,h2,h3,h4,h5⟩:=ny he
 obtain⟨w,ew,G6⟩:=r.get h2
 have hl:=r.length
 have hn:=jS
 have fin:EP X pins σ Q w s:=⟨z,H,I,G6,q⟩
 by_cases h0:0<=i
 ·have hj:i.toNat=j:=by
   rw[seqIndex_of h0 h5]at h1
   exact dU h1
  exact item_listR pl.isList h0 (by lia) (by rw[hj];simpa using ew) fin hs
 ·have hj:(i+(its.toArray.size:Int)).toNat=j:=by
   rw[seqIndex_neg (by lia) h4]at h1
   rw[cU,<-hl]
   exact dU h1
  exact subscriptTail_builtinR (x:=w) pl.isList.typeIs slot_list_getitem.lookup
   (wpAny_getItem_list_neg (Q:=λr s'=>r=w/\EP X pins σ Q r s') pl.isList (by lia) (by rw[cU] <;> lia) (by lia) (by rw[hj];simpa using ew) ⟨rfl,fin⟩) hs
theorem Ft:z7 X (Ks X.K):=by
 intro value slice pins s σ H x y v u Q I rx ry h hs
 obtain⟨p,xs,i,z,rfl,rfl,hq,he,q⟩:=h
 cases rx
 obtain⟨t,rfl⟩:=ry
 obtain⟨its,r,pl,hz⟩:=I.tuple hq
 obtain⟨j,h1,h2,h3,h4,h5⟩:=ny he
 obtain⟨w,ew,G6⟩:=r.get h2
 have hl:=r.length
 have hn:=jS
 have fin:EP X pins σ Q w s:=⟨z,H,I,G6,q⟩
 exact subscriptTail_builtinR (x:=w) pl.typeIs slot_tuple_getitem.lookup
  (getItem_tuple (j:=j) (Q:=λr s'=>r=w/\EP X pins σ Q r s') pl (by lia) (by lia) (by rw[cU,<-hl];exact h1) (by simpa using ew) ⟨rfl,fin⟩) hs
theorem Fu:z7 X Kt:=by
 intro value slice pins s σ H x y v u Q I rx ry h hs
 obtain⟨z,i,c,rfl,rfl,hz,he,q⟩:=h
 obtain⟨t,rfl⟩:=rx
 obtain⟨t',rfl⟩:=ry
 obtain⟨j,h1,h2,h3,h4,h5⟩:=ny he
 have hl:z.cps.toList.length=z.length:=by simp[Str.length]
 rw[hl]at h1 h4 h5
 have hn:=jS
 exact tail_any (lj s z t) slot_str_getitem.lookup (getItem_str (c:=c) (by
  have e1:decide (i < -(2 ^ 63:Int))=false:=decide_eq_false (by lia)
  have e2:decide (i>=2 ^ 63)=false:=decide_eq_false (by lia)
  rw[e1,e2,Bool.or_false]) (by rw[h1];simpa using h2) ⟨.str ⟨#[c]⟩,H,I.tok _,⟨_,rfl⟩,q⟩) hs
theorem uZ(its:List Value)(n j:Nat)(u:Value):Obj.mapSeq (·.setIfInBounds j u) { cls:=.type "list",data:=.seq its.toArray n }={ cls:=.type "list",data:=.seq (its.set j u).toArray n }:=by
 simp[Obj.mapSeq]
theorem Inv.lst{pins:List (Addr×Obj)}{σ:St}{H:Hp}{s:Shared}{p:Addr}{xs:List V}(I:Inv X pins σ H s)(h:H p=some (.lst xs)) :
  ∃(its:List Value) (n:Nat),Vals xs its/\s.heap.get? p=some { cls:=.type "list",data:=.seq its.toArray n }/\xs.length<=sizeLine:=by
 obtain⟨z,its,n,r,e⟩:=I.bY p _ h
 exact⟨its,n,r,e,z⟩
theorem Inv.Fl{pins:List (Addr×Obj)}{σ:St}{H:Hp}{s:Shared}{p:Addr}{xs ys:List V}{its its':List Value}{n n':Nat}{f:Obj->Obj}(I:Inv X pins σ H s)(h:H p=some (.lst xs))
  (ho:s.heap.get? p=some { cls:=.type "list",data:=.seq its.toArray n }) (hf:f { cls:=.type "list",data:=.seq its.toArray n }={ cls:=.type "list",data:=.seq its'.toArray n' }) (r:Vals ys its') (hz:ys.length<=sizeLine) (t:Nat) :
  Inv X pins σ (upd H p (.lst ys)) { s with heap:=s.heap.update p f,toks:=t }:=by
 have e:(s.heap.update p f).get? p=some { cls:=.type "list",data:=.seq its'.toArray n' }:=by
  rw[pD f ho (by rw[hf] <;> rfl),hf]
 refine I.write (x:=p) (e:=p) (by rw[h];trivial) (.inl rfl) (λb u hb q=>(kb _ _ (ic hb)).trans q) ⟨_,e⟩ ?_
 exact⟨hz,its',n',r,e⟩
def G7:V->V->V->Hp->(Hp->Prop)->Prop:=λo i v H Q=>∃p xs k j,o=.ref p/\i=.int k/\H p=some (.lst xs)/\wB xs.length k=some j/\Q (upd H p (.lst (xs.set j v)))
theorem set_list:ym X G7:=by
 intro pins s σ H o i v ov iv u Q I ro ri rv h
 obtain⟨p,xs,k,j,rfl,rfl,hp,hj,q⟩:=h
 cases ro
 obtain⟨t,rfl⟩:=ri
 obtain⟨its,n,r,ho,hz⟩:=I.lst hp
 obtain⟨h1,h2,h3,h4⟩:=wA hj
 have hl:=r.length
 have hn:=jS
 have I':Inv X pins σ (upd H p (.lst (xs.set j v))) { s with heap:=s.heap.update p (Obj.mapSeq (·.setIfInBounds j u)) }:=
  I.Fl hp ho (uZ its n j u) (r.set rv j) (by rw[qy];exact hz) s.toks
 by_cases h0:0<=k
 ·have hk:k.toNat=j:=by
   rw[seqIndex_of h0 h4]at h1
   exact dU h1
  exact PySem.W.ki_setAt ho h0 (by lia) (by rw[cU,<-hl];exact h4) (by rw[hk];exact⟨_,I',q⟩)
 ·have hk:(k+(its.toArray.size:Int)).toNat=j:=by
   rw[seqIndex_neg (by lia) h3]at h1
   rw[cU,<-hl]
   exact dU h1
  exact PySem.W.ki_setBack ho (by lia) (by rw[cU,<-hl];exact h3) (by lia) (by rw[hk];exact⟨_,I',q⟩)
theorem kx(lo hi:Option Int)(n:Nat):(sliceBounds lo hi none n).1=((HT.eG n 0 lo:Nat):Int)/\(sliceBounds lo hi none n).2.1=((HT.eG n n hi:Nat):Int)/\(sliceBounds lo hi none n).2.2=1:=by
 refine⟨?_,?_,rfl⟩
 ·cases lo with
  | none=>simp[sliceBounds,HT.eG]
  | some i=>
   simp only[sliceBounds,HT.eG,Option.getD_none,show(1:Int) > 0 by decide,if_true]
   by_cases h:i<0
   ·simp only[h,if_true] <;> lia
   ·simp only[h,if_false] <;> lia
 ·cases hi with
  | none=>simp[sliceBounds,HT.eG]
  | some i=>
   simp only[sliceBounds,HT.eG,Option.getD_none,show(1:Int) > 0 by decide,if_true]
   by_cases h:i<0
   ·simp only[h,if_true] <;> lia
   ·simp only[h,if_false] <;> lia
theorem o5(its:List Value)(lo hi:Option Int):slicePick its.toArray lo hi none=((its.drop (HT.eG its.length 0 lo)).take (HT.eG its.length its.length hi-HT.eG its.length 0 lo)).toArray:=by
 obtain⟨h1,h2,h3⟩:=kx lo hi its.toArray.size
 unfold slicePick
 rw[h1,h2,h3]
 simp only[sliceRange_one,pick_run,cU] <;> rfl
def Kr(K:PySem.W.Frag):V->Option Int->Option Int->Hp->VK->Prop:=λx lo hi H Q=>∃a xs,x=.ref a/\mh K H a xs/\∀p,H p=none->Q (.ref p) (upd H p (.lst (kR xs lo hi)))
theorem vU:DN X (Kr X.K):=by
 intro pins s σ H x v vl vu lo hi sl Q I rx hs pl pu h
 obtain⟨a,xs,rfl,hx,q⟩:=h
 cases rx
 obtain⟨its,r,ht,hz⟩:=I.list hx
 have hlen:=r.length
 refine⟨"list",_,slot_list_getitem.lookup,ht.isList.typeIs,?_⟩
 refine wpAny_getItem_list_slice ht.isList hs pl pu .none (by simp) ?_ (by rw[cU] <;> lia)
 rw[o5,<-hlen]
 refine⟨.ref s.heap.objs.size,_,I.laid (t':=s.toks) (o:=.lst (kR xs lo hi)) (λb ob q=>eR _ q) (cg _) ?_,rfl,q _ (I.bY.fresh (cg _))⟩
 exact⟨dD (tR xs lo hi) hz,_,0,(r.drop (HT.eG xs.length 0 lo)).take (HT.eG xs.length xs.length hi-HT.eG xs.length 0 lo),gI _ rfl⟩
def kQ:V->Bool
 | .non=>true
 | .bl _=>true
 | .int _=>true
 | .str _=>true
 | _=>false
def JQ:V->V->Bool
 | .non,.non=>true
 | .bl a,.bl b=>a==b
 | .bl a,.int b=>(if a then 1 else 0)==b
 | .int a,.bl b=>a==(if b then 1 else 0)
 | .int a,.int b=>a==b
 | .str a,.str b=>a==b
 | _,_=>false
theorem Gf{A:Around}{s:Shared}{y x:V}{u v:Value}(ry:RelV y u)(rx:RelV x v)(fy:kQ y=true)(fx:kQ x=true):SeqAt.EqAt A s u v (JQ y x):=by
 cases y with
 | non=>
  cases ry
  cases x with
  | non=>cases rx;exact SeqAt.EqAt.same _
  | bl b=>cases rx;exact SeqAt.EqAt.none_bool b
  | int b=>obtain⟨t,rfl⟩:=rx;exact SeqAt.EqAt.none_int b t
  | str b=>obtain⟨t,rfl⟩:=rx;exact SeqAt.EqAt.none_str b t
  | _=>exact absurd (show false=true from fx) dn
 | bl a=>
  cases ry
  cases x with
  | non=>cases rx;exact SeqAt.EqAt.bool_none a
  | bl b=>cases rx;exact SeqAt.EqAt.bool_bool a b
  | int b=>obtain⟨t,rfl⟩:=rx;exact SeqAt.EqAt.bool_int a b t
  | str b=>obtain⟨t,rfl⟩:=rx;exact SeqAt.EqAt.bool_str a b t
  | _=>exact absurd (show false=true from fx) dn
 | int a=>
  obtain⟨t',rfl⟩:=ry
  cases x with
  | non=>cases rx;exact SeqAt.EqAt.int_none a t'
  | bl b=>cases rx;exact SeqAt.EqAt.int_bool a t' b
  | int b=>obtain⟨t,rfl⟩:=rx;exact SeqAt.EqAt.int_int a t' b t
  | str b=>obtain⟨t,rfl⟩:=rx;exact SeqAt.EqAt.int_str a t' b t
  | _=>exact absurd (show false=true from fx) dn
 | str a=>
  obtain⟨t',rfl⟩:=ry
  cases x with
  | non=>cases rx;exact SeqAt.EqAt.str_none a t'
  | bl b=>cases rx;exact SeqAt.EqAt.str_bool a t' b
  | int b=>obtain⟨t,rfl⟩:=rx;exact SeqAt.EqAt.str_int a t' b t
  | str b=>obtain⟨t,rfl⟩:=rx;exact SeqAt.EqAt.str_str a t' b t
  | _=>exact absurd (show false=true from fx) dn
 | _=>exact absurd (show false=true from fy) dn
def Jw(x:V)(xs:List V):Bool:=xs.any λy=>JQ y x
theorem kW:cH X (.builtin "len") (λxs H Q=>∃p ys,xs=[.ref p]/\(mh X.K H p ys\/oY X.K H p ys)/\Q (.int ys.length) H):=by
 intro pins s σ H xs us Q I r h
 obtain⟨p,ys,rfl,hq,q⟩:=h
 obtain⟨u,rfl,rx⟩:=vals1 r
 cases rx
 have hn:=jS
 rcases hq with hq | hq
 ·obtain⟨its,r',pl,hz⟩:=I.list hq
  have hlen:=r'.length
  exact Calls.call_len_list pl.isList (by simp only[cU] <;> lia) ⟨.int ys.length,H,I.tok _,⟨s.toks+1,by rw[cU,hlen]⟩,q⟩
 ·obtain⟨its,r',pl,hz⟩:=I.tuple hq
  have hlen:=r'.length
  exact len_tuple pl (by simp only[cU] <;> lia) ⟨.int ys.length,H,I.tok _,⟨s.toks+1,by rw[cU,hlen]⟩,q⟩
theorem fj:cH X (.builtin "len") (λxs H Q=>∃z,xs=[.str z]/\z.length<=sizeLine/\Q (.int z.length) H):=by
 intro pins s σ H xs us Q I r h
 obtain⟨z,rfl,hz,q⟩:=h
 obtain⟨u,rfl,t,rfl⟩:=vals1 r
 have hn:=jS
 exact len_str (by lia) ⟨.int z.length,H,I.tok _,⟨_,rfl⟩,q⟩
theorem rG:cH X (.type "list") (λxs H Q=>∃p ys,xs=[.ref p]/\(mh X.K H p ys\/oY X.K H p ys)/\∀l,H l=none->Q (.ref l) (upd H l (.lst ys))):=by
 intro pins s σ H xs us Q I r h
 obtain⟨p,ys,rfl,hq,q⟩:=h
 obtain⟨u,rfl,rx⟩:=vals1 r
 cases rx
 have fin:∀(its:List Value),Vals ys its->ys.length<=sizeLine->∀(h':Heap) (c':Nat),(∀b o',s.heap.get? b=some o'->h'.get? b=some o')->
   h'.get? s.heap.objs.size=some { cls:=.type "list",dict:=none,data:=.seq its.toArray c',slots:=#[] }->EP X pins σ Q (.ref s.heap.objs.size) { s with heap:=h' }:=λits r' hz h' c' kp e=>
  ⟨.ref s.heap.objs.size,_,I.laid (t':=s.toks) kp (cg _) (show cZ X.prog X.w _ h' _ (.lst ys) from ⟨hz,its,c',r',e⟩),rfl,q _ (I.bY.fresh (cg _))⟩
 rcases hq with hq | hq
 ·obtain⟨its,r',pl,hz⟩:=I.list hq
  have hlen:=r'.length
  obtain⟨o,ho,hc,n,hd⟩:=pl.isList
  exact call_list_seq p (.inl rfl) ho hc hd (λh' c' kp e=>fin its r' hz h' c' kp e) (by simp only[cU] <;> lia)
 ·obtain⟨its,r',pl,hz⟩:=I.tuple hq
  have hlen:=r'.length
  obtain⟨o,ho,hc,n,hd⟩:=pl
  exact call_list_seq p (.inr rfl) ho hc hd (λh' c' kp e=>fin its r' hz h' c' kp e) (by simp only[cU] <;> lia)
theorem pd:cH X (.type "tuple") (λxs H Q=>∃p ys,xs=[.ref p]/\((mh X.K H p ys/\∀l,H l=none->Q (.ref l) (upd H l (.tup ys)))\/(oY X.K H p ys/\Q (.ref p) H))):=by
 intro pins s σ H xs us Q I r h
 obtain⟨p,ys,rfl,h⟩:=h
 obtain⟨u,rfl,rx⟩:=vals1 r
 cases rx
 rcases h with ⟨hq,q⟩ | ⟨hq,q⟩
 ·obtain⟨its,r',pl,hz⟩:=I.list hq
  have hlen:=r'.length
  refine call_tuple_list pl.isList (λh' kp=>?_) (by simp only[cU] <;> lia)
  have I1:Inv X pins σ H { s with heap:=h' }:=I.kept (t':=s.toks) kp
  have I2:Inv X pins σ (upd H h'.objs.size (.tup ys)) { s with heap:=h'.push { cls:=.type "tuple",data:=.seq its.toArray } }:=
   I1.laid (t':=s.toks) (λb o e=>eR _ e) (cg _) (show cZ X.prog X.w _ _ _ (.tup ys) from ⟨hz,its,r',IsTup.new _ _⟩)
  exact⟨.ref h'.objs.size,_,I2,rfl,q _ (I1.bY.fresh (cg _))⟩
 ·obtain⟨its,r',pl,hz⟩:=I.tuple hq
  exact call_tuple_same pl ⟨.ref p,H,I,rfl,q⟩
def Ji(K:PySem.W.Frag)(T:String)(x:V)(H:Hp):Prop:=match x with
 | .str _=>T = "str"
 | .int _=>T = "int"
 | .ref p=>(T = "list"/\∃xs,mh K H p xs)\/(T = "tuple"/\∃o,K.lookup p=some o/\o.cls=.type "tuple"/\o.dict=none)\/
   (T = "dict"/\((∃eM,H p=some (.dK eM))\/∃eM,H p=some (.dT eM)))\/(T = "set"/\∃S n,H p=some (.set S n))
 | _=>False
theorem DX{pins:List (Addr×Obj)}{σ:St}{H:Hp}{s:Shared}{T:String}{x:V}{v:Value}(I:Inv X pins σ H s)(r:RelV x v)(ty:Ji X.K T x H) :
  s.TypeIs v T/\∀a,v=.ref a->∃ob,s.heap.get? a=some ob/\ob.dict=none:=by
 cases x with
 | str z=>
  obtain⟨t,rfl⟩:=r
  cases (show T = "str" from ty)
  exact⟨lj s z t,λ_ e=>nomatch e⟩
 | int i=>
  obtain⟨t,rfl⟩:=r
  cases (show T = "int" from ty)
  exact⟨typeIs_int s i t,λ_ e=>nomatch e⟩
 | ref p=>
  cases r
  rcases ty with ⟨rfl,xs,hq⟩ | ⟨rfl,o,hk,hc,hd⟩ | ⟨rfl,hk⟩ | ⟨rfl,S,n,hk⟩
  ·obtain⟨its,_,pl,_⟩:=I.list hq
   refine⟨pl.isList.typeIs,λa e=>?_⟩
   cases e
   obtain⟨o,n,e,c,hd,_⟩:=pl
   exact⟨o,e,hd⟩
  ·refine⟨⟨o,I.mV p o hk,hc⟩,λa e=>?_⟩
   cases e
   exact⟨o,I.mV _ o hk,hd⟩
  ·have z:∃o,s.heap.get? p=some o/\o.ExactDict:=by
    rcases hk with ⟨eM,hk⟩ | ⟨eM,hk⟩
    ·obtain⟨_,_,_,_,o,_,_,e,ex,_⟩:=I.bY p _ hk
     exact⟨o,e,ex⟩
    ·obtain⟨_,_,_,_,o,_,_,e,ex,_⟩:=I.bY p _ hk
     exact⟨o,e,ex⟩
   obtain⟨o,e,ex⟩:=z
   refine⟨⟨o,e,ex.1⟩,λa e2=>?_⟩
   cases e2
   exact⟨o,e,ex.2.1⟩
  ·obtain⟨o,_,_,_,e,ex,_⟩:=I.bY p _ hk
   refine⟨⟨o,e,ex.1⟩,λa e2=>?_⟩
   cases e2
   exact⟨o,e,ex.2.1⟩
 | _=>exact False.elim ty
def Ap(K:PySem.W.Frag)(T:String)(r:V->List V->Hp->VK->Prop)(to:TE):TE:=λσ H Q=>to σ H λx H1=>Ji K T x H1/\r x [] H1 Q
def Gw(K:PySem.W.Frag)(T:String)(r:V->List V->Hp->VK->Prop)(to:TE)(t:TA):TE:=λσ H Q=>to σ H λx H1=>Ji K T x H1/\t σ H1 λxs H2=>r x xs H2 Q
variable {o e:Expr}{es:List Expr}{to:TE}{t:TA}{name:Str}{apos gp:Pos}{T id:String}{r:V->List V->Hp->VK->Prop}
theorem qa(pa:PlainAttrs T)(slot:Slot T name id)(hty:typeOf (.builtin id)=pure (.type "method_descriptor"))(hm:DP X id r)(ho:PE X o to)(ha:PA X (e::es) t)
  (HR:attributeBase o name X.env (eval o X.env)=eval o X.env:=by rfl)
  (Mw:((backTo gp (starEach (e::es) X.env)).all (λx=>!x.1)&&(backToKw gp (keywordEach [] X.env)).all (λx=>x.1.isSome)
   && decide ((e::es).length+([]:List Keyword).length+(if ([]:List Keyword).isEmpty then 0 else 1)<30))=true:=by rfl)
  (hline:(apos.endLine==gp.line)=true:=by rfl) (hs:starEach (e::es) X.env=(false,eval e X.env)::starEach es X.env:=by rfl) (Fx:(backTo gp (starEach es X.env)).any (·.1)=false:=by rfl) :
  PE X (.Call (.Attribute o name apos) (e::es) [] gp) (Gw X.K T r to t):=by
 intro pins s σ H Q I h
 refine wpAny_Call_method_late HR Mw hline rfl (bS (ho pins s σ H _ I h) λv s1 ⟨x,H1,I1,r1,ty,q1⟩=>?_)
 obtain⟨h1,h2⟩:=DX I1 r1 ty
 refine⟨T,id,pa,slot,hty,h1,h2,?_⟩
 have hA:=ha gp pins s1 σ H1 _ I1 q1
 rw[hs]at hA ⊢
 refine Calls.callWith_builtin (by show(false||(backTo gp (starEach es X.env)).any (·.1))=false;rw[Fx] <;> rfl) (Calls.evalArgs_plain ?_)
 exact bS hA λus s2 ⟨vs,H2,I2,r2,q2⟩=>hm pins s2 σ H2 x vs v us Q I2 r1 r2 q2
end
end L2
namespace L2
open PySem PySem.Spec PyProof.Rows
def Rf(X:Cx)(id:String)(r:V->List V->Hp->VK->Prop):Prop:=
 ∀(pins:List (Addr×Obj)) (s:Shared) (σ:St) (H:Hp) (x:V) (xs:List V) (v:Value) (us:List Value) (Q:VK),Inv X pins σ H s->RelV x v->Vals xs us->r x xs H Q->
  wpAny (model X.prog X.w) X.A (call (.builtin id) (v::us)) (EP X pins σ Q) X.xe s
theorem Vals.one:∀{x:V} {us:List Value},Vals [x] us->∃u,us=[u]/\RelV x u
 | _,_,.cons r .nil=>⟨_,rfl,r⟩
theorem Vals.two:∀{x y:V} {us:List Value},Vals [x,y] us->∃u v,us=[u,v]/\RelV x u/\RelV y v
 | _,_,_,.cons r (.cons q .nil)=>⟨_,_,rfl,r,q⟩
section
variable {X:Cx}{pins:List (Addr×Obj)}{σ:St}{H:Hp}{s:Shared}{l b:Addr}{xs ys zs:List V}
theorem Inv.Hq{its its':List Value}{n:Nat}{f:Array Value->Array Value}{t':Nat}(I:Inv X pins σ H s)(hH:H l=some (.lst xs))
  (e:s.heap.get? l=some { cls:=.type "list",data:=.seq its.toArray n }) (hf:f its.toArray=its'.toArray) (hv:Vals ys its') (hz:ys.length<=sizeLine) :
  Inv X pins σ (upd H l (.lst ys)) { s with heap:=s.heap.update l (Obj.mapSeq f),toks:=t' }:=by
 have q:=PySem.IsL.update e f
 rw[hf]at q
 refine I.write (x:=l) (e:=l) (by rw[hH];exact trivial) (.inl rfl) (λb' u hb hu=>(kb s.heap (Obj.mapSeq f) (ic hb)).trans hu) ⟨_,q⟩ ?_
 exact⟨hz,its',_,hv,q⟩
theorem Inv.Lp{its:List Value}{t':Nat}(I:Inv X pins σ H s)(hv:Vals ys its)(hz:ys.length<=sizeLine) :
  Inv X pins σ (upd H s.heap.objs.size (.lst ys)) { s with heap:=s.heap.push { cls:=.type "list",data:=.seq its.toArray },toks:=t' }:=
 I.laid (λ_ _ q=>eR _ q) (cg _) ⟨hz,its,0,hv,gI _ rfl⟩
theorem Inv.fresh(I:Inv X pins σ H s):H s.heap.objs.size=none:=I.bY.fresh (cg _)
theorem Inv.Cj(I:Inv X pins σ H s)(hH:H l=some (.lst xs)):xs.length<=sizeLine/\∃(its:List Value) (n:Nat),Vals xs its/\xs.length=its.length/\s.heap.get? l=some { cls:=.type "list",data:=.seq its.toArray n }:=by
 obtain⟨z,its,n,r,e⟩:=I.bY l _ hH
 exact⟨z,its,n,r,r.length,e⟩
end
section
variable {X:Cx}
def kA:V->List V->Hp->VK->Prop:=λx vs H Q=>∃l xs y,x=.ref l/\vs=[y]/\H l=some (.lst xs)/\xs.length<sizeLine/\Q .non (upd H l (.lst (xs++[y])))
theorem ji:Rf X "list.append" kA:=by
 intro pins s σ H x vs v us Q I rx rv h
 obtain⟨l,xs,y,rfl,rfl,hH,hz,q⟩:=h
 cases rx
 obtain⟨u,rfl,ru⟩:=rv.one
 obtain⟨z,its,n,r,hl,e⟩:=I.Cj hH
 refine call_meets F.slot_list_append ⟨_,e,rfl⟩ F.entry_list_append (F.args_list_append_2 _ _) (PySem.list_append l its.toArray n u (by rw[cU];lia)) ⟨e,?_⟩
 refine⟨.non,_,I.Hq (its':=its++[u]) hH e (by simp) (r.append (.cons ru .nil)) ?_,rfl,q⟩
 rw[ft,rR]
 lia
def ng:V->List V->Hp->VK->Prop:=λx vs H Q=>∃l b xs zs,x=.ref l/\vs=[.ref b]/\H l=some (.lst xs)/\H b=some (.lst zs)/\xs.length+zs.length<=sizeLine/\Q .non (upd H l (.lst (xs++zs)))
def yW:R2:=λx y H Q=>∃l b xs zs,x=.ref l/\y=.ref b/\H l=some (.lst xs)/\H b=some (.lst zs)/\xs.length+zs.length<=sizeLine/\∀p,H p=none->Q (.ref p) (upd H p (.lst (xs++zs)))
theorem lO:ib X (binaryOp .Add) yW:=by
 intro pins s σ H x y v u Q I rx ry h
 obtain⟨l,b,xs,zs,rfl,rfl,hH,hB,hz,q⟩:=h
 cases rx
 cases ry
 obtain⟨z,its,n,r,hl,e⟩:=I.Cj hH
 obtain⟨z2,Hu,n2,r2,Gz,e2⟩:=I.Cj hB
 refine PySem.P.add_list e e2 ?_ (by rw[cU,cU];lia)
 have ea:its.toArray++Hu.toArray=(its++Hu).toArray:=by simp
 rw[ea]
 exact⟨.ref _,_,I.Lp (t':=s.toks) (r.append r2) (by rw[ft];lia),rfl,q _ I.fresh⟩
end
section
variable {prog:Program}{w:World}{A:Around}{E:Value->Shared->Prop}{s:Shared}
end
end L2
namespace L2
open PySem PySem.Spec PyProof.Rows
section
variable {κ:Type} [DecidableEq κ]
def GR(eM:List (κ×V))(k:κ):Option V:=(eM.find? λkv=>decide (kv.1=k)).map (·.2)
def putK(eM:List (κ×V))(k:κ)(v:V):List (κ×V):=
 if (eM.any λkv=>decide (kv.1=k))=true then eM.map (λkv=>if kv.1=k then (kv.1,v) else kv) else eM++[(k,v)]
end
def Ov(H:Hp)(a:Addr)(y:V)(r:Option V):Prop:=
 (∃eM k,Rd H a (.dK eM)/\y=kV k/\r=GR eM k)\/∃eM k b,Rd H a (.dT eM)/\y=.ref b/\H b=some (.tup (k.map kV))/\r=GR eM k
section
variable {X:Cx}{pins:List (Addr×Obj)}{σ:St}{H:Hp}{s:Shared}{a:Addr}{y v:V}{u r:Value}{o:Option V}{A:Around}{E:Value->Shared->Prop}
theorem Inv.big(I:Inv X pins σ H s):sysModules<s.heap.objs.size:=by
 have h:mainGlobals<s.heap.objs.size:=(I.mod.glob.keeps I.bk).lt
 exact j9 (by decide) h
end
def nc(ty td:TE):TE:=λσ H Q=>ty σ H λy H1=>td σ H1 λx H2=>∃a o,x=.ref a/\Ov H2 a y o/\Q (.bl (!o.isSome)) H2
theorem zR{P:Program}{w:World}{H:Hp}(h:Heap)(hb:sysModules<h.objs.size):cZ P w H (h.push { cls:=.type "dict",data:=.dict #[] }) h.objs.size (.dK []):=
 ⟨jn _,beq_eq_false_iff_ne.mpr (ic (dk hb)),[],.nil,Heap.DictOf.new h⟩
def lE:TE:=λ_ H Q=>∀p,H p=none->Q (.ref p) (upd H p (.dK []))
section
variable {X:Cx}{pos:Pos}
theorem zm:PE X (.Dict [] [] pos) lE:=λpins s σ H Q I h=>
 wpAny_Dict_empty ⟨.ref s.heap.objs.size,_,I.laid (a:=s.heap.objs.size) (o:=.dK []) (t':=s.toks) (λ_ _ q=>eR _ q) (cg _) (zR s.heap I.big),rfl,h _ (I.bY.fresh (cg _))⟩
end
def Fj(eM more:List (Key×V)):List (Key×V):=more.foldl (λacc kv=>putK acc kv.1 kv.2) eM
end L2
namespace Rh
open PySem PySem.W PySem.Calls PyProof.Rows
theorem mW{P:Params}{h:Heap}:∀(ns:List Int) (vs:List Value),WellAll P h vs (ns.map WData.int)->IntsAre vs ns:=by
 intro ns
 induction ns with
 | nil=>
  intro vs w
  rw[List.map_nil]at w
  cases w
  exact .nil
 | cons n ns ih=>
  intro vs w
  rw[gE]at w
  cases w with
  | cons a b=>
   cases a
   exact .cons _ _ (ih _ b)
theorem xH{l:OpenLaw}{n:Nat}(hn:l.most=some n){P:Params}{h:Heap}{args:List WData}{vals:List Value}
  (Cy:l.row.toRowW.claim.pre args=true) (Ma:WellAll P h vals args) :
  ∃a vs ns,vals=[Value.ref a]/\args=[WData.list (ns.map WData.int)]/\h.get? a=some { cls:=.type "list",data:=.seq vs.toArray }/\IntsAre vs ns/\ns.length<=n:=by
 have Ti:WShape.hasAll [] args [.list .int]=true:=(pre_splitW Cy).1
 have hc:l.pre.holds [] { args:=args }=true:=(pre_splitW Cy).2
 obtain⟨d,r,rfl,h1,h2⟩:=hasAllW_cons Ti
 obtain rfl:=hasAllW_nil h2
 obtain⟨xs,rfl,h3⟩:=hasW_list h1
 obtain⟨ns,rfl⟩:=items_int h3
 have hlen:ns.length<=n:=by
  unfold OpenLaw.pre at hc
  have h4:(WTm.not (.lt (.lit (.int (n:Int))) (.len (.arg 0)))).holds [] { args:=[.list (ns.map .int)] }=true:=by
   have h4:=(holds_andW hc).1
   rw[hn]at h4
   exact h4
  have h5:=condW_of h4 (w_not (w_lt w_lit (w_len_list (w_arg rfl))))
  rw[bB]at h5
  refine ui λq=>?_
  have q':(n:Int)<((ns.length:Nat):Int):=by lia
  first
   | (rw[decide_eq_true q']at h5;exact absurd h5 (by decide))
   | (simp at h5;lia)
 cases Ma with
 | cons w1 w2=>
  cases w2
  cases w1 with
  | list ho tK=>exact⟨_,_,ns,rfl,rfl,ho,mW ns _ tK,hlen⟩
theorem xN(l:OpenLaw)(args:List WData):l.row.toRowW.claim.post args (.bool true) args=true:=
 postW_of (r:=l.row.toRowW) (X:=(true==true))
  (show WShape.has [] (.bool true) .bool=true by first | rfl | decide | simp[WShape.has,WShape.arms,WShape.armsAll])
  (show(WTm.eq .res (.lit (.bool true))).value [] { args:=args,res:=some (.bool true),after:=args }=some (.bool (true==true)) from w_eq_bool (w_res rfl) w_lit) rfl
theorem tY{l:OpenLaw}{n:Nat}{q:Program}{loose:List Str}{XP:(Str->Option Value)->Heap->Prop}{YP:World->Heap->Prop}{d:DefRec}
  (hn:l.most=some n) (HF:d.params.defaults=[])
  (call:∀(w:World) (s₀ s₁:Shared) (mg mb:Str->Option Value) (fa:Addr) (o:Obj) (pm cd doc:Value) (a:Addr) (vs:List Value) (ns:List Int),
   Ground q loose [] XP w s₀ mg mb s₁.heap->YP w s₁.heap->
   s₁.heap.get? fa=some o->o.data=.func (docDef d.name d.params d.body d.scope pm cd doc)->s₁.heap.CodeRec cd d.name->mg d.name=some (.ref fa)->
   s₁.heap.get? a=some { cls:=.type "list",data:=.seq vs.toArray }->IntsAre vs ns->ns.length<=n->s₁.gens = #[]->
   codeAny (model l.prog w) callerA (.call (.ref fa) ⟨[.ref a],[]⟩) (λr s'=>r=.ok (.ret (.bool true))/\OldK s₁.heap s'.heap/\s'.os=s₁.os/\AllBare s'.gens) s₁) :
  WalkO q loose XP YP l.row.toRowW d [] (λf vs=>PySem.call f vs):=by
 intro w s₀ s₁ mg mb G Y fa o pm cd doc dV kV ho hd yb hD Hx hg args vals as Cy hlay V4 Ma V8
 obtain rfl:dV=.none:=Dflts.none hD HF
 obtain rfl:kV=.none:=Dflts.noKw hD
 obtain⟨a,vs,ns,rfl,rfl,Fz,hints,hlen⟩:=xH hn Cy Ma
 refine enter_call (codeAny_mono (call w s₀ s₁ mg mb fa o pm cd doc a vs ns G Y ho (fd_plain hd) yb Hx Fz hints hlen hg) λr s' hq=>?_)
 obtain⟨rfl,h2,h3,h4⟩:=hq
 exact⟨.inl ⟨.bool true,.bool true,[],rfl,λ_=>rfl,.bool true,xN l _,λ_=>⟨List.Pairwise.nil,λ_ hm=>(nomatch hm)⟩⟩,h2,h3,h4⟩
end Rh
namespace L2
open PySem PySem.Spec PyProof.Rows
theorem pS:∀{vs:List Value} {ns:List Int},IntsAre vs ns->Vals (ns.map V.int) vs
 | _,_,.nil=>.nil
 | _,_,.cons n t h=>.cons ⟨t,rfl⟩ (pS h)
def Only(H:Hp):Prop:=∀b,H b=none\/∃o xs,H b=some (.wF o (.lst xs))
theorem zH{P:Program}{w:World}{K:PySem.W.Frag}{mg mb:Str->Option Value}{CX:yu}{k:Nat}{fa a:Addr}{fd:FuncData}{x:Str}{sp:Sp}{s₁:Shared}{vs:List Value}{ns:List Int}
  (KX:K.In s₁.heap) (Jy:s₁.heap.Ns mainGlobals mg) (hb:s₁.heap.Ns builtinsNs mb) (T5:∀x:Str,x≠"__name__"->mb x=bootBuiltins x) (Ms:s₁.heap.NoLimit) (hg:s₁.gens = #[])
  (ha:s₁.heap.get? a=some { cls:=.type "list",data:=.seq vs.toArray }) (hi:IntsAre vs ns) (hl:ns.length<=sizeLine) (hr:eB k callerA)
  (F:∀base:Heap,K.In base->base.Ns mainGlobals mg->dc P w K mg base CX k fa fd [x] sp) (HQ:∀(s:Shared) (u:Value),BindsTo s fd ⟨[u],[]⟩ [(x,u)])
  (Ad:∀H:Hp,Only H->mh K H a (ns.map V.int)->sp [.ref a] H (λv _=>v=.bl true) λ_ _ _=>False)
  (M':∀H e s',CX [] H s₁ (λ_ _ _=>False) e s'->False) :
  codeAny (model P w) callerA (.call (.ref fa) ⟨[.ref a],[]⟩) (λr s'=>r=.ok (.ret (.bool true))/\OldK s₁.heap s'.heap/\s'.os=s₁.os/\AllBare s'.gens) s₁:=by
 have rv:=pS hi
 have Lq:=hi.length
 have core:∀H:Hp,Only H->mh K H a (ns.map V.int)->lh P w H s₁.heap->(∀b,H b≠none->b=a)->(H a≠none->K.lookup a=none)->
   codeAny (model P w) callerA (.call (.ref fa) ⟨[.ref a],[]⟩) (λr s'=>r=.ok (.ret (.bool true))/\OldK s₁.heap s'.heap/\s'.os=s₁.os/\AllBare s'.gens) s₁:=by
  intro H hO hS bY hA hK
  have wR:∀{b:Addr} {o:Obj},s₁.heap.get? b=some o->H b=none->(rn s₁.heap H).get? b=some o:=λe n=>zL e n
  have Hl:∀{b:Addr} {o:Obj} {es:Array DictEntry} {ep:Nat},s₁.heap.get? b=some o->o.data=.dict es ep->H b=none:=λ{b o es ep} e d=>by
   cases q:H b with
   | none=>rfl
   | some u=>
    have e':b=a:=hA b (by rw[q];simp)
    subst e'
    rw[ha]at e;cases e
    have d':Data.seq vs.toArray _=Data.dict es ep:=d
    cases d'
  have Jt:∀{b:Addr} {m:Str->Option Value},s₁.heap.Ns b m->(rn s₁.heap H).Ns b m:=λ{b m} ⟨o,es,ep,e,d,r⟩=>⟨o,es,ep,wR e (Hl e d),d,r⟩
  have Qg:K.In (rn s₁.heap H):=λb o e=>wR (KX b o e) (by
   cases q:H b with
   | none=>rfl
   | some u=>
    have e':b=a:=hA b (by rw[q];simp)
    subst e'
    rw[hK (by rw[q];simp)]at e;cases e)
  have hM:Mod K mg (rn s₁.heap H):=⟨Qg,Jt Jy,⟨mb,Jt hb,T5⟩,let ⟨mc,h1,h2⟩:=Ms;⟨mc,Jt h1,h2⟩⟩
  have e0:Dg P w K mg (rn s₁.heap H) callerA [] s₁ H:=⟨rfl,hM,λb o e=>Cd e,Nat.le_of_eq (x9 _ _),trivial,λb hb=>absurd (show b∈([]:List Addr) from hb) (by simp),bY,.of_eq hg⟩
  refine codeAny_mono ((F _ Qg (Jt Jy)).run callerA [] s₁ H ⟨[.ref a],[]⟩ [.ref a] [.ref a] _ _ hr e0 (HQ s₁ (.ref a)) (.cons rfl .nil) (Ad H hO hS)) λr s' h=>?_
  cases r with
  | error e=>exact(M' H e s' h).elim
  | ok fl=>
   cases fl with
   | next=>exact False.elim h
   | brk=>exact False.elim h
   | cont=>exact False.elim h
   | ret u=>
    obtain⟨v,H',os,bare,un,Ml,r',q⟩:=h
    have q':v=.bl true:=q
    subst q'
    obtain rfl:u=Value.bool true:=r'
    refine⟨rfl,OldK.of_keep λb o e=>?_,os,bare⟩
    cases q:H b with
    | none=>exact un.keep b o e q (by intro z;exact absurd (show b∈([]:List Addr) from z) (by simp)) (by simp)
    | some u=>
     rcases hO b with z | ⟨ob,xs,z⟩
     ·rw[q]at z;cases z
     ·have z2:=un.frzs b ob _ z
      obtain⟨e1,_⟩:=bY b _ z
      obtain⟨e2,_⟩:=Ml b _ z2
      rw[e]at e1;cases e1
      exact e2
 cases hk:K.lookup a with
 | some o=>
  have e:=KX a o hk
  rw[ha]at e
  cases e
  refine core (λ_=>none) (λ_=>.inl rfl) (.inr ⟨_,vs.toArray,_,hk,rfl,rfl,rfl,by rw[cU,Lq];exact hl,by simpa using rv⟩) (λb u z=>by have z':(none:Option HO)=some u:=z;cases z') (λb z=>absurd rfl z) λz=>absurd rfl z
 | none=>
  refine core (λb=>if b=a then some (.wF { cls:=.type "list",data:=.seq vs.toArray } (.lst (ns.map V.int))) else none) (λb=>?_) (.inl (.inr ⟨{ cls:=.type "list",data:=.seq vs.toArray },aU rfl⟩)) (λb u z=>?_) (λb z=>?_) λ_=>hk
  ·by_cases hb:b=a
   ·exact .inr ⟨_,_,aU hb⟩
   ·exact .inl (aK hb)
  ·by_cases hb:b=a
   ·have z':=(aU hb).symm.trans z
    cases z'
    subst hb
    exact⟨ha,by rw[bB];exact hl,vs,_,rv,ha⟩
   ·have z':=(aK hb).symm.trans z
    cases z'
  ·by_cases hb:b=a
   ·exact hb
   ·exact absurd (aK hb) z
end L2
namespace L2
open PySem PySem.Spec PyProof.Rows
theorem Al{l:PySem.W.OpenLaw}{n k:Nat}{q:Program}{loose:List Str}{XP:(Str->Option Value)->Heap->Prop}{YP:World->Heap->Prop}{d:DefRec}{K:Params->PySem.W.Frag}{CX:World->yu}{sp:World->Sp}{x:Str}
  (hn:l.most=some n) (Tv:n<=sizeLine) (HF:d.params.defaults=[]) (hr:eB k callerA)
  (hY:∀(w:World) (h:Heap),YP w h->(K w.params).In h)
  (F:∀(w:World) (mg:Str->Option Value) (fa:Addr) (h:Heap),(K w.params).In h->h.Ns mainGlobals mg->mg d.name=some (.ref fa)->
   ∃fd:FuncData,(∀(s:Shared) (u:Value),BindsTo s fd ⟨[u],[]⟩ [(x,u)])/\
    ∀base:Heap,(K w.params).In base->base.Ns mainGlobals mg->dc l.prog w (K w.params) mg base (CX w) k fa fd [x] (sp w))
  (Ad:∀(w:World) (H:Hp) (a:Addr) (ns:List Int),ns.length<=n->Only H->mh (K w.params) H a (ns.map V.int)->sp w [.ref a] H (λv _=>v=.bl true) λ_ _ _=>False)
  (M':∀(w:World) (H:Hp) (s:Shared) (e:Value) (s':Shared),CX w [] H s (λ_ _ _=>False) e s'->False) :
  PySem.W.WalkO q loose XP YP l.row.toRowW d [] (λf vs=>PySem.call f vs):=by
 refine Rh.tY hn HF λw s₀ s₁ mg mb fa o pm cd doc a vs ns G Y ho hd yb Hx Fz hints hlen hg=>?_
 have KX:=hY w _ Y
 obtain⟨fd,hb,hF⟩:=F w mg fa _ KX G.T.g Hx
 exact zH KX G.T.g G.T.b G.T.builtins G.T.nolimit hg Fz hints (dD hlen Tv) hr hF hb (λH hO hS=>Ad w H a ns hlen hO hS) λH e s'=>M' w H s₁ e s'
end L2
namespace L2
open PySem PySem.Spec PyProof.Rows
def bj(s:Stmt):Arguments:=match s with
 | .FunctionDef _ a _ _ _ _ _ _ _ _=>a
 | _=>{ posonlyargs:=[],args:=[],vararg:=none,kwonlyargs:=[],kw_defaults:=[],kwarg:=none,defaults:=[] }
def aV(s:Stmt):List Stmt:=match s with
 | .FunctionDef _ _ b _ _ _ _ _ _ _=>b
 | _=>[]
def aj(s:Stmt):Scope:=match s with
 | .FunctionDef _ _ _ _ _ _ sc _ _ _=>sc
 | _=>{ kind:=.function,names:=[],isGenerator:=false,isCoroutine:=false }
abbrev jL:yu:=λ_ _ _ _ _ _=>False
abbrev E0:XK:=λ_ _ _=>False
theorem aS{X:Cx}:Passes jL X E0:=λ_ _ _ _ _ _ _ h=>h.elim
structure j5(K:PySem.W.Frag)(x qual:Str)(st:Stmt)(f:Addr)(fd:FuncData):Prop where
 ex:∃(oc:Value) (od:Option Addr) (kV doc pm:Value) (an:Option Addr) (dh ct:Value) (Ab:Array (Option Value)),
  fd=PySem.W.fnOf x qual (bj st) (aV st) (aj st) .none kV doc pm an dh ct/\K.lookup f=some ⟨oc,od,.func fd,Ab⟩/\PySem.W.codeIn K dh qual=true
 kp:PySem.W.keepIn K (.ref f)=true
section
variable {P:Program}{w:World}{K:PySem.W.Frag}{mg:Str->Option Value}{base:Heap}
theorem j5.ok{x qual:Str}{st:Stmt}{f:Addr}{fd:FuncData}{N ps:List Str}{k:Nat}{sp:Sp}(F:j5 K x qual st f fd)(S:aY N ps (aj st))(len:∀vs H Q E,sp vs H Q E->vs.length=ps.length)
  (kO:∀(dh:Value) (A:Around) (outer:List Env) (s:Shared) (H:Hp) (vs:List V) (Q:VK) (E:XK),eB k (A.deeper (envOfC qual (aj st) s.heap.objs.size f dh))->sp vs H Q E->
   ∃t,o4 (gk jL P w K mg base N qual (aj st) f dh A outer s H E).Ac (aV st) t/\t { nx:=λ_ H'=>Q .non H',rt:=Q } (start N vs) H):dc P w K mg base jL (k+1) f fd ps sp:=by
 obtain⟨oc,od,kV,doc,pm,an,dh,ct,Ab,rfl,lk,yb⟩:=F.ex
 refine DG lk yb S len λA outer s H vs Q E hr Ad=>?_
 obtain⟨t,h,q⟩:=kO dh A outer s H vs Q E hr Ad
 exact⟨t,h.Ac,q⟩
theorem j5.binds{x qual:Str}{st:Stmt}{f:Addr}{fd:FuncData}{ps:List Str}(F:j5 K x qual st f fd)
  (h:∀(kV doc pm:Value) (an:Option Addr) (dh ct:Value) (us:List Value),us.length=ps.length->bindArgs (PySem.W.fnOf x qual (bj st) (aV st) (aj st) .none kV doc pm an dh ct) ⟨us,[]⟩=pure (ps.zip us)):Binds K fd ps []:=by
 obtain⟨oc,od,kV,doc,pm,an,dh,ct,Ab,rfl,lk,yb⟩:=F.ex
 exact .all (h kV doc pm an dh ct)
theorem cw{x qual:Str}{st:Stmt}{f:Addr}{oc:Value}{od an:Option Addr}{Ab:Array (Option Value)}{kV doc pm dh ct:Value}(l:K.lookup f=some ⟨oc,od,.func (PySem.W.fnOf x qual (bj st) (aV st) (aj st) .none kV doc pm an dh ct),Ab⟩)
  (c:PySem.W.codeIn K dh qual=true) (k:PySem.W.keepIn K (.ref f)=true):j5 K x qual st f (PySem.W.fnOf x qual (bj st) (aV st) (aj st) .none kV doc pm an dh ct):=⟨⟨oc,od,kV,doc,pm,an,dh,ct,Ab,rfl,l,c⟩,k⟩
end
theorem jC{A:Around}{k:Nat}(hr:eB k A):A.units+1<cLine:=vB (Nat.add_le_add_left (by decide:1<=64) _) hr.units
theorem bO{n:Nat}(h:n<=1000):n<sizeLine:=vB h (by decide)
section
variable {X:Cx}
theorem pv(i:Nat){x:Str}{pos:Pos}(hN:X.N[i]?=some x:=by rfl)(hv:GP X.env.scope x:=by first | exact Or.inl rfl | exact Or.inr (Or.inl rfl) | exact Or.inr (Or.inr rfl))(hd:(x==("__debug__" : Str))=false:=by decide)
  (yb:(x==("__classdict__" : Str))=false:=by decide):PE X (.Name x pos) (sC i):=zk hN hv hd yb
end
def bA(H H':Hp):Prop:=∀b o,H b=some o->H' b=some o
theorem bA.refl(H:Hp):bA H H:=λ_ _ h=>h
theorem bA.trans{H H1 H2:Hp}(a:bA H H1)(b:bA H1 H2):bA H H2:=λc o h=>b c o (a c o h)
theorem bA.free{H H':Hp}(e:bA H H'){l:Addr}(h:H' l=Option.none):H l=Option.none:=by
 cases q:H l with
 | none=>rfl
 | some o=>
  rw[e l o q]at h
  cases h
end L2
end
section
theorem L2.hide{p:Prop}(h:∀q:Prop,(p->q)->q):p:=h p id
end
section
namespace L2
open PySem PySem.Spec PyProof.Rows
theorem mG{α β:Type}{f:α->β->Sem (ForInStep β)}(g:α->β->β):∀(l:List α) (b:β),(∀x∈l,∀c,f x c=pure (.yield (g x c)))->forIn l b f=pure (l.foldl (λc x=>g x c) b)
 | [],b,_=>rfl
 | x::l,b,h=>by
  rw[List.forIn_cons,h x fw,pure_bind]
  exact mG g l (g x b) λy hy=>h y (fz _ hy)
def bt(env:Env)(names:List (Str×NameKind))(cs:List (Str×Addr)):List (Str×Addr):=
 names.foldl (λc y=>if y.2==NameKind.free then (y.1,(env.cells.lookup y.1).getD 0)::c else c) cs
theorem d9{scope:Scope}{env:Env}(h:∀y∈scope.names,y.2=.free->∃c,env.cells.lookup y.1=some c):closureFor scope env=pure (bt env scope.names []):=by
 simp only[closureFor]
 rw[mG (λy c=>if y.2==NameKind.free then (y.1,(env.cells.lookup y.1).getD 0)::c else c) scope.names [] (λx hx c=>by
  obtain⟨n,kind⟩:=x
  dsimp only
  by_cases hk:kind=.free
  ·subst hk
   obtain⟨a,e⟩:=h (n,.free) hx rfl
   have e':env.cells.lookup n=some a:=e
   have:cellOf env n=pure a:=by unfold cellOf;rw[e']
   rw[this,e']
   rfl
  ·have hb:(kind==NameKind.free)=false:=by simpa using hk
   rw[hb];rfl)]
 simp only[pure_bind]
 rfl
theorem jj{env:Env}:∀(names:List (Str×NameKind)) (cs:List (Str×Addr)),(∀y∈names,y.2=.free->∃c,env.cells.lookup y.1=some c)->(∀p∈cs,env.cells.lookup p.1=some p.2)->
  ∀p∈bt env names cs,env.cells.lookup p.1=some p.2
 | [],cs,_,hc=>hc
 | y::r,cs,h,hc=>by
  unfold bt
  rw[nF]
  refine jj r _ (λz hz=>h z (fz _ hz)) λp hp=>?_
  by_cases hk:y.2=.free
  ·have hb:(y.2==NameKind.free)=true:=by simpa using hk
   rw[aU hb]at hp
   rcases fH.mp hp with e | hp
   ·obtain⟨c,e1⟩:=h y fw hk
    rw[e];dsimp only;rw[e1];rfl
   ·exact hc p hp
  ·have hb:¬(y.2==NameKind.free)=true:=by simpa using hk
   rw[aK hb]at hp
   exact hc p hp
theorem mI{env:Env}{p:Str×Addr}:∀(names:List (Str×NameKind)) (cs:List (Str×Addr)),p∈cs->p∈bt env names cs
 | [],_,h=>h
 | y::r,cs,h=>by
  unfold bt
  rw[nF]
  refine mI r _ ?_
  split
  ·exact fz _ h
  ·exact h
theorem qg{env:Env}{x:Str}:∀(names:List (Str×NameKind)) (cs:List (Str×Addr)),(x,NameKind.free)∈names->∃c,(x,c)∈bt env names cs
 | y::r,cs,h=>by
  rcases fH.mp h with e | h
  ·subst e
   exact⟨_,by
    unfold bt;rw[nF]
    refine mI r _ ?_
    rw[aU (by rfl)]
    exact fw⟩
  ·obtain⟨c,hc⟩:=qg r (if y.2==NameKind.free then (y.1,(env.cells.lookup y.1).getD 0)::cs else cs) h
   exact⟨c,by unfold bt;rw[nF];exact hc⟩
theorem jB{f:Str->Option Addr}{x:Str}:∀{cs:List (Str×Addr)},(∀p∈cs,f p.1=some p.2)->(∃c,(x,c)∈cs)->cs.lookup x=f x
 | [],_,⟨_,h⟩=>nomatch h
 | (n,a)::r,hc,⟨c,h⟩=>by
  rw[ie]
  by_cases e:x=n
  ·subst e
   rw[nG]
   exact(hc (x,a) fw).symm
  ·have hb:(x==n)=false:=by simpa using e
   rw[hb]
   refine jB (λp hp=>hc p (fz _ hp)) ⟨c,?_⟩
   rcases fH.mp h with q | q
   ·exact absurd (cR Prod.fst q) e
   ·exact q
theorem kz{env : Env}{y : Str} : ∀ {names : List (Str × NameKind)}, (∀ z ∈ names, z.2 ≠ .cell) →
    ((names.map λ(n, k) => if (k==NameKind.free&&env.scope.kind == .function&&env.kindOf n==some .cell) then (n, NameKind.cell) else (n, k)).lookup y=some .cell ∨
     (names.map λ(n, k) => if (k==NameKind.free&&env.scope.kind == .function&&env.kindOf n==some .cell) then (n, NameKind.cell) else (n, k)).lookup y=some .free) → names.lookup y=some .free
  | [], _, h => by rcases h with h | h <;> cases h
  | (n, k)::r, hc, h => by
    have ih := @kz env y r λz hz => hc z (fz _ hz)
    rw[gE]at h
    rw[ie]
    by_cases e : y=n
    · subst e
      rw[nG]
      by_cases hb : (k==NameKind.free&&env.scope.kind == .function&&env.kindOf y==some .cell)=true
      · have hk : k=.free := by
          rw[fJ, fJ]at hb
          simpa using hb.1.1
        rw[hk]
      · dsimp only at h
        rw[aK hb, ie, nG]at h
        dsimp only at h
        rcases h with h | h
        · exact absurd (dU h) (hc (y, k) fw)
        · exact h
    · have hn : (y==n)=false := by simpa using e
      rw[hn]
      dsimp only at h ⊢
      apply ih
      by_cases hb : (k==NameKind.free&&env.scope.kind == .function&&env.kindOf n==some .cell)=true
      · rw[aU hb, ie, hn]at h
        exact h
      · rw[aK hb, ie, hn]at h
        exact h
structure CB where
 C:Addr
 cl:List (Str×Addr)
 s2:Shared
 H2:Hp
 ex:List Addr
@[reducible] def g4 (X:Cx) (scope:Scope) (N:List Str) (c:CB):Cx:=
 { prog:=X.prog,w:=X.w,K:=X.K,mg:=X.mg,base:=X.base,A:=X.A,N:=N,s₀:=c.s2,H₀:=c.H2,env:=compEnvC scope c.cl c.C X.env,outer:=X.stack,stack:=X.stack,ex:=c.ex,fn:=λ_=>false,calm:=X.calm,pn:=[],xe:=λ_ _=>False }
def aZ(σ:St)(idx:List Nat):St:=idx.map λi=>(σ[i]?).join
def aP(N:List Str)(idx:List Nat):List Str:=idx.map λi=>N.getD i ""
def oZ(X:Cx)(ifs:List Expr)(t:TT):Prop:=
 ∀(pins:List (Addr×Obj)) (s:Shared) (σ:St) (H:Hp) (Q:Bool->Hp->Prop),Inv X pins σ H s->t σ H Q->
  wpAny (model X.prog X.w) X.A (forIn ifs true λc r=>if r=true then do let ok <-isTrue c X.env (eval c X.env);pure (ForInStep.yield ok) else pure (ForInStep.yield r)) (TP X pins σ Q) X.xe s
def xk:TT:=λ_ H Q=>Q true H
theorem zi{X:Cx}:oZ X [] xk:=λ_ _ _ H _ I h=>wpAny_tests_nil ⟨H,I,h⟩
def kr(wi:TI)(k:Nat)(idx:List Nat)(g:CB->TG)(tt:CB->TT)(te:CB->TE):TE:=λσ H Q=>wi σ H λJ H1=>∀D,H1 D=none->∃W:Nat->Nat->List V->Hp->Prop,(∃m,W 0 m [] (upd H1 D (.lst [])))/\
 ∀i m ys H',W i m ys H'->(J.stop i H'/\Q (.ref D) H')\/(J.go i H'/\∃N:List V->Hp->Prop,(∀iw jl,N iw jl->∃m',m'<m/\W (i+1) m' iw jl)/\∀(c:CB) (own:St),own.length=k->∀x H2,J.vL i H' x H2->g c x (own++aZ σ idx) H2 λσ3 H3=>
  (∃cp,cp.length=k/\σ3=cp++aZ σ idx)/\tt c σ3 H3 λb H4=>if b=true then te c σ3 H4 λy H5=>H5 D=some (.lst ys)/\ys.length<sizeLine/\N (ys++[y]) (upd H5 D (.lst (ys++[y]))) else N ys H4)
structure j8(X:Cx)(scope:Scope)(xs:List Str)(idx:List Nat):Prop where
 kind:scope.kind=.function
 uX:∀y∈scope.names,y.2≠.cell
 loc:∀y∈scope.names,y.2=.local->scope.names.lookup y.1=some .local
 free:∀y∈scope.names,y.2=.free->scope.names.lookup y.1=some .free/\(X.env.kindOf y.1=some .cell\/X.env.kindOf y.1=some .free)
 ix:∀i∈idx,∃y,X.N[i]?=some y/\scope.names.lookup y=some .free
section
variable {prog:Program}{w:World}{A:Around}{R:Result->Shared->Prop}{s:Shared}
theorem iR{elt target iter:Expr}{ifs:List Expr}{scope:Scope}{pos:Pos}{it acc:Value}{env:Env}(I:Nat->Shared->Prop)
  (turn:∀n s,I n s->wpAny (model prog w) A (pyNext it) (λr s₁=>match r with
   | none=>R (.ok .next) s₁
   | some v=>wpAny (model prog w) A (letOwnedTupleGo target it v) (λ_ GZ=>wpAny (model prog w) A (assign target env v) (λ_ s₂=>
     wpAny (model prog w) A (forIn ifs true λc r=>if r=true then do let ok <-isTrue c env (eval c env);pure (ForInStep.yield ok) else pure (ForInStep.yield r)) (λok s₃=>
      if ok=true then wpAny (model prog w) A (eval elt env) (λx s₄=>
       wpAny (model prog w) A (call (.builtin "list.append") [acc,x]) (λ_ s₅=>∃m,m<n/\I m s₅) (λ_ _=>False) s₄) (λ_ _=>False) s₃
      else ∃m,m<n/\I m s₃) (λ_ _=>False) s₂) (λ_ _=>False) GZ) (λ_ _=>False) s₁) (λ_ _=>False) s)
  (n:Nat) (h:I n s) :
  codeAny (model prog w) A (.compLoop (.ListComp elt [⟨target,iter,ifs,0⟩] scope pos) 0 it acc env) R s:=by
 refine codeAny_loop rfl I (λn s hI=>?_) n h
 show wpAny _ A ((compTurn (.ListComp elt [⟨target,iter,ifs,0⟩] scope pos) 0 it acc env).onRaise (λx=>do noteFrame x env;theTreesLotGoes x)) _ _ s
 refine wpAny_noted ?_
 rw[compTurn_list]
 refine bh (pz (bh (bW (turn n s hI) (λr s₁ h₁=>?_) λ_ _ h'=>False.elim h')))
 cases r with
 | none=>exact cj h₁
 | some v=>
  refine bh (bW h₁ (λ_ GZ L7=>?_) λ_ _ h'=>False.elim h')
  refine bh (bW L7 (λ_ s₂ h₂=>bh (bW h₂ (λok s₃ h₃=>?_) λ_ _ h'=>False.elim h')) λ_ _ h'=>False.elim h')
  cases ok with
  | false=>exact cj ⟨rfl,h₃⟩
  | true=>
   exact bh (bh (bW h₃ (λx s₄ h₄=>bh (bW h₄ (λ_ s₅ h₅=>cj (cj ⟨rfl,h₅⟩)) λ_ _ h'=>False.elim h')) λ_ _ h'=>False.elim h'))
end
section
variable {X:Cx}{pins:List (Addr×Obj)}{σ:St}{H:Hp}{s:Shared}
theorem lh.but{P:Program}{w:World}{h h':Heap}{C:Addr}(x:lh P w H h)(hn:H C=none)(hs:Heap.SameBut C h h'):lh P w H h':=λb ob e=>by
 refine(x b ob e).stay (λc w' hc q=>(hs.2 c ?_).trans q) (λ_ q=>q) λ_ _ q=>q
 rintro rfl
 rcases hc with rfl | hc
 ·rw[hn]at e;cases e
 ·rw[hn]at hc;cases hc
theorem Un.but{fs ex:List Addr}{H':Hp}{h h1 h2:Heap}{C:Addr}(u:Un fs ex H H' h h1)(hC:h.get? C=none)(hs:Heap.SameBut C h1 h2):Un fs ex H H' h h2:=by
 have ne:∀b o,h.get? b=some o->b≠C:=λb o e z=>by rw[z,hC]at e;cases e
 exact⟨λb o e n h1 h2=>(hs.2 b (ne b o e)).trans (u.keep b o e n h1 h2),λb o e n h1 h2=>by
   obtain⟨sl,q⟩:=u.slot b o e n h1 h2
   exact⟨sl,(hs.2 b (ne b o e)).trans q⟩,u.free,λb o e h2=>by
   obtain⟨o',q⟩:=u.there b o e h2
   exact⟨o',(hs.2 b (ne b o e)).trans q⟩,u.tups,u.frzs,u.tbls⟩
theorem yI{idx:List Nat}{j:Nat}{v:V}(h:(aZ σ idx)[j]?=some (some v)):∃i,idx[j]?=some i/\σ[i]?=some (some v):=by
 unfold aZ at h
 rw[dR]at h
 cases e:idx[j]? with
 | none=>rw[e]at h;cases h
 | some i=>
  rw[e]at h
  refine⟨i,rfl,?_⟩
  have h':(σ[i]?).join=some v:=dU h
  cases q:σ[i]? with
  | none=>rw[q]at h';cases h'
  | some o=>rw[q]at h';cases o with
   | none=>cases h'
   | some z=>cases h';rfl
theorem yJ{N:List Str}{idx:List Nat}{j i:Nat}{y:Str}(h:idx[j]?=some i)(e:N[i]?=some y):(aP N idx)[j]?=some y:=by
 unfold aP
 rw[dR,h]
 show some (N.getD i "")=some y
 rw[rW,e];rfl
theorem Inv.block{scope:Scope}{xs:List Str}{idx:List Nat}{fp:List Addr}{C:Addr}{h':Heap}{t':Nat}{H1:Hp}{D:Addr}{m0:Str->Option Value}(I:Inv X pins σ H s)(S:j8 X scope xs idx)
  (JB:∀b∈fp,o3 X pins H b) (TL:∀b∈fp,∃o,s.heap.get? b=some o) (hC:s.heap.objs.size<=C) (Ga:D≠C) (hD:s.heap.objs.size<=D) (hn:h'.Ns C m0) (hk:∀b o,s.heap.get? b=some o->h'.get? b=some o)
  (hl:∃n,h'.get? D=some { cls:=.type "list",data:=.seq #[] n }) :
  Inv (g4 X scope (xs++aP X.N idx) ⟨C,bt X.env scope.names [],s,H,fp⟩) [] (List.replicate xs.length none++aZ σ idx) (upd H D (.lst [])) { s with heap:=h',toks:=t' }:=by
 have tG:∀y∈scope.names,y.2=.free->∃c,X.env.cells.lookup y.1=some c:=λy hy e=>I.ok.has y.1 (S.free y hy e).2
 have tK:=jj (env:=X.env) scope.names [] tG (λp hp=>(nomatch hp))
 have jD:∀y c,(bt X.env scope.names []).lookup y=some c->X.env.cells.lookup y=some c:=λy c e=>tK (y,c) (ik e)
 have HB:∀y,scope.names.lookup y=some .free->(bt X.env scope.names []).lookup y=X.env.cells.lookup y:=λy e=>jB (f:=λn=>X.env.cells.lookup n) tK (qg scope.names [] (ik e))
 have lt:∀b,(∃o,s.heap.get? b=some o)->b<s.heap.objs.size:=λb ⟨o,e⟩=>bL e
 have Ui:H D=none:=I.bY.fresh hD
 refine⟨⟨I.ok.mod,S.kind,I.ok.glob,I.ok.blt,hC,λx y c h1 h2=>I.ok.inj x y c (jD x c h1) (jD y c h2),λy hy=>?_,λ_ _ e=>(nomatch e),I.ok.hd,I.ok.frames,.inl rfl,λb hb=>⟨?_,λx c e=>(JB b hb).2.2.2.2.1 x c (jD x c e)⟩,I.bs,dD I.ok.yt I.sz,λb o e hb=>?_,λb hb z=>?_,I.stack,I.ku⟩,
  rfl,I.bare,?_,⟨m0,hn,λi y v e1 e2 hv=>?_⟩,λx c e=>?_,?_,λx c e=>?_,λp hp=>(nomatch hp),?_,?_⟩
 ·
  have q:scope.names.lookup y=some .free:=kz S.uX hy
  have q2:=ik q
  obtain⟨c,e⟩:=tG _ q2 rfl
  exact⟨c,(HB y q).trans e⟩
 ·
  exact dk (fu (lt b (TL b hb)) hC)
 ·
  rcases(JB b hb).2.2.2.1 with z | z
  ·exact I.ok.qS b o e z
  ·exact absurd (fu (bL e) (dD I.ok.yt z)) (jo _)
 ·
  rcases fH.mp (I.nU b z) with q | q
  ·exact(JB b hb).2.1 q
  ·exact(JB b hb).2.2.1 q
 ·
  exact Un.laid hk hD Ui
 ·
  by_cases hi:i<xs.length
  ·rw[mw (by simpa using hi)]at e2
   rw[List.getElem?_replicate]at e2
   split at e2 <;> cases e2
  ·have P5:xs.length<=i:=ui hi
   rw[kc (by simpa using P5),il]at e2
   obtain⟨i0,ei,es⟩:=yI e2
   obtain⟨y',ey,ef⟩:=S.ix i0 (gJ ei)
   have JS:(xs++aP X.N idx)[i]?=some y:=e1
   rw[kc P5,yJ ei ey]at JS
   cases JS
   obtain⟨m,hm,TB⟩:=I.loc
   have Qn:=S.free (y,.free) (ik ef) rfl
   have J6:GP X.env.scope y:=.inr Qn.2
   obtain⟨u,ru,lk⟩:=TB i0 y v ey es J6
   refine⟨u,ru,?_⟩
   rcases lk with ⟨k1,_⟩ | ⟨_,c,ec,hc⟩
   ·rcases Qn.2 with z | z
    ·have z':X.env.kindOf y=some .cell:=z
     rw[k1]at z';cases z'
    ·have z':X.env.kindOf y=some .free:=z
     rw[k1]at z';cases z'
   ·refine .inr ⟨?_,c,(HB y ef).trans ec,hc.keeps hk⟩
    rcases hv with z | z | z
    ·exfalso
     have z':(relabel scope X.env).names.lookup y=some .local:=z
     have:∀(names:List (Str×NameKind)),names.lookup y=some .free->(names.map λ(n,k)=>if (k==NameKind.free&&X.env.scope.kind == .function&&X.env.kindOf n==some .cell) then (n,NameKind.cell) else (n,k)).lookup y≠some .local:=by
      intro names
      induction names with
      | nil=>intro h;cases h
      | cons p r ih=>
       obtain⟨n,k⟩:=p
       intro h
       rw[gE]
       by_cases e:y=n
       ·subst e
        rw[ie,nG]at h
        cases h
        dsimp only
        split
        ·rw[ie,nG];exact λq=>nomatch q
        ·rw[ie,nG];exact λq=>nomatch q
       ·have hn:(y==n)=false:=by simpa using e
        rw[ie,hn]at h
        dsimp only
        split
        ·rw[ie,hn];exact ih h
        ·rw[ie,hn];exact ih h
     exact this scope.names ef z'
    ·exact .inl z
    ·exact .inr z
 ·
  obtain⟨v,q⟩:=I.cell x c (jD x c e)
  exact⟨v,q.keeps hk⟩
 ·
  show upd H D (.lst []) C=none
  rw[aD (ic Ga)]
  exact I.bY.fresh hC
 ·
  have e':=jD x c e
  obtain⟨v,q⟩:=I.cell x c e'
  rw[aD (dk (fu q.lt hD))]
  exact I.dS x c e'
 ·
  obtain⟨n,e⟩:=hl
  exact I.bY.laid hk hD ⟨jn _,[],n,.nil,e⟩
 ·show(List.replicate xs.length none++aZ σ idx).length=(xs++aP X.N idx).length
  rw[ft,ft,il]
  unfold aZ aP
  rw[bB,bB]
end
section
variable {X:Cx}{elt target iter:Expr}{ifs:List Expr}{scope:Scope}{pos:Pos}{xs:List Str}{idx:List Nat}{wi:TI}{g:CB->TG}{tt:CB->TT}{te:CB->TE}
theorem tS{pins:List (Addr×Obj)}{σ:St}{H2:Hp}{s2:Shared}{fp:List Addr}{it:Addr}{tn:Nat->Heap->Prop}{J:It}{Q:V->Hp->Prop}{RR:Value->Addr->Result->Shared->Prop}{E:Value->Shared->Prop}(hc:X.calm=true)(S:j8 X scope xs idx)
  (hg:∀c,PG (g4 X scope (xs++aP X.N idx) c) target (g c)) (ht:∀c,oZ (g4 X scope (xs++aP X.N idx) c) ifs (tt c)) (he:∀c,PE (g4 X scope (xs++aP X.N idx) c) elt (te c))
  (I2:Inv X pins σ H2 s2) (T:Turn X.prog X.w X.K target J fp it tn) (sD:tn 0 s2.heap) (f2:∀b∈fp,o3 X pins H2 b)
  (h:∀D,H2 D=none->∃W:Nat->Nat->List V->Hp->Prop,(∃m,W 0 m [] (upd H2 D (.lst [])))/\
   ∀i m ys H',W i m ys H'->(J.stop i H'/\Q (.ref D) H')\/(J.go i H'/\∃N:List V->Hp->Prop,(∀iw jl,N iw jl->∃m',m'<m/\W (i+1) m' iw jl)/\∀(c:CB) (own:St),own.length=xs.length->∀x H2,J.vL i H' x H2->g c x (own++aZ σ idx) H2 λσ3 H3=>
    (∃cp,cp.length=xs.length/\σ3=cp++aZ σ idx)/\tt c σ3 H3 λb H4=>if b=true then te c σ3 H4 λy H5=>H5 D=some (.lst ys)/\ys.length<sizeLine/\N (ys++[y]) (upd H5 D (.lst (ys++[y]))) else N ys H4))
  (M3:∀D C σ' H' s',s2.heap.objs.size<=C->Inv (g4 X scope (xs++aP X.N idx) ⟨C,bt X.env scope.names [],s2,H2,fp⟩) [] σ' H' s'->Q (.ref D) H'->RR (.ref D) C (.ok .next) s') :
  wpAny (model X.prog X.w) X.A (newList []) (λacc s₃=>wpAny (model X.prog X.w) X.A (newFunctionEnv scope X.env.globals (bt X.env scope.names []) [] X.env.qual none .none (some X.env)) (λyj s₄=>
   codeAny (model X.prog X.w) X.A (.compStart (.ListComp elt [⟨target,iter,ifs,0⟩] scope pos) 0 (.ref it) acc { yj with scope:=relabel scope X.env }) (RR acc yj.locals) s₄) E s₃) E s2:=by
 refine wpAny_newObj_type (wpAny_newFunctionEnv S.uX (by intro y hy;simp at hy) (λh₁ va rk=>?_) S.kind)
 dsimp only at va rk ⊢
 generalize FX:s2.heap.push { cls:=.type "list",dict:=none,data:=.seq ([]:List Value).toArray }=HH at va rk ⊢
 have Gb:HH.objs.size=s2.heap.objs.size+1:=by rw[<-FX,Heap.size_push]
 have Ga:s2.heap.objs.size≠HH.objs.size:=by rw[Gb];exact dk (Nat.lt_succ_self _)
 have tN:s2.heap.objs.size<=HH.objs.size:=by rw[Gb];exact qt _
 have old:∀b o,s2.heap.get? b=some o->h₁.get? b=some o:=λb o e=>rk.extBut b o (by rw[Gb];exact dk (uq (bL e))) (eR _ (FX ▸ eR _ e))
 have FT:∃n,h₁.get? s2.heap.objs.size=some { cls:=.type "list",data:=.seq #[] n }:=⟨_,rk.extBut _ _ Ga (eR _ (FX ▸ gI _ rfl))⟩
 have G3:tn 0 h₁:=T.keep _ _ _ sD λb _ o e=>old b o e
 obtain⟨W,⟨m0,w0⟩,turn⟩:=h s2.heap.objs.size I2.fresh
 have loop:∀s₃:Shared,s₃={ s2 with heap:=h₁,toks:=s2.toks+([]:List (Str×Value)).length }->
   codeAny (model X.prog X.w) X.A (.compLoop (.ListComp elt [⟨target,iter,ifs,0⟩] scope pos) 0 (.ref it) (.ref s2.heap.objs.size) (compEnvC scope (bt X.env scope.names []) HH.objs.size X.env)) (RR (.ref s2.heap.objs.size) HH.objs.size) s₃:=by
  rintro s₃ rfl
  have I3:=I2.block (t':=s2.toks+([]:List (Str×Value)).length) (H1:=H2) S f2 (λb hb=>let ⟨o,e,_⟩:=T.obj _ _ sD b hb;⟨o,e⟩) tN Ga (cg _) va old FT
  generalize hY:g4 X scope (xs++aP X.N idx) ⟨HH.objs.size,bt X.env scope.names [],s2,H2,fp⟩=Y at I3
  have eY:Y=g4 X scope (xs++aP X.N idx) ⟨HH.objs.size,bt X.env scope.names [],s2,H2,fp⟩:=hY.symm
  have nof:∀b∈fp,b∉Y.fs:=λb hb z=>by
   rw[eY]at z
   rcases fH.mp (I2.nU b z) with q | q
   ·exact(f2 b hb).2.1 q
   ·exact(f2 b hb).2.2.1 q
  have stat:∀{H':Hp},(∀b∈fp,H' b=none)->∀b∈fp,o3 Y [] H' b:=λ{H'} hn b hb=>by
   have lt:b<s2.heap.objs.size:=let ⟨o,e,_⟩:=T.obj _ _ sD b hb;bL e
   refine⟨hn b hb,?_,nof b hb,.inl (by rw[eY];exact hb),λx c e=>?_,λp hp=>?_⟩
   ·rw[eY];exact dk (fu lt tN)
   ·rw[eY]at e
    have tK:=jj (env:=X.env) scope.names [] (λy hy e=>I2.ok.has y.1 (S.free y hy e).2) (λp hp=>nomatch hp)
    exact(f2 b hb).2.2.2.2.1 x c (tK (x,c) (ik e))
   ·rw[eY]at hp;exact nomatch hp
  have T':Turn Y.prog Y.w Y.K target J fp it tn:=by rw[eY];exact T
  have HD:PG Y target (g ⟨HH.objs.size,bt X.env scope.names [],s2,H2,fp⟩):=by rw[eY];exact hg _
  have Mb:oZ Y ifs (tt ⟨HH.objs.size,bt X.env scope.names [],s2,H2,fp⟩):=by rw[eY];exact ht _
  have Mx:PE Y elt (te ⟨HH.objs.size,bt X.env scope.names [],s2,H2,fp⟩):=by rw[eY];exact he _
  have HN:Y.calm=true:=by rw[eY];exact hc
  have eA:Y.A=X.A:=by rw[eY]
  have eP:Y.prog=X.prog:=by rw[eY]
  have eW:Y.w=X.w:=by rw[eY]
  have eE:Y.env=compEnvC scope (bt X.env scope.names []) HH.objs.size X.env:=by rw[eY]
  have eX:Y.xe=λ_ _=>False:=by rw[eY]
  have fin:∀σ' H' s',Inv Y [] σ' H' s'->Q (.ref s2.heap.objs.size) H'->RR (.ref s2.heap.objs.size) HH.objs.size (.ok .next) s':=λσ' H' s' I' q=>M3 _ _ σ' H' s' tN (by rw[<-eY];exact I') q
  rw[<-eE,<-eA,<-eP,<-eW]
  have Nf:∀b∈fp,(upd H2 s2.heap.objs.size (.lst [])) b=none:=λb hb=>by
   have lt:b<s2.heap.objs.size:=let ⟨o,e,_⟩:=T.obj _ _ sD b hb;bL e
   rw[aD (dk lt)];exact(f2 b hb).1
  refine iR (λn s'=>∃i ys own H',own.length=xs.length/\Inv Y [] (own++aZ σ idx) H' s'/\tn i s'.heap/\(∀b∈fp,H' b=none)/\W i n ys H') ?_ m0
   ⟨0,[],_,_,il,I3,G3,Nf,w0⟩
  rintro n s4 ⟨i,ys,own,H4,Fy,I4,G0,Ij,w4⟩
  rcases turn i n ys H4 w4 with ⟨stop,qn⟩ | ⟨go,NN,M4,step⟩
  ·exact bS (T'.done Y rfl rfl rfl HN i [] s4 _ H4 _ I4 (stat Ij) G0 stop) λr s5 ⟨hr,I5⟩=>by subst hr;exact fin _ _ _ I5 qn
  ·refine bS (T'.item Y rfl rfl rfl HN i [] s4 _ H4 _ I4 (stat Ij) G0 go) λr s5 ⟨u,hr,h5⟩=>?_
   subst hr
   refine bS h5 λ_ s6 ⟨x,H6,I6,r6,y6,Eb,Nc⟩=>?_
   have Ol:=I6.pinned (stat Nc) (T'.obj _ _ Eb)
   have step':=step ⟨HH.objs.size,bt X.env scope.names [],s2,H2,fp⟩ own Fy x H6 y6
   refine bW (HD _ s6 _ H6 x u _ Ol r6 step') (λ_ s7 ⟨σ7,H7,I7,q7⟩=>?_) (λ_ _ z=>by rw[eX]at z;exact z)
   obtain⟨⟨Fe,Mq,e7⟩,q7⟩:=q7
   refine bW (Mb _ s7 σ7 H7 _ I7 q7) (λb s8 ⟨H8,I8,q8⟩=>?_) (λ_ _ z=>by rw[eX]at z;exact z)
   have again:∀{H9:Hp} {s9:Shared} {iw:List V},Inv Y ([]++lL fp s6.heap) σ7 H9 s9->NN iw H9->∃m,m<n/\∃i ys own H',own.length=xs.length/\Inv Y [] (own++aZ σ idx) H' s9/\tn i s9.heap/\(∀b∈fp,H' b=none)/\W i m ys H':=λ{H9 s9 iw} I9 n9=>by
    obtain⟨m',hm,w9⟩:=M4 _ _ n9
    rw[e7]at I9
    refine⟨m',hm,i+1,iw,Fe,H9,Mq,I9.iA,T'.keep _ _ _ Eb λb hb o e=>(I9.pin (b,o) (fe _ (fe _ (dY hb e)))).1,λb hb=>?_,w9⟩
    obtain⟨o,e,d⟩:=T'.obj _ _ Eb b hb
    exact(I9.pin (b,o) (fe _ (fe _ (dY hb e)))).2.1
   cases b with
   | false=>exact again I8 q8
   | true=>
    refine bW (Mx _ s8 σ7 H8 _ I8 q8) (λu9 s9 ⟨y,H9,I9,r9,hy,hz,q9⟩=>?_) (λ_ _ z=>by rw[eX]at z;exact z)
    have ap:=ji (X:=Y) _ s9 σ7 H9 (.ref s2.heap.objs.size) [y] (.ref s2.heap.objs.size) [u9] (λ_ Gs=>NN (ys++[y]) Gs) I9 rfl (.cons r9 .nil) ⟨_,ys,y,rfl,rfl,hy,hz,q9⟩
    refine bW ap (λ_ RB ⟨_,Gs,Om,_,Kv⟩=>again Om Kv) (λ_ _ z=>by rw[eX]at z;exact z)
 exact codeAny_compStart_list (loop _ rfl) (T.self _ 0 _ _ _ G3 (loop _ rfl))
theorem BK(hc:X.calm=true)(S:j8 X scope xs idx)(hi:PI X target iter wi)
  (hg:∀c,PG (g4 X scope (xs++aP X.N idx) c) target (g c)) (ht:∀c,oZ (g4 X scope (xs++aP X.N idx) c) ifs (tt c)) (he:∀c,PE (g4 X scope (xs++aP X.N idx) c) elt (te c))
  (hs:∀x,foldedSetIterable iter X.env x=pure x:=by intro _;rfl):PE X (.ListComp elt [⟨target,iter,ifs,0⟩] scope pos) (kr wi xs.length idx g tt te):=by
 intro pins s σ H Q I h
 rw[eval_ListComp]
 have tI:closureFor scope X.env=pure (bt X.env scope.names []):=d9 λy hy e=>I.ok.has y.1 (S.free y hy e).2
 refine uF (use:=none) rfl hs tI S.kind S.loc (bS (hi pins s σ H _ I h) λxv s₁ h₁=>bS h₁ λHt s₂ h₂=>?_)
 obtain⟨it,fp,tn,J,H2,e,I2,T,sD,f2,hW⟩:=h₂
 subst e
 refine tS (Q:=Q) (RR:=λacc C=>compPost (model X.prog X.w) X.A X.xe none (EP X pins σ Q) acc C) hc S hg ht he I2 T sD f2 hW ?_
 intro D C σ' H' s' hC I' q
 obtain⟨m',hn,_⟩:=I'.loc
 refine⟨m',hn,λGd u3=>?_⟩
 obtain⟨hh,gg,d,t,os⟩:=s'
 obtain rfl:os=s₂.os:=I'.os
 have Cn:s₂.heap.get? C=none:=vz hC
 refine⟨.ref D,H',I2.call (s:=s₂) (h':=Gd) (g':=gg) (d':=d) (t':=t) (ch:=fp) (I'.base.but Cn u3) (I'.bY.but I'.free u3) I'.bare (λb hb=>?_),rfl,q⟩
 obtain⟨_,f1,_,f3,f4,f5⟩:=f2 b hb
 exact⟨f3,f1,f4,f5⟩
end
theorem vg{lo:Int}{n k:Nat}{idx:List Nat}{g:CB->TG}{tt:CB->TT}{te:CB->TE}{σ:St}{Q:VK}{H1:Hp}{D:Addr}(Pv:Nat->List V->Hp->Prop)(h0:Pv 0 [] (upd H1 D (.lst [])))
  (hs:∀i ys H,i<n->Pv i ys H->∀(c:CB) (own:St),own.length=k->g c (.int (lo+i)) (own++aZ σ idx) H λσ3 H3=>
   (∃cp,cp.length=k/\σ3=cp++aZ σ idx)/\tt c σ3 H3 λb H4=>if b=true then te c σ3 H4 λy H5=>H5 D=some (.lst ys)/\ys.length<sizeLine/\Pv (i+1) (ys++[y]) (upd H5 D (.lst (ys++[y]))) else Pv (i+1) ys H4)
  (hd:∀ys H,Pv n ys H->Q (.ref D) H) :
  ∃W:Nat->Nat->List V->Hp->Prop,(∃m,W 0 m [] (upd H1 D (.lst [])))/\
   ∀i m ys H',W i m ys H'->((vq lo n).stop i H'/\Q (.ref D) H')\/((vq lo n).go i H'/\∃N:List V->Hp->Prop,(∀iw jl,N iw jl->∃m',m'<m/\W (i+1) m' iw jl)/\∀(c:CB) (own:St),own.length=k->∀x H2,(vq lo n).vL i H' x H2->g c x (own++aZ σ idx) H2 λσ3 H3=>
    (∃cp,cp.length=k/\σ3=cp++aZ σ idx)/\tt c σ3 H3 λb H4=>if b=true then te c σ3 H4 λy H5=>H5 D=some (.lst ys)/\ys.length<sizeLine/\N (ys++[y]) (upd H5 D (.lst (ys++[y]))) else N ys H4):=by
 refine⟨λi m ys H=>m=n-i/\i<=n/\Pv i ys H,⟨n,by simp,jn _,h0⟩,?_⟩
 rintro i m ys H ⟨rfl,hi,p⟩
 by_cases lT:i<n
 ·refine .inr ⟨lT,Pv (i+1),λiw H' p'=>⟨n-(i+1),by omega,rfl,lT,p'⟩,λc own ho x H' y=>?_⟩
  obtain⟨e,y⟩:=y
  subst e y
  exact hs i ys _ lT p c own ho
 ·have e:i=n:=by omega
  subst e
  exact .inl ⟨cg _,hd ys H p⟩
theorem yh{K:PySem.W.Frag}{a:Addr}{zs:List V}{k:Nat}{idx:List Nat}{g:CB->TG}{tt:CB->TT}{te:CB->TE}{σ:St}{Q:VK}{H1:Hp}{D:Addr}(Pv:Nat->List V->Hp->Prop)(h0:Pv 0 [] (upd H1 D (.lst [])))
  (hl:∀i ys H,i<=zs.length->Pv i ys H->mh K H a zs)
  (hs:∀i x ys H,zs[i]?=some x->Pv i ys H->∀(c:CB) (own:St),own.length=k->g c x (own++aZ σ idx) H λσ3 H3=>
   (∃cp,cp.length=k/\σ3=cp++aZ σ idx)/\tt c σ3 H3 λb H4=>if b=true then te c σ3 H4 λy H5=>H5 D=some (.lst ys)/\ys.length<sizeLine/\Pv (i+1) (ys++[y]) (upd H5 D (.lst (ys++[y]))) else Pv (i+1) ys H4)
  (hd:∀ys H,Pv zs.length ys H->Q (.ref D) H) :
  ∃W:Nat->Nat->List V->Hp->Prop,(∃m,W 0 m [] (upd H1 D (.lst [])))/\
   ∀i m ys H',W i m ys H'->((vr K a).stop i H'/\Q (.ref D) H')\/((vr K a).go i H'/\∃N:List V->Hp->Prop,(∀iw jl,N iw jl->∃m',m'<m/\W (i+1) m' iw jl)/\∀(c:CB) (own:St),own.length=k->∀x H2,(vr K a).vL i H' x H2->g c x (own++aZ σ idx) H2 λσ3 H3=>
    (∃cp,cp.length=k/\σ3=cp++aZ σ idx)/\tt c σ3 H3 λb H4=>if b=true then te c σ3 H4 λy H5=>H5 D=some (.lst ys)/\ys.length<sizeLine/\N (ys++[y]) (upd H5 D (.lst (ys++[y]))) else N ys H4):=by
 refine⟨λi m ys H=>m=zs.length-i/\i<=zs.length/\Pv i ys H,⟨zs.length,by simp,jn _,h0⟩,?_⟩
 rintro i m ys H ⟨rfl,hi,p⟩
 have q:=hl i ys H hi p
 by_cases lT:i<zs.length
 ·refine .inr ⟨⟨zs,zs[i],q,by simp[lT]⟩,Pv (i+1),λiw H' p'=>⟨zs.length-(i+1),by omega,rfl,lT,p'⟩,λc own ho x H' y=>?_⟩
  obtain⟨e,y⟩:=y
  subst e
  exact hs i x ys _ (y zs q) p c own ho
 ·have e:i=zs.length:=by omega
  subst e
  exact .inl ⟨⟨zs,q,cg _⟩,hd ys H p⟩
theorem BM{own:St}{k:St}{x:V}(h:own.length=1):(own++k).set 0 (some x)=[some x]++k:=by
 match own,h with
 | [_],_=>rfl
theorem tT{lo:Int}{n:Nat}{idx:List Nat}{tt:CB->TT}{te:CB->TE}{σ:St}{Q:VK}{H1:Hp}{D:Addr}(Pv:Nat->List V->Hp->Prop)(h0:Pv 0 [] (upd H1 D (.lst [])))
  (hs:∀i ys H,i<n->Pv i ys H->∀(c:CB),tt c (some (.int (lo+i))::aZ σ idx) H λb H4=>if b=true then te c (some (.int (lo+i))::aZ σ idx) H4 λy H5=>H5 D=some (.lst ys)/\ys.length<sizeLine/\Pv (i+1) (ys++[y]) (upd H5 D (.lst (ys++[y]))) else Pv (i+1) ys H4)
  (hd:∀ys H,Pv n ys H->Q (.ref D) H) :
  ∃W:Nat->Nat->List V->Hp->Prop,(∃m,W 0 m [] (upd H1 D (.lst [])))/\
   ∀i m ys H',W i m ys H'->((vq lo n).stop i H'/\Q (.ref D) H')\/((vq lo n).go i H'/\∃N:List V->Hp->Prop,(∀iw jl,N iw jl->∃m',m'<m/\W (i+1) m' iw jl)/\∀(c:CB) (own:St),own.length=1->∀x H2,(vq lo n).vL i H' x H2->bX 0 x (own++aZ σ idx) H2 λσ3 H3=>
    (∃cp,cp.length=1/\σ3=cp++aZ σ idx)/\tt c σ3 H3 λb H4=>if b=true then te c σ3 H4 λy H5=>H5 D=some (.lst ys)/\ys.length<sizeLine/\N (ys++[y]) (upd H5 D (.lst (ys++[y]))) else N ys H4):=
 vg (g:=λ_=>bX 0) Pv h0 (λi ys H hi p c own ho=>by
  show(∃cp,cp.length=1/\(own++aZ σ idx).set 0 _=cp++aZ σ idx)/\tt c ((own++aZ σ idx).set 0 _) H _
  rw[BM ho]
  exact⟨⟨[_],rfl,rfl⟩,hs i ys H hi p c⟩) hd
theorem vh{K:PySem.W.Frag}{a:Addr}{zs:List V}{idx:List Nat}{tt:CB->TT}{te:CB->TE}{σ:St}{Q:VK}{H1:Hp}{D:Addr}(Pv:Nat->List V->Hp->Prop)(h0:Pv 0 [] (upd H1 D (.lst [])))
  (hl:∀i ys H,i<=zs.length->Pv i ys H->mh K H a zs)
  (hs:∀i x ys H,zs[i]?=some x->Pv i ys H->∀(c:CB),tt c (some x::aZ σ idx) H λb H4=>if b=true then te c (some x::aZ σ idx) H4 λy H5=>H5 D=some (.lst ys)/\ys.length<sizeLine/\Pv (i+1) (ys++[y]) (upd H5 D (.lst (ys++[y]))) else Pv (i+1) ys H4)
  (hd:∀ys H,Pv zs.length ys H->Q (.ref D) H) :
  ∃W:Nat->Nat->List V->Hp->Prop,(∃m,W 0 m [] (upd H1 D (.lst [])))/\
   ∀i m ys H',W i m ys H'->((vr K a).stop i H'/\Q (.ref D) H')\/((vr K a).go i H'/\∃N:List V->Hp->Prop,(∀iw jl,N iw jl->∃m',m'<m/\W (i+1) m' iw jl)/\∀(c:CB) (own:St),own.length=1->∀x H2,(vr K a).vL i H' x H2->bX 0 x (own++aZ σ idx) H2 λσ3 H3=>
    (∃cp,cp.length=1/\σ3=cp++aZ σ idx)/\tt c σ3 H3 λb H4=>if b=true then te c σ3 H4 λy H5=>H5 D=some (.lst ys)/\ys.length<sizeLine/\N (ys++[y]) (upd H5 D (.lst (ys++[y]))) else N ys H4):=
 yh (g:=λ_=>bX 0) Pv h0 hl (λi x ys H hi p c own ho=>by
  show(∃cp,cp.length=1/\(own++aZ σ idx).set 0 _=cp++aZ σ idx)/\tt c ((own++aZ σ idx).set 0 _) H _
  rw[BM ho]
  exact⟨⟨[_],rfl,rfl⟩,hs i x ys H hi p c⟩) hd
def oR(z:Str)(lo hi:Option Int):Str:=⟨((z.cps.toList.drop (HT.eG z.length 0 lo)).take (HT.eG z.length z.length hi-HT.eG z.length 0 lo)).toArray⟩
theorem nS(lo hi:Option Int)(n:Nat):Builtin.Str.strSliceIndices lo hi 1 n=sliceRange ((HT.eG n 0 lo:Nat):Int) ((HT.eG n n hi:Nat):Int) 1:=by
 obtain⟨h1,h2,h3⟩:=kx lo hi n
 rw[<-h1,<-h2]
 cases lo <;> cases hi <;> simp[Builtin.Str.strSliceIndices,sliceBounds]
theorem Ar{a b:Str}(h:a.cps.toList=b.cps.toList):a=b:=by
 obtain⟨x⟩:=a;obtain⟨y⟩:=b
 have:x=y:=Array.toList_inj.mp h
 rw[this]
theorem pj(x:Str)(lo hi:Option Int):Txt.slice x lo hi=oR x lo hi:=by
 have hl:x.cps.toList.length=x.length:=by simp[Str.length]
 have e:(Builtin.Str.strSliceIndices lo hi 1 x.length).filterMap (x.cps[·]?)=(x.cps.toList.drop (HT.eG x.length 0 lo)).take (HT.eG x.length x.length hi-HT.eG x.length 0 lo):=by
  rw[nS,sliceRange_one,pick_run]
 have el:(Builtin.Str.strSliceIndices lo hi 1 x.length).length=HT.eG x.length x.length hi-HT.eG x.length 0 lo:=by
  rw[nS,sliceRange_one,bB,uo]
 unfold Txt.slice
 rw[e,el]
 have hj:HT.eG x.length x.length hi<=x.length:=HT.Ef _ _ (cg _) hi
 by_cases h:HT.eG x.length x.length hi-HT.eG x.length 0 lo=x.length
 ·have hb:((1:Int)==1&&HT.eG x.length x.length hi-HT.eG x.length 0 lo==x.length)=true:=by rw[h];simp
  rw[aU hb]
  refine Ar ?_
  unfold oR
  by_cases hx:x.length=0
  ·have e0:x.cps.toList=[]:=yz (by lia)
   rw[e0];simp
  ·have h0:HT.eG x.length 0 lo=0:=by lia
   rw[h,h0,List.drop_zero,<-hl,vv]
 ·have hb:¬((1:Int)==1&&HT.eG x.length x.length hi-HT.eG x.length 0 lo==x.length)=true:=by simpa using h
  rw[aK hb]
  rfl
theorem oG{v:Value}{o:Option Int}(h:IsPart v o):∃p:Option (Int×Tok),v=partValue p/\p.map (·.1)=o:=by
 cases h with
 | none=>exact⟨none,rfl,rfl⟩
 | int i t=>exact⟨some (i,t),rfl,rfl⟩
section
variable {X:Cx}
def yV:V->Option Int->Option Int->Hp->VK->Prop:=λx lo hi H Q=>∃z,x=.str z/\z.length<=sizeLine/\Q (.str (oR z lo hi)) H
theorem yS:DN X yV:=by
 intro pins s σ H x v vl vu lo hi sl Q I rx hs pl pu h
 obtain⟨z,rfl,hz,q⟩:=h
 obtain⟨t,rfl⟩:=rx
 obtain⟨RX,rfl,el⟩:=oG pl
 obtain⟨RG,rfl,eu⟩:=oG pu
 refine⟨"str",_,F.slot_str_getitem.lookup,lj _ _ _,wpAny_getItem_str_slice (l:=RX) (u:=RG) (st:=none) hs rfl ?_⟩
 unfold sliceMade slicePicked
 rw[el,eu]
 refine post_val_or_str ⟨?_,λt' k=>?_⟩
 ·exact dD (Txt.slice_le z lo hi) hz
 ·exact⟨.str (oR z lo hi),H,I.tok _,⟨t',by rw[<-pj];rfl⟩,q⟩
theorem Au{ss:List Str}:∀{us:List Value},Vals (ss.map V.str) us->∃l:List (Str×Tok),us=strValues l/\l.map (·.1)=ss:=by
 induction ss with
 | nil=>intro us r;cases r;exact⟨[],rfl,rfl⟩
 | cons z ss ih=>
  intro us r
  rw[gE]at r
  cases r with
  | cons r1 r2=>
   obtain⟨t,rfl⟩:=r1
   obtain⟨l,rfl,e⟩:=ih r2
   exact⟨(z,t)::l,rfl,by rw[gE,e]⟩
def rJoin(K:PySem.W.Frag):V->List V->Hp->VK->Prop:=λx vs H Q=>∃sep a ss,x=.str sep/\vs=[.ref a]/\mh K H a (ss.map V.str)/\JoinOk sep ss=true/\Q (.str (Txt.join sep ss)) H
theorem Cg:DP X "str.join" (rJoin X.K):=by
 intro pins s σ H x vs v us Q I rx rv h
 obtain⟨sep,a,ss,rfl,rfl,hq,bY,q⟩:=h
 obtain⟨t,rfl⟩:=rx
 obtain⟨u,rfl,ru⟩:=rv.one
 cases ru
 obtain⟨its,r,pl,hz⟩:=I.list hq
 obtain⟨l,rfl,e⟩:=Au r
 exact SC.join pl.isList e bY λt' k=>⟨.str (Txt.join sep ss),H,I.tok _,⟨t',rfl⟩,q⟩
theorem zU(c:Value):cH X (.builtin "isinstance") (λvs H Q=>∃x t b n,vs=[x,.ty n]/\gR X.K H x t/\PySem.W.kitOne X.K t (.type n)=some b/\Q (.bl b) H):=by
 intro pins s σ H vs us Q I rv h
 obtain⟨x,t,b,n,rfl,ty,e,q⟩:=h
 obtain⟨u,v,rfl,ru,RC⟩:=rv.two
 obtain rfl:v=Value.type n:=RC
 exact xW I ru ty e λtk=>⟨.bl b,H,I.tok _,rfl,q⟩
def Ik(xs ys:List V):Bool:=xs.length==ys.length&&(List.range xs.length).all λj=>JQ (xs.getD j .non) (ys.getD j .non)
end
section
variable {X:Cx}{elt target iter:Expr}{ifs:List Expr}{scope:Scope}{pos spos py:Pos}{xs:List Str}{idx:List Nat}{wi:TI}{g:CB->TG}{tt:CB->TT}{te:CB->TE}
theorem Bu{i:Nat}{y:Str}(hN:X.N.Nodup)(TF:X.N[i]?=some y)(hy:X.env.scope.names.lookup y=some .local)(hc:X.calm=true)(S:j8 X scope xs idx)(hi:PI X target iter wi)
  (hg:∀c,PG (g4 X scope (xs++aP X.N idx) c) target (g c)) (ht:∀c,oZ (g4 X scope (xs++aP X.N idx) c) ifs (tt c)) (he:∀c,PE (g4 X scope (xs++aP X.N idx) c) elt (te c))
  (Mf:swapsWith (.ListComp elt [⟨target,iter,ifs,0⟩] scope pos) (some (.Name y py)) spos.line X.env=pure true:=by rfl)
  (hs:∀x,foldedSetIterable iter X.env x=pure x:=by intro _;rfl):PS X (.Assign [.Name y py] (.ListComp elt [⟨target,iter,ifs,0⟩] scope pos) spos) (mS (kr wi xs.length idx g tt te) (bX i)):=by
 intro pins s σ H D I h
 have tI:closureFor scope X.env=pure (bt X.env scope.names []):=d9 λy hy e=>I.ok.has y.1 (S.free y hy e).2
 rw[exec_Assign_Name_used _ _ _ _ Mf]
 refine bh (pz (bh ?_))
 show wpAny _ X.A (do let _ <-comprehension (.ListComp elt [⟨target,iter,ifs,0⟩] scope pos) scope X.env _ (newList []) false (eval iter X.env) (some (assign (.Name y py) X.env))) _ _ s
 refine bh (bW (uF (use:=some (assign (.Name y py) X.env)) (Q:=λ_ s'=>SP X pins D .next s') rfl hs tI S.kind S.loc
  (bS (hi pins s σ H _ I h) λxv s₁ h₁=>bS h₁ λHt s₂ h₂=>?_)) (λ_ s' hq=>cj (cj hq)) λ_ _ e=>e)
 obtain⟨it,fp,tn,J,H2,e,I2,T,sD,f2,hW⟩:=h₂
 subst e
 refine tS (Q:=λv H'=>bX i v σ H' D.nx) (RR:=λacc C=>compPost (model X.prog X.w) X.A X.xe (some (assign (.Name y py) X.env)) (λ_ s'=>SP X pins D .next s') acc C) hc S hg ht he I2 T sD f2 hW ?_
 intro DD C σ' H' s' hC I' q
 show wpAny _ X.A (assign (.Name y py) X.env (.ref DD)) _ _ _
 obtain⟨hh,gg,d,t,os⟩:=s'
 obtain rfl:os=s₂.os:=I'.os
 have Cn:s₂.heap.get? C=none:=vz hC
 have I3:Inv X pins σ H' { s₂ with heap:=hh,gens:=gg,drawn:=d,toks:=t }:=I2.call (s:=s₂) (h':=hh) (g':=gg) (d':=d) (t':=t) (ch:=fp) (I'.base.but Cn (Heap.SameBut.refl _ _)) I'.bY I'.bare (λb hb=>by
  obtain⟨_,f1,_,f3,f4,f5⟩:=f2 b hb
  exact⟨f3,f1,f4,f5⟩)
 obtain⟨m',hn,_⟩:=I'.loc
 have Qf:X.env.locals≠C:=dk (fu I2.lt hC)
 refine wpAny_assign_Name (p6 I3 hN TF (.inl hy) (v:=.ref DD) rfl (λuT I4 ⟨a,Tj,ha⟩=>?_) (.inr hy))
 have T7:C≠a:=by
  rcases ha with e | e
  ·rw[e];exact ic Qf
  ·obtain⟨v,q⟩:=I2.cell y a e
   exact qu (fu q.lt hC)
 refine⟨m',hn.sameBut Tj T7,λh3 Tn=>?_⟩
 obtain⟨TK,Qj,d4,t4,O3⟩:=uT
 have I5:Inv X pins (σ.set i (some (.ref DD))) H' { heap:=h3,gens:=Qj,drawn:=d4,toks:=t4,os:=O3 }:=
  I4.turned (s:={ heap:=TK,gens:=Qj,drawn:=d4,toks:=t4,os:=O3 }) (h':=h3) (t':=t4) (it:=C) (λb o hb e=>(Tn.2 b hb).trans e) I'.free (ic Qf) (.inr (dD I2.sz hC)) (λx c e z=>by
   obtain⟨v,q⟩:=I2.cell x c e
   exact absurd (fu q.lt hC) (by rw[z];exact jo _)) (λp hp z=>by
   have:=(I2.pin p hp).1
   rw[z,Cn]at this;cases this)
 exact⟨_,H',I5,q⟩
end
def vf(fh:Scope)(N:List Str)(scope:Scope)(idx:List Nat):Bool:=
 scope.kind == .function&&scope.names.all (λy=>y.2 != .cell)&&scope.names.all (λy=>y.2 != .local||scope.names.lookup y.1==some .local) &&
 scope.names.all (λy=>y.2 != .free||(scope.names.lookup y.1==some .free&&(fh.names.lookup y.1==some .cell||fh.names.lookup y.1==some .free))) &&
 idx.all (λi=>match N[i]? with | some y=>scope.names.lookup y==some .free | none=>false)
theorem lV{X:Cx}{scope:Scope}{xs:List Str}{idx:List Nat}{fh:Scope}{N:List Str}(h:vf fh N scope idx=true)(e1:X.env.scope=fh:=by rfl)(e2:X.N=N:=by rfl):j8 X scope xs idx:=by
 unfold vf at h
 simp only[fJ]at h
 refine hide λgG hG=>?_
 obtain⟨⟨⟨⟨h1,h2⟩,h3⟩,h4⟩,h5⟩:=h
 refine hG ?_
 refine⟨by simpa using h1,λy hy e=>?_,λy hy e=>?_,λy hy e=>?_,λi hi=>?_⟩
 ·have:=ka.mp h2 y hy
  rw[e]at this;exact absurd this (by decide)
 ·have:=ka.mp h3 y hy
  rw[e]at this;simpa using this
 ·have:=ka.mp h4 y hy
  rw[e]at this
  have t:(scope.names.lookup y.1==some NameKind.free&&(fh.names.lookup y.1==some .cell||fh.names.lookup y.1==some .free))=true:=by simpa using this
  rw[fJ,qx]at t
  refine⟨by simpa using t.1,?_⟩
  show X.env.scope.names.lookup y.1=_\/X.env.scope.names.lookup y.1=_
  rw[e1]
  exact t.2.imp (by simp) (by simp)
 ·have:=ka.mp h5 i hi
  rw[e2]
  cases e:N[i]? with
  | none=>rw[e]at this;cases this
  | some y=>rw[e]at this;exact⟨y,rfl,by simpa using this⟩
theorem w5{α:Type}(a:α)(xs:List α):lZ (a::xs) 0=some a:=cB (j:=0) rfl
theorem wZ{α:Type}(a b:α)(xs:List α):lZ (a::b::xs) 1=some b:=cB (j:=1) rfl
theorem wY{α:Type}(a b c:α)(xs:List α):lZ (a::b::c::xs) 2=some c:=cB (j:=2) rfl
theorem wX{α:Type}(a b c d:α)(xs:List α):lZ (a::b::c::d::xs) 3=some d:=cB (j:=3) rfl
theorem wW{α:Type}(a b c d e:α)(xs:List α):lZ (a::b::c::d::e::xs) 4=some e:=cB (j:=4) rfl
theorem wV{α:Type}(a b c d e f:α)(xs:List α):lZ (a::b::c::d::e::f::xs) 5=some f:=cB (j:=5) rfl
theorem rj:wB 6 1=some 1:=rfl
theorem rh:wB 6 2=some 2:=rfl
theorem rg:wB 6 3=some 3:=rfl
theorem q0:wB 6 4=some 4:=rfl
theorem qZ:wB 6 5=some 5:=rfl
theorem wK(i:Int):g6 i 48271/\g6 i 40693/\g6 i 3/\g6 i 4294967296:=⟨.inr ⟨by decide,by decide⟩,.inr ⟨by decide,by decide⟩,.inr ⟨by decide,by decide⟩,.inr ⟨by decide,by decide⟩⟩
theorem wQ(i:Int):g6 i 48271:=(wK i).1
theorem wO(i:Int):g6 i 40693:=(wK i).2.1
theorem wN(i:Int):g6 i 3:=(wK i).2.2.1
theorem wM(i:Int):g6 i 4294967296:=(wK i).2.2.2
theorem wL(i:Int):g6 5 i/\g6 3 i/\g6 7 i/\g6 10 i:=⟨.inl ⟨by decide,by decide⟩,.inl ⟨by decide,by decide⟩,.inl ⟨by decide,by decide⟩,.inl ⟨by decide,by decide⟩⟩
theorem rF(i:Int):g6 5 i:=(wL i).1
theorem rE(i:Int):g6 3 i:=(wL i).2.1
theorem rD(i:Int):g6 7 i:=(wL i).2.2.1
theorem rC(i:Int):g6 10 i:=(wL i).2.2.2
theorem rB:Jd 10 18:=⟨by decide,by decide,by decide⟩
def yH(t u:TS):TS:=λD σ H=>∃N:St->Hp->Prop,t { D with nx:=N } σ H/\∀σ' H',N σ' H'->u D σ' H'
theorem Bs{X:Cx}{st:Stmt}{rest:List Stmt}{t u:TS}(h1:PS X st t)(h2:o4 X rest u):o4 X (st::rest) (yH t u):=by
 intro pins s σ H D I ⟨N,hn,hu⟩
 refine wpAny_execs_cons (bS (h1 pins s σ H { D with nx:=N } I hn) λf s1 q=>?_)
 cases f with
 | next=>
  refine hide λgG hG=>?_
  obtain⟨σ',H',I',q⟩:=q
  refine hG ?_
  exact h2 pins s1 σ' H' D I' (hu σ' H' q)
 | ret v=>exact q
 | brk=>exact q
 | cont=>exact q
theorem z5{ns:List Int}{k:Int}(h0:0<=k)(h:k<(ns.length:Int)):∃v:Int,lZ (ns.map V.int) k=some (.int v):=by
 have hk:k.toNat<ns.length:=by lia
 have ek:k=((k.toNat:Nat):Int):=by lia
 have q:lZ (ns.map V.int) ((k.toNat:Nat):Int)=some (.int ns[k.toNat]):=cB (by rw[dR,cT hk] <;> rfl)
 rw[<-ek]at q
 exact⟨_,q⟩
theorem Gj{α:Type}{xs:List α}{k:Int}(h0:0<=k)(h:k<(xs.length:Int)):∃v,lZ xs k=some v/\xs[k.toNat]?=some v:=by
 have hk:k.toNat<xs.length:=by lia
 have ek:k=((k.toNat:Nat):Int):=by lia
 have q:lZ xs ((k.toNat:Nat):Int)=some xs[k.toNat]:=cB (cT hk)
 rw[<-ek]at q
 exact⟨_,q,cT hk⟩
section
variable {X:Cx}
theorem z7.imp{r r':R2}(h:z7 X r)(i:∀x y H Q,r' x y H Q->r x y H Q):z7 X r':=λvalue slice pins s σ H x y v u Q I rx ry q hs=>h value slice pins s σ H x y v u Q I rx ry (i _ _ _ _ q) hs
theorem cH.imp{f:Value}{r r':List V->Hp->VK->Prop}(h:cH X f r)(i:∀x H Q,r' x H Q->r x H Q):cH X f r':=λpins s σ H vs us Q I rv q=>h pins s σ H vs us Q I rv (i _ _ _ q)
theorem DP.imp{id:String}{r r':V->List V->Hp->VK->Prop}(h:DP X id r)(i:∀x xs H Q,r' x xs H Q->r x xs H Q):DP X id r':=λpins s σ H x xs v us Q I rx rv q=>h pins s σ H x xs v us Q I rx rv (i _ _ _ _ q)
theorem DN.imp{r r':V->Option Int->Option Int->Hp->VK->Prop}(h:DN X r)(i:∀x lo hi H Q,r' x lo hi H Q->r x lo hi H Q):DN X r':=λpins s σ H x v vl vu lo hi sl Q I rx hs pl pu q=>h pins s σ H x v vl vu lo hi sl Q I rx hs pl pu (i _ _ _ _ _ q)
theorem cz{K:PySem.W.Frag}{H:Hp}{a:Addr}{xs:List V}(h:H a=some (.lst xs)):mh K H a xs:=mh.of h
theorem cQ{K:PySem.W.Frag}{H:Hp}{a:Addr}{xs:List V}(h:H a=some (.tup xs)):oY K H a xs:=oY.of h
def xK:R2:=λx y H Q=>∃p i,x=.ref p/\y=.int i/\∃xs,H p=some (.lst xs)/\∃v,lZ xs i=some v/\Q v H
theorem fD:z7 X xK:=Cp.imp λx y H Q ⟨p,i,e1,e2,xs,h,v,e3,q⟩=>⟨p,xs,i,v,e1,e2,cz h,e3,q⟩
def y8:R2:=λx y H Q=>∃p i,x=.ref p/\y=.int i/\∃xs,H p=some (.tup xs)/\∃v,lZ xs i=some v/\Q v H
theorem Cm:z7 X y8:=Ft.imp λx y H Q ⟨p,i,e1,e2,xs,h,v,e3,q⟩=>⟨p,xs,i,v,e1,e2,cQ h,e3,q⟩
def y9:R2:=λx y H Q=>∃z i,x=.str z/\y=.int i/\z.length<=sizeLine/\∃c,lZ z.cps.toList i=some c/\Q (.str ⟨#[c]⟩) H
theorem Fv:z7 X y9:=Fu.imp λx y H Q ⟨z,i,e1,e2,hz,c,e3,q⟩=>⟨z,i,c,e1,e2,hz,e3,q⟩
def y3:V->Option Int->Option Int->Hp->VK->Prop:=λx lo hi H Q=>∃a,x=.ref a/\∃xs,H a=some (.lst xs)/\∀p,H p=none->Q (.ref p) (upd H p (.lst (kR xs lo hi)))
theorem xF:DN X y3:=vU.imp λx lo hi H Q ⟨a,e,xs,h,q⟩=>⟨a,xs,e,cz h,q⟩
def Bh:V->Option Int->Option Int->Hp->VK->Prop:=λx lo hi H Q=>∃a,x=.ref a/\∃xs,H a=some (.tup xs)/\¬(HT.eG xs.length 0 lo=0/\HT.eG xs.length xs.length hi=xs.length)/\∀p,H p=none->Q (.ref p) (upd H p (.tup (kR xs lo hi)))
def sI:List V->Hp->VK->Prop:=λvs H Q=>∃p,vs=[.ref p]/\∃xs,H p=some (.lst xs)/\Q (.int xs.length) H
theorem lX:cH X (.builtin "len") sI:=kW.imp λx H Q ⟨p,e,xs,h,q⟩=>⟨p,xs,e,.inl (cz h),q⟩
def sH:List V->Hp->VK->Prop:=λvs H Q=>∃p,vs=[.ref p]/\∃xs,H p=some (.tup xs)/\Q (.int xs.length) H
theorem jk:cH X (.builtin "len") sH:=kW.imp λx H Q ⟨p,e,xs,h,q⟩=>⟨p,xs,e,.inr (cQ h),q⟩
def oa:List V->Hp->VK->Prop:=λvs H Q=>∃p,vs=[.ref p]/\∃xs,H p=some (.lst xs)/\∀l,H l=none->Q (.ref l) (upd H l (.lst xs))
theorem oU:cH X (.type "list") oa:=rG.imp λx H Q ⟨p,e,xs,h,q⟩=>⟨p,xs,e,.inl (cz h),q⟩
def qI:List V->Hp->VK->Prop:=λvs H Q=>∃p,vs=[.ref p]/\∃xs,H p=some (.tup xs)/\∀l,H l=none->Q (.ref l) (upd H l (.lst xs))
def kB:List V->Hp->VK->Prop:=λvs H Q=>∃p,vs=[.ref p]/\∃xs,H p=some (.lst xs)/\∀l,H l=none->Q (.ref l) (upd H l (.tup xs))
theorem mJ:cH X (.type "tuple") kB:=pd.imp λx H Q ⟨p,e,xs,h,q⟩=>⟨p,xs,e,.inl ⟨cz h,q⟩⟩
def qJ:List V->Hp->VK->Prop:=λvs H Q=>∃a,vs=[.ref a]/\∃eM,H a=some (.dK eM)/\∀p,H p=none->Q (.ref p) (upd H p (.lst (eM.map λkv=>kV kv.1)))
def qN:List V->Hp->VK->Prop:=λvs H Q=>∃a,vs=[.ref a]/\∃eM,H a=some (.dK eM)/\∀p,H p=none->Q (.ref p) (upd H p (.dK eM))
def nh:List V->Hp->VK->Prop:=λvs H Q=>∃a,vs=[.ref a]/\∃ss:List Str,H a=some (.lst (ss.map V.str))/\ss.length<64/\
 ∀ss':List Str,ss'.Perm ss->sortedS ss'=true->∀p,H p=none->Q (.ref p) (upd H p (.lst (ss'.map V.str)))
def sJ:V->List V->Hp->VK->Prop:=λx vs H Q=>∃sep a,x=.str sep/\vs=[.ref a]/\∃ss:List Str,H a=some (.lst (ss.map V.str))/\JoinOk sep ss=true/\Q (.str (Txt.join sep ss)) H
theorem iI:DP X "str.join" sJ:=Cg.imp λx vs H Q ⟨sep,a,e1,e2,ss,h,n,q⟩=>⟨sep,a,ss,e1,e2,cz h,n,q⟩
def Bl(neg:Bool):R2:=λx y H Q=>∃p,y=.ref p/\∃xs,H p=some (.lst xs)/\kQ x=true/\xs.all kQ=true/\Q (.bl (if neg then !Jw x xs else Jw x xs)) H
def Bk(neg:Bool):R2:=λx y H Q=>∃p,y=.ref p/\∃xs,H p=some (.tup xs)/\kQ x=true/\xs.all kQ=true/\Q (.bl (if neg then !Jw x xs else Jw x xs)) H
def Bm(neg:Bool):R2:=λx y H Q=>∃a b,x=.ref a/\y=.ref b/\∃xs,H a=some (.lst xs)/\∃ys,H b=some (.lst ys)/\xs.all kQ=true/\ys.all kQ=true/\Q (.bl (if neg then !Ik xs ys else Ik xs ys)) H
def za(K:PySem.W.Frag):List V->Hp->VK->Prop:=λvs H Q=>∃x n,vs=[x,.ty n]/\∃t,gR K H x t/\∃b,PySem.W.kitOne K t (.type n)=some b/\Q (.bl b) H
theorem cP:cH X (.builtin "isinstance") (za X.K):=(zU .none).imp λx H Q ⟨y,n,e,t,ty,b,h,q⟩=>⟨y,t,b,n,e,ty,h,q⟩
def y4:V->V->V->Hp->(Hp->Prop)->Prop:=λo i v H Q=>∃p k,o=.ref p/\i=.int k/\∃xs,H p=some (.lst xs)/\∃j,wB xs.length k=some j/\Q (upd H p (.lst (xs.set j v)))
theorem jy:ym X y4:=λpins s σ H o i v ov iv u Q I ro ri rv ⟨p,k,e1,e2,xs,h,j,hj,q⟩=>set_list pins s σ H o i v ov iv u Q I ro ri rv ⟨p,xs,k,j,e1,e2,h,hj,q⟩
theorem Dz:Gp X (λo i H Q=>xK o i H Q):=by
 intro pins s σ H o i ov iv Q I ro ri h
 refine hide λgG hG=>?_
 obtain⟨p,i,rfl,rfl,xs,hp,z,he,q⟩:=h
 refine hG ?_
 cases ro
 refine hide λgG hG=>?_
 obtain⟨t,rfl⟩:=ri
 obtain⟨its,r,pl,hz⟩:=I.list (cz hp)
 obtain⟨j,h1,h2,h3,h4,h5⟩:=ny he
 obtain⟨w,ew,G6⟩:=r.get h2
 refine hG ?_
 have hl:=r.length
 have hn:=jS
 have fin:EP X pins σ Q w s:=⟨z,H,I,G6,q⟩
 by_cases h0:0<=i
 ·have hj:i.toNat=j:=by
   rw[seqIndex_of h0 h5]at h1
   exact dU h1
  exact wpAny_getItem_list pl.isList h0 (by lia) (by rw[hj];simpa using ew) fin
 ·have hj:(i+(its.toArray.size:Int)).toNat=j:=by
   rw[seqIndex_neg (by lia) h4]at h1
   rw[cU,<-hl]
   exact dU h1
  exact wpAny_getItem_list_neg pl.isList (by lia) (by rw[cU] <;> lia) (by lia) (by rw[hj];simpa using ew) fin
end
end L2
namespace L2
open PySem PySem.Spec PyProof.Rows
theorem uf{α:Type}{C:List α->Prop}(h:∀a,C [a]):∀us:List α,us.length=1->C us
 | [a],_=>h a
theorem of2{α:Type}{C:List α->Prop}(h:∀a b,C [a,b]):∀us:List α,us.length=2->C us
 | [a,b],_=>h a b
structure HC(X:Cx)(N:List Str)(sc:Scope):Prop where
 n:X.N=N
 s:X.env.scope=sc
def KR(N:List Str)(sc:Scope)(i:Nat)(x:Str):Bool:=
 N[i]? == some x&&(sc.names.lookup x==some .local||sc.names.lookup x==some .cell||sc.names.lookup x==some .free) && !(x==("__debug__" : Str)) && !(x==("__classdict__" : Str))
def Du(N:List Str)(sc:Scope)(i:Nat)(x:Str):Bool:=N[i]? == some x&&(sc.names.lookup x==some .local||sc.names.lookup x==some .cell)
def uV(N:List Str)(sc:Scope)(i:Nat)(x:Str):Bool:=N[i]? == some x&&sc.names.lookup x==some .local
def O4(sc:Scope)(x:Str):Bool:=sc.names.lookup x==some .globalImplicit
section
variable {X:Cx}{N:List Str}{sc:Scope}{x:Str}{pos:Pos}
theorem RD(hc:HC X N sc)(i:Nat)(h:KR N sc i x=true):PE X (.Name x pos) (sC i):=by
 unfold KR at h
 simp only[fJ,qx,beq_iff_eq,uk]at h
 obtain⟨⟨⟨h1,h2⟩,h3⟩,h4⟩:=h
 refine zk (by rw[hc.n];exact h1) ?_ h3 h4
 unfold GP
 rw[hc.s]
 rcases h2 with (h2 | h2) | h2
 ·exact .inl h2
 ·exact .inr (.inl h2)
 ·exact .inr (.inr h2)
theorem aX(hc:HC X N sc)(h:O4 sc x=true:=by decide +kernel):Gl X x:=by
 show X.env.scope.names.lookup x=some .globalImplicit
 rw[hc.s];simpa [O4]using h
theorem jh(hc:HC X N sc){i:Nat}(h:Du N sc i x=true):X.N[i]?=some x/\Loc X.env.scope x:=by
 unfold Du at h
 simp only[fJ,qx,beq_iff_eq]at h
 refine⟨by rw[hc.n];exact h.1,?_⟩
 unfold Loc;rw[hc.s];exact h.2
theorem fB(hc:HC X N sc){i:Nat}(h:uV N sc i x=true):X.N[i]?=some x/\X.env.scope.names.lookup x=some .local:=by
 unfold uV at h
 simp only[fJ,beq_iff_eq]at h
 exact⟨by rw[hc.n];exact h.1,by rw[hc.s];exact h.2⟩
theorem RZ(hc:HC X N sc)(nd:N.Nodup)(hf:∀x,X.fn x=true)(i:Nat)(h:Du N sc i x=true):PG X (.Name x pos) (bX i):=
 v9 (by rw[hc.n];exact nd) (jh hc h).1 (jh hc h).2 (.inl (hf x))
theorem R0(hc:HC X N sc)(nd:N.Nodup)(i:Nat)(h:uV N sc i x=true):PG X (.Name x pos) (bX i):=
 v9 (by rw[hc.n];exact nd) (fB hc h).1 (.inl (fB hc h).2) (.inr (fB hc h).2)
theorem vZ{e:Expr}{te:TE}{pos':Pos}(hc:HC X N sc)(nd:N.Nodup)(hf:∀x,X.fn x=true)(i:Nat)(h:Du N sc i x=true)(he:PE X e te)(hs:swapsWith e (some (.Name x pos')) pos.line X.env=pure false:=by rfl) :
  PS X (.Assign [.Name x pos'] e pos) (mS te (bX i)):=
 Em (by rw[hc.n];exact nd) (jh hc h).1 (jh hc h).2 he hs (.inl (hf x))
theorem Bt{e:Expr}{te:TE}{op:Operator}{ti:De}{pos':Pos}(hc:HC X N sc)(nd:N.Nodup)(hf:∀x,X.fn x=true)(i:Nat)(h:Du N sc i x=true)(he:PE X e te)(ho:Gn X op ti):PS X (.AugAssign (.Name x pos') op e pos) (uR i te ti):=
 Ep (by rw[hc.n];exact nd) (jh hc h).1 (jh hc h).2 he ho (.inl (hf x))
end
def bw(scope fh:Scope):Scope:=
 { scope with names:=scope.names.map λ(n,k)=>if (k == .free&&fh.kind == .function&&fh.names.lookup n==some .cell) then (n,.cell) else (n,k) }
theorem mD{scope fh:Scope}{env:Env}(h:env.scope=fh):relabel scope env=bw scope fh:=by
 subst h;rfl
theorem gO{X:Cx}{N:List Str}{fh scope:Scope}{xs:List Str}{idx:List Nat}(hc:HC X N fh)(c:CB):HC (g4 X scope (xs++aP X.N idx) c) (xs++aP N idx) (bw scope fh):=
 ⟨by show xs++aP X.N idx=_;rw[hc.n],mD hc.s⟩
section
variable {X:Cx}{N:List Str}{fh:Scope}{elt target iter:Expr}{ifs:List Expr}{scope:Scope}{pos spos py:Pos}{xs:List Str}{idx:List Nat}{wi:TI}{g:CB->TG}{tt:CB->TT}{te:CB->TE}
theorem sO(hc:HC X N fh)(xs:List Str)(idx:List Nat)(tJ:X.calm=true)(S:vf fh N scope idx=true)(hi:PI X target iter wi)
  (hg:∀c,HC (g4 X scope (xs++aP X.N idx) c) (xs++aP N idx) (bw scope fh)->PG (g4 X scope (xs++aP X.N idx) c) target (g c))
  (ht:∀c,HC (g4 X scope (xs++aP X.N idx) c) (xs++aP N idx) (bw scope fh)->oZ (g4 X scope (xs++aP X.N idx) c) ifs (tt c))
  (he:∀c,HC (g4 X scope (xs++aP X.N idx) c) (xs++aP N idx) (bw scope fh)->PE (g4 X scope (xs++aP X.N idx) c) elt (te c))
  (hs:∀x,foldedSetIterable iter X.env x=pure x:=by intro _;rfl):PE X (.ListComp elt [⟨target,iter,ifs,0⟩] scope pos) (kr wi xs.length idx g tt te):=
 BK tJ (lV S hc.s hc.n) hi (λc=>hg c (gO hc c)) (λc=>ht c (gO hc c)) (λc=>he c (gO hc c)) hs
theorem sN{y:Str}(hc:HC X N fh)(nd:N.Nodup)(i:Nat)(h:uV N fh i y=true)(xs:List Str)(idx:List Nat)(tJ:X.calm=true)(S:vf fh N scope idx=true)(hi:PI X target iter wi)
  (hg:∀c,HC (g4 X scope (xs++aP X.N idx) c) (xs++aP N idx) (bw scope fh)->PG (g4 X scope (xs++aP X.N idx) c) target (g c))
  (ht:∀c,HC (g4 X scope (xs++aP X.N idx) c) (xs++aP N idx) (bw scope fh)->oZ (g4 X scope (xs++aP X.N idx) c) ifs (tt c))
  (he:∀c,HC (g4 X scope (xs++aP X.N idx) c) (xs++aP N idx) (bw scope fh)->PE (g4 X scope (xs++aP X.N idx) c) elt (te c))
  (Mf:swapsWith (.ListComp elt [⟨target,iter,ifs,0⟩] scope pos) (some (.Name y py)) spos.line X.env=pure true)
  (hs:∀x,foldedSetIterable iter X.env x=pure x:=by intro _;rfl):PS X (.Assign [.Name y py] (.ListComp elt [⟨target,iter,ifs,0⟩] scope pos) spos) (mS (kr wi xs.length idx g tt te) (bX i)):=
 Bu (by rw[hc.n];exact nd) (fB hc h).1 (fB hc h).2 tJ (lV S hc.s hc.n) hi (λc=>hg c (gO hc c)) (λc=>ht c (gO hc c)) (λc=>he c (gO hc c)) Mf hs
end
end L2
namespace L2
open PySem PySem.Spec PyProof.Rows
@[irreducible] def pk (X:Cx) (st:List Stmt) (t:TS):Prop:=o4 X st t
theorem pk.to{X:Cx}{st:List Stmt}{t:TS}(h:pk X st t):o4 X st t:=by unfold pk at h;exact h
theorem pk.of{X:Cx}{st:List Stmt}{t:TS}(h:o4 X st t):pk X st t:=by unfold pk;exact h
section
variable {X:Cx}{st:Stmt}{rest:List Stmt}{t u:TS}{pos:Pos}
theorem Bf:pk X [] nR:=.of Br
theorem Be(h1:PS X st t):pk X [st] t:=.of (Bq h1)
theorem yX(h1:PS X st t)(h2:pk X rest u):pk X (st::rest) (tSeq t u):=.of (zf h1 h2.to)
theorem Bg(h1:PS X st t)(h2:pk X rest u):pk X (st::rest) (yH t u):=.of (Bs h1 h2.to)
theorem G'{c:Expr}{a b:List Stmt}{tc:TT}(hc:PT X c tc)(ha:pk X a t)(hb:pk X b u):PS X (.If c a b pos) (uQ tc t u):=Hc hc ha.to hb.to
theorem yZ{c:Expr}{body:List Stmt}{tc:TT}{tb:TS}(hp:PassesOwn (model X.prog X.w) X.A X.env X.xe)(hc:PT X c tc)(hb:pk X body tb):PS X (.While c body [] pos) (uP tc tb):=zg hp hc hb.to
theorem y0{tg iter:Expr}{body:List Stmt}{wi:TI}{g:TG}{tb:TS}(hp:PassesOwn (model X.prog X.w) X.A X.env X.xe)(hc:X.calm=true)(hi:PI X tg iter wi)(hg:PG X tg g)(hb:pk X body tb)
  (hs:∀x,foldedSetIterable iter X.env x=pure x:=by intro _;rfl):PS X (.For tg iter body [] pos) (Ao wi g tb):=Eo hp hc hi hg hb.to hs
end
theorem j5.R3{P:Program}{w:World}{K:PySem.W.Frag}{mg:Str->Option Value}{base:Heap}{x qual:Str}{st:Stmt}{f:Addr}{fd:FuncData}{N ps:List Str}{k:Nat}{sp:Sp}(F:j5 K x qual st f fd)(S:aY N ps (aj st))(len:∀vs H Q E,sp vs H Q E->vs.length=ps.length)
  (kO:∀(dh:Value) (A:Around) (outer:List Env) (s:Shared) (H:Hp) (vs:List V) (Q:VK) (E:XK),eB k (A.deeper (envOfC qual (aj st) s.heap.objs.size f dh))->sp vs H Q E->
   HC (gk jL P w K mg base N qual (aj st) f dh A outer s H E).Ac N (aj st)->(∀x,(gk jL P w K mg base N qual (aj st) f dh A outer s H E).Ac.fn x=true)->
   ∃t,pk (gk jL P w K mg base N qual (aj st) f dh A outer s H E).Ac (aV st) t/\t { nx:=λ_ H'=>Q .non H',rt:=Q } (start N vs) H):dc P w K mg base jL (k+1) f fd ps sp:=
 F.ok S len λdh A outer s H vs Q E hr h=>let ⟨t,h1,h2⟩:=kO dh A outer s H vs Q E hr h ⟨rfl,rfl⟩ λ_=>rfl;⟨t,h1.to,h2⟩
end L2
namespace L2
open PySem PySem.Spec PyProof.Rows
def rK(J:It)(g:TG)(tb:TS)(D:Ends)(σ:St)(H:Hp):Prop:=∃W:Nat->Nat->St->Hp->Prop,(∃m,W 0 m σ H)/\∀i m σ H,W i m σ H->
 (J.stop i H/\D.nx σ H)\/(J.go i H/\∃N:St->Hp->Prop,(∀σ' H',N σ' H'->∃m',m'<m/\W (i+1) m' σ' H')/\∀x H',J.vL i H x H'->g x σ H' λσ2 H2=>tb { D with nx:=N,ct:=N,bk:=D.nx } σ2 H2)
theorem m9{wi:TI}{g:TG}{tb:TS}{D:Ends}{σ:St}{H:Hp}:Ao wi g tb D σ H=wi σ H (λJ H1=>rK J g tb D σ H1):=rfl
def fk(J:It)(k:Nat)(idx:List Nat)(g:CB->TG)(tt:CB->TT)(te:CB->TE)(σ:St)(Q:VK)(H1:Hp):Prop:=∀D,H1 D=none->∃W:Nat->Nat->List V->Hp->Prop,(∃m,W 0 m [] (upd H1 D (.lst [])))/\
 ∀i m ys H',W i m ys H'->(J.stop i H'/\Q (.ref D) H')\/(J.go i H'/\∃N:List V->Hp->Prop,(∀iw jl,N iw jl->∃m',m'<m/\W (i+1) m' iw jl)/\∀(c:CB) (own:St),own.length=k->∀x H2,J.vL i H' x H2->g c x (own++aZ σ idx) H2 λσ3 H3=>
  (∃cp,cp.length=k/\σ3=cp++aZ σ idx)/\tt c σ3 H3 λb H4=>if b=true then te c σ3 H4 λy H5=>H5 D=some (.lst ys)/\ys.length<sizeLine/\N (ys++[y]) (upd H5 D (.lst (ys++[y]))) else N ys H4)
theorem ko{wi:TI}{k:Nat}{idx:List Nat}{g:CB->TG}{tt:CB->TT}{te:CB->TE}{σ:St}{H:Hp}{Q:VK}:kr wi k idx g tt te σ H Q=wi σ H (λJ H1=>fk J k idx g tt te σ Q H1):=rfl
theorem oI{lo:Int}{n:Nat}{g:TG}{tb:TS}{D:Ends}{σ:St}{H:Hp}(Pv:Nat->St->Hp->Prop)(h0:Pv 0 σ H)
  (hs:∀i σ H,i<n->Pv i σ H->g (.int (lo+i)) σ H λσ2 H2=>tb { D with nx:=Pv (i+1),ct:=Pv (i+1),bk:=D.nx } σ2 H2) (hd:∀σ H,Pv n σ H->D.nx σ H):rK (vq lo n) g tb D σ H:=yd Pv h0 hs hd
theorem tP{K:PySem.W.Frag}{a:Addr}{xs:List V}{g:TG}{tb:TS}{D:Ends}{σ:St}{H:Hp}(Pv:Nat->St->Hp->Prop)(h0:Pv 0 σ H)(hl:∀i σ H,i<=xs.length->Pv i σ H->H a=some (.lst xs))
  (hs:∀i x σ H,xs[i]?=some x->Pv i σ H->g x σ H λσ2 H2=>tb { D with nx:=Pv (i+1),ct:=Pv (i+1),bk:=D.nx } σ2 H2) (hd:∀σ H,Pv xs.length σ H->D.nx σ H):rK (vr K a) g tb D σ H:=
 zN Pv h0 (λi σ H hi p=>cz (hl i σ H hi p)) hs hd
theorem vb{K:PySem.W.Frag}{a:Addr}{xs:List V}{g:TG}{tb:TS}{D:Ends}{σ:St}{H:Hp}(Pv:Nat->St->Hp->Prop)(h0:Pv 0 σ H)(hl:∀i σ H,i<=xs.length->Pv i σ H->H a=some (.tup xs))
  (hs:∀i x σ H,xs[i]?=some x->Pv i σ H->g x σ H λσ2 H2=>tb { D with nx:=Pv (i+1),ct:=Pv (i+1),bk:=D.nx } σ2 H2) (hd:∀σ H,Pv xs.length σ H->D.nx σ H):rK (Df K a) g tb D σ H:=
 CN Pv h0 (λi σ H hi p=>cQ (hl i σ H hi p)) hs hd
theorem mH{lo:Int}{n:Nat}{idx:List Nat}{tt:CB->TT}{te:CB->TE}{σ:St}{Q:VK}{H1:Hp}(Pv:Addr->Nat->List V->Hp->Prop)(h0:∀D,H1 D=none->Pv D 0 [] (upd H1 D (.lst [])))
  (hs:∀D,H1 D=none->∀i ys H,i<n->Pv D i ys H->∀(c:CB),tt c (some (.int (lo+i))::aZ σ idx) H λb H4=>if b=true then te c (some (.int (lo+i))::aZ σ idx) H4 λy H5=>H5 D=some (.lst ys)/\ys.length<sizeLine/\Pv D (i+1) (ys++[y]) (upd H5 D (.lst (ys++[y]))) else Pv D (i+1) ys H4)
  (hd:∀D,H1 D=none->∀ys H,Pv D n ys H->Q (.ref D) H):fk (vq lo n) 1 idx (λ_=>bX 0) tt te σ Q H1:=
 λD hD=>tT (Pv D) (h0 D hD) (hs D hD) (hd D hD)
theorem kS{K:PySem.W.Frag}{a:Addr}{zs:List V}{idx:List Nat}{tt:CB->TT}{te:CB->TE}{σ:St}{Q:VK}{H1:Hp}(Pv:Addr->Nat->List V->Hp->Prop)(h0:∀D,H1 D=none->Pv D 0 [] (upd H1 D (.lst [])))
  (hl:∀D,H1 D=none->∀i ys H,i<=zs.length->Pv D i ys H->H a=some (.lst zs))
  (hs:∀D,H1 D=none->∀i x ys H,zs[i]?=some x->Pv D i ys H->∀(c:CB),tt c (some x::aZ σ idx) H λb H4=>if b=true then te c (some x::aZ σ idx) H4 λy H5=>H5 D=some (.lst ys)/\ys.length<sizeLine/\Pv D (i+1) (ys++[y]) (upd H5 D (.lst (ys++[y]))) else Pv D (i+1) ys H4)
  (hd:∀D,H1 D=none->∀ys H,Pv D zs.length ys H->Q (.ref D) H):fk (vr K a) 1 idx (λ_=>bX 0) tt te σ Q H1:=
 λD hD=>vh (Pv D) (h0 D hD) (λi ys H hi p=>cz (hl D hD i ys H hi p)) (hs D hD) (hd D hD)
end L2
namespace L2
open PySem PySem.Spec PyProof.Rows
def qB(ss:List Str):TA:=λ_ H Q=>Q (List.map V.str ss) H
structure ZE(X:Cx)(e:Expr)(t:TE):Prop where
 to:PE X e t
structure ZT(X:Cx)(e:Expr)(t:TT):Prop where
 to:PT X e t
structure ZW(X:Cx)(e:Expr)(t:TT):Prop where
 to:PW X e t
structure ZA(X:Cx)(e:List Expr)(t:TA):Prop where
 to:PA X e t
structure ZS(X:Cx)(e:Stmt)(t:TS):Prop where
 to:PS X e t
structure w6(X:Cx)(e:List Stmt)(t:TS):Prop where
 to:o4 X e t
structure ZG(X:Cx)(e:Expr)(t:TG):Prop where
 to:PG X e t
structure Dc(X:Cx)(e:List Expr)(t:TT):Prop where
 to:oZ X e t
structure ZO(X:Cx)(e:Option Expr)(t:TO):Prop where
 to:PO X e t
structure ZI(X:Cx)(tg iter:Expr)(t:TI):Prop where
 to:PI X tg iter t
theorem fV{X:Cx}{b:Bool}{j:Nat}{pos:Pos}:ZE X (Expr.Constant (Const.bool b) j pos) (tC (V.bl b)):=⟨Hh⟩
theorem ah{X:Cx}{i:Int}{j:Nat}{pos:Pos}:ZE X (Expr.Constant (Const.int i) j pos) (tC (V.int i)):=⟨Fb⟩
theorem aA{X:Cx}{x:Str}{j:Nat}{pos:Pos}:ZE X (Expr.Constant (Const.str x) j pos) (tC (V.str x)):=⟨Ew⟩
theorem Ah{X:Cx}{j:Nat}{pos:Pos}:ZE X (Expr.Constant Const.none j pos) (tC V.non):=⟨Ez⟩
theorem ak{X:Cx}{N:List Str}{sc:Scope}{x:Str}{pos:Pos}(h1:HC X N sc)(i:Nat)(h2:KR N sc i x=true:=by decide +kernel):ZE X (Expr.Name x pos) (sC i):=⟨RD h1 i h2⟩
theorem cC{X:Cx}{x:Str}{v:V}{u:Value}{pos:Pos}(h1:Gl X x)(h2:Cx.mg X x=none)(h3:bootBuiltins x=some u)(h4:RelV v u)(h5:autoParam (x≠Str.ofString "__name__") qP._auto_1)(h6:autoParam ((x==Str.ofString "__debug__")=false) qP._auto_2):ZE X (Expr.Name x pos) (tC v):=⟨qP h1 h2 h3 h4 h5 h6⟩
theorem eD{X:Cx}{es:List Expr}{t:TA}{pos:Pos}(h1:ZA X es t):ZE X (Expr.List es pos) (xu t):=⟨EY h1.to⟩
theorem gV{X:Cx}{es:List Expr}{t:TA}{pos:Pos}{x1:Nat}(h1:ZA X es t):ZE X (Expr.Tuple es x1 pos) (xl t):=⟨Eu h1.to⟩
theorem xg{X:Cx}{pos:Pos}:ZE X (Expr.Dict [] [] pos) lE:=⟨zm⟩
theorem ay{X:Cx}{a b:Expr}{ta tb:TE}{pos:Pos}{op:Operator}{r:R2}(h1:ib X (binaryOp op) r)(h2:ZE X a ta)(h3:ZE X b tb):ZE X (Expr.BinOp a op b pos) (yo r ta tb):=⟨Hf h1 h2.to h3.to⟩
theorem mZ{X:Cx}{a:Expr}{ta:TE}{pos:Pos}(h1:ZE X a ta):ZE X (Expr.UnaryOp UnaryOp.Not a pos) (pU ta):=⟨Ey h1.to⟩
theorem pJ{X:Cx}{a b c:Expr}{ta tb tc:TE}{pos:Pos}{op op':CmpOp}{r r':R2}(h1:ib X (compareOp op) r)(h2:ib X (compareOp op') r')(h3:ZE X a ta)(h4:ZE X b tb)(h5:ZE X c tc)(h6:autoParam (lastMarks [op,op'] [b,c]=false) sP._auto_1):ZE X (Expr.Compare a [op,op'] [b,c] pos) (iB r r' ta tb tc):=⟨sP h1 h2 h3.to h4.to h5.to h6⟩
theorem nJ{X:Cx}{a b:Expr}{ta tb:TE}{pos:Pos}{op:CmpOp}{r:R2}(h1:ib X (compareOp op) r)(h2:ZE X a ta)(h3:ZE X b tb)(h4:behindInMarks op b=false):ZE X (Expr.Compare a [op] [b] pos) (yo r ta tb):=⟨BL h1 h2.to h3.to h4⟩
theorem jc{X:Cx}{a:Expr}{pos:Pos}{op:BoolOp}{t:TE}(h1:ZE X a t):ZE X (Expr.BoolOp op [a] pos) t:=⟨Ex h1.to⟩
theorem eF{X:Cx}{a b:Expr}{ta tb:TE}{pos:Pos}{rest:List Expr}(h1:ZE X a ta)(h2:ZE X (Expr.BoolOp BoolOp.And (b::rest) pos) tb):ZE X (Expr.BoolOp BoolOp.And (a::b::rest) pos) (pZ ta tb):=⟨Fc h1.to h2.to⟩
theorem dH{X:Cx}:ZO X none jf:=⟨Bw⟩
theorem dG{X:Cx}{e:Expr}{te:TE}(h1:ZE X e te):ZO X (some e) (pT te):=⟨Bv h1.to⟩
theorem de{X:Cx}{e:Expr}{te:TE}{lo hi:Option Expr}{tl th:TO}{pos p2:Pos}{r:V->Option Int->Option Int->Hp->VK->Prop}(h1:DN X r)(h2:ZE X e te)(h3:ZO X lo tl)(h4:ZO X hi th):ZE X (Expr.Subscript e (Expr.Slice lo hi none p2) pos) (Gu r te tl th):=⟨zl h1 h2.to h3.to h4.to⟩
theorem bu{X:Cx}{a b:Expr}{ta tb:TE}{pos:Pos}{r:R2}(h1:z7 X r)(h2:ZE X a ta)(h3:ZE X b tb)(h4:w8 b):ZE X (Expr.Subscript a b pos) (yo r ta tb):=⟨Hg h1 h2.to h3.to h4⟩
theorem cI{X : Cx}{N : List Str}{fh : Scope}{elt target iter : Expr}{ifs : List Expr}{scope : Scope}{pos : Pos}{wi : TI}{g : CB → TG}{tt : CB → TT}{te : CB → TE}(h1 : HC X N fh)(xs : List Str)(idx : List Nat)(h2 : Cx.calm X=true)(h3 : vf fh N scope idx=true)(h4 : ZI X target iter wi)(h5 : (∀ (c : CB),
                HC (g4 X scope (xs++aP (Cx.N X) idx) c) (xs++aP N idx) (bw scope fh) →
                  ZG (g4 X scope (xs++aP (Cx.N X) idx) c) target (g c))) (h6 : (∀ (c : CB),
                  HC (g4 X scope (xs++aP (Cx.N X) idx) c) (xs++aP N idx) (bw scope fh) →
                    Dc (g4 X scope (xs++aP (Cx.N X) idx) c) ifs (tt c))) (h7 : (∀ (c : CB),
                    HC (g4 X scope (xs++aP (Cx.N X) idx) c) (xs++aP N idx) (bw scope fh) →
                      ZE (g4 X scope (xs++aP (Cx.N X) idx) c) elt (te c))) (h8 : autoParam (∀ (x : Value), foldedSetIterable iter (Cx.env X) x=pure x) sO._auto_1) : ZE X (Expr.ListComp elt [{ target := target, iter := iter, ifs := ifs, is_async := 0 }] scope pos)
                      (kr wi (List.length xs) idx g tt te) := ⟨sO h1 xs idx h2 h3 h4.to (λc z => (h5 c z).to) (λc z => (h6 c z).to) (λc z => (h7 c z).to) h8⟩
theorem ag{X:Cx}:ZA X [] xt:=⟨Fd⟩
theorem ae{X:Cx}{e:Expr}{es:List Expr}{te:TE}{t:TA}(h1:ZE X e te)(h2:ZA X es t)(h3:autoParam (starEach (e::es) (Cx.env X)=(false,eval e (Cx.env X))::starEach es (Cx.env X)) wa._auto_1):ZA X (e::es) (pW te t):=⟨wa h1.to h2.to h3⟩
theorem mQ{X:Cx}{N:List Str}{sc:Scope}{x:Str}{pos:Pos}(h1:HC X N sc)(h2:List.Nodup N)(i:Nat)(h3:uV N sc i x=true):ZG X (Expr.Name x pos) (bX i):=⟨R0 h1 h2 i h3⟩
theorem bN{X:Cx}:Dc X [] xk:=⟨zi⟩
theorem jM{X:Cx}{tg a:Expr}{ta:TA}{p pos:Pos}(h1:Gl X (Str.ofString "range"))(h2:Cx.mg X (Str.ofString "range")=none)(h3:ZA X [a] ta)(h4:autoParam (starEach [a] (Cx.env X)=[(false,eval a (Cx.env X))]) p9._auto_1):ZI X tg (Expr.Call (Expr.Name (Str.ofString "range") p) [a] [] pos) (qe ta):=⟨p9 h1 h2 h3.to h4⟩
theorem uG{X : Cx}{tg a b : Expr}{ta : TA}{p pos : Pos}(h1 : Gl X (Str.ofString "range"))(h2 : Cx.mg X (Str.ofString "range")=none)(h3 : ZA X [a, b] ta)(h4 : autoParam (starEach [a, b] (Cx.env X)=[(false, eval a (Cx.env X)), (false, eval b (Cx.env X))])
            lM._auto_1) (h5 : autoParam (starEach [b] (Cx.env X)=[(false, eval b (Cx.env X))]) lM._auto_2) : ZI X tg (Expr.Call (Expr.Name (Str.ofString "range") p) [a, b] [] pos) (qd ta) := ⟨lM h1 h2 h3.to h4 h5⟩
theorem kf{X:Cx}{tg l:Expr}{tl:TE}(h1:ZE X l tl):ZI X tg l (qf (Cx.K X) tl):=⟨By h1.to⟩
theorem jb{X:Cx}{tg l:Expr}{tl:TE}(h1:ZE X l tl):ZI X tg l (xY (Cx.K X) tl):=⟨Es h1.to⟩
theorem pI{X:Cx}{a b c:Expr}{ta tb tc:TE}{pos:Pos}{op op':CmpOp}{r r':R2}(h1:ib X (compareOp op) r)(h2:ib X (compareOp op') r')(h3:ZE X a ta)(h4:ZE X b tb)(h5:ZE X c tc)(h6:autoParam (lastMarks [op,op'] [b,c]=false) sM._auto_1):ZT X (Expr.Compare a [op,op'] [b,c] pos) (mB (iB r r' ta tb tc)):=⟨sM h1 h2 h3.to h4.to h5.to h6⟩
theorem aM{X:Cx}{a b:Expr}{ta tb:TE}{pos:Pos}{op:CmpOp}{r:R2}(h1:ib X (compareOp op) r)(h2:ZE X a ta)(h3:ZE X b tb)(h4:behindInMarks op b=false):ZT X (Expr.Compare a [op] [b] pos) (mB (yo r ta tb)):=⟨Bp h1 h2.to h3.to h4⟩
theorem bK{X:Cx}{a:Expr}{pos:Pos}{tA:TT}(h1:ZT X a tA):ZT X (Expr.UnaryOp UnaryOp.Not a pos) (xr tA):=⟨Ek h1.to⟩
theorem g8{X:Cx}{e:Expr}{t:TT}(h1:ZW X e t):ZT X e t:=⟨PW.pt h1.to⟩
theorem bZ{X:Cx}{e:Expr}{t:TE}(h1:ZE X e t)(h2:autoParam
    (∀(whole:Sem Value),
     PySem.isTrue e (Cx.env X) whole=do
      let v <-whole
      standAt (Expr.pos e)
      holding [v] (truthy v))
    zc._auto_1):ZT X e (tB t):=⟨zc h1.to h2⟩
theorem iu{X:Cx}{a:Expr}{pos:Pos}{tA:TT}(h1:ZT X a tA):ZW X (Expr.BoolOp BoolOp.And [a] pos) tA:=⟨Bo h1.to⟩
theorem gU{X:Cx}{a:Expr}{pos:Pos}{tA:TT}(h1:ZT X a tA):ZW X (Expr.BoolOp BoolOp.Or [a] pos) tA:=⟨Ei h1.to⟩
theorem ke{X:Cx}{a b:Expr}{pos:Pos}{tA Aa:TT}{rest:List Expr}(h1:ZT X a tA)(h2:ZW X (Expr.BoolOp BoolOp.And (b::rest) pos) Aa):ZW X (Expr.BoolOp BoolOp.And (a::b::rest) pos) (xA tA Aa):=⟨Ej h1.to h2.to⟩
theorem iq{X:Cx}{a b:Expr}{pos:Pos}{tA Aa:TT}{rest:List Expr}(h1:ZT X a tA)(h2:ZW X (Expr.BoolOp BoolOp.Or (b::rest) pos) Aa):ZW X (Expr.BoolOp BoolOp.Or (a::b::rest) pos) (Gv tA Aa):=⟨Hb h1.to h2.to⟩
theorem au{X : Cx}{CX : yu}{k : Nat}{f : Addr}{fd : FuncData}{ps : List Str}{sp : Sp}{zQ : List V}{ds : List Value}{E : XK}{x : Str}{p pos : Pos}{e : Expr}{es : List Expr}{t : TA}(h1 : dc (Cx.prog X) (Cx.w X) (Cx.K X) (Cx.mg X) (Cx.base X) CX k f fd ps sp)(h2 : eB k (Cx.A X))(h3 : Gl X x)(h4 : Cx.mg X x=some (Value.ref f))(h5 : W.keepIn (Cx.K X) (Value.ref f)=true)(h6 : Binds (Cx.K X) fd ps ds)(h7 : Vals zQ ds)(h8 : Passes CX X E)(h9 : ZA X (e::es) t)(Ii : autoParam ((x==Str.ofString "__debug__")=false) ni._auto_1)(Ih : autoParam (starEach (e::es) (Cx.env X)=(false, eval e (Cx.env X))::starEach es (Cx.env X))
                          ni._auto_2) (Ul : autoParam
                            ((List.any (backTo pos (starEach es (Cx.env X))) λ(x : Bool × Sem Value) => Prod.fst x) =
                              false)
                            ni._auto_3) : ZE X (Expr.Call (Expr.Name x p) (e::es) [] pos) (pX sp zQ E t) := ⟨ni h1 h2 h3 h4 h5 h6 h7 h8 h9.to Ii Ih Ul⟩
theorem bI{X : Cx}{x : Str}{p pos : Pos}{e : Expr}{es : List Expr}{t : TA}{T : String}{r : List V → Hp → VK → Prop}(h1 : cH X (Value.type T) r)(h2 : Gl X x)(h3 : Cx.mg X x=none)(h4 : bootBuiltins x=some (Value.type T))(h5 : ZA X (e::es) t)(h6 : autoParam (x ≠ Str.ofString "__name__") gM._auto_1)(h7 : autoParam ((x==Str.ofString "__debug__")=false) gM._auto_2)(h8 : autoParam (starEach (e::es) (Cx.env X)=(false, eval e (Cx.env X))::starEach es (Cx.env X))
                    gM._auto_3) (h9 : autoParam
                      ((List.any (backTo pos (starEach es (Cx.env X))) λ(x : Bool × Sem Value) => Prod.fst x) =
                        false)
                      gM._auto_4) : ZE X (Expr.Call (Expr.Name x p) (e::es) [] pos) (Dn r t) := ⟨gM h1 h2 h3 h4 h5.to h6 h7 h8 h9⟩
theorem az{X : Cx}{x : Str}{p pos : Pos}{e : Expr}{es : List Expr}{t : TA}{id : String}{r : List V → Hp → VK → Prop}(h1 : cH X (Value.builtin id) r)(h2 : Gl X x)(h3 : Cx.mg X x=none)(h4 : bootBuiltins x=some (Value.builtin id))(h5 : ZA X (e::es) t)(h6 : autoParam (x ≠ Str.ofString "__name__") iF._auto_1)(h7 : autoParam ((x==Str.ofString "__debug__")=false) iF._auto_2)(h8 : autoParam (starEach (e::es) (Cx.env X)=(false, eval e (Cx.env X))::starEach es (Cx.env X))
                    iF._auto_3) (h9 : autoParam
                      ((List.any (backTo pos (starEach es (Cx.env X))) λ(x : Bool × Sem Value) => Prod.fst x) =
                        false)
                      iF._auto_4) : ZE X (Expr.Call (Expr.Name x p) (e::es) [] pos) (Dn r t) := ⟨iF h1 h2 h3 h4 h5.to h6 h7 h8 h9⟩
theorem gW{X : Cx}{o e : Expr}{es : List Expr}{to : TE}{t : TA}{name : Str}{apos gp : Pos}{T id : String}{r : V → List V → Hp → VK → Prop}(h1 : PlainAttrs T)(h2 : Slot T name id)(h3 : typeOf (Value.builtin id)=pure (Value.type "method_descriptor"))(h4 : DP X id r)(h5 : ZE X o to)(h6 : ZA X (e::es) t)(h7 : autoParam (attributeBase o name (Cx.env X) (eval o (Cx.env X))=eval o (Cx.env X)) qa._auto_1)(h8 : autoParam
                    ((((List.all (backTo gp (starEach (e::es) (Cx.env X))) λ(x : Bool × Sem Value) =>
                            !Prod.fst x) &&
                          List.all (backToKw gp (keywordEach [] (Cx.env X))) λ(x : Option Str × Sem Value) =>
                            Option.isSome (Prod.fst x)) &&
                        decide
                          ((List.length (e::es)+List.length ([] : List Keyword)+if List.isEmpty ([] : List Keyword)=true then 0 else 1)<30)) =
                      true)
                    qa._auto_2) (h9 : autoParam ((Pos.endLine apos==Pos.line gp)=true) qa._auto_3) (Ii : autoParam (starEach (e::es) (Cx.env X)=(false, eval e (Cx.env X))::starEach es (Cx.env X))
                        qa._auto_4) (Ih : autoParam
                          ((List.any (backTo gp (starEach es (Cx.env X))) λ(x : Bool × Sem Value) => Prod.fst x) =
                            false)
                          qa._auto_5) : ZE X (Expr.Call (Expr.Attribute o name apos) (e::es) [] gp) (Gw (Cx.K X) T r to t) := ⟨qa h1 h2 h3 h4 h5.to h6.to h7 h8 h9 Ii Ih⟩
theorem aE{X:Cx}{e:Expr}{te:TE}{pos:Pos}(h1:ZE X e te):ZS X (Stmt.Return (some e) pos) (xq te):=⟨En h1.to⟩
theorem eJ{X:Cx}{e:Expr}{te:TE}{pos:Pos}(h1:ZE X e te)(h2:autoParam (swapsWith e none (Pos.line pos) (Cx.env X)=pure false) v5._auto_1):ZS X (Stmt.Expr e pos) (pV te):=⟨v5 h1.to h2⟩
theorem xf{X : Cx}{N : List Str}{fh : Scope}{elt target iter : Expr}{ifs : List Expr}{scope : Scope}{pos spos py : Pos}{wi : TI}{g : CB → TG}{tt : CB → TT}{te : CB → TE}{y : Str}(h1 : HC X N fh)(h2 : List.Nodup N)(i : Nat)(h3 : uV N fh i y=true)(xs : List Str)(idx : List Nat)(h4 : Cx.calm X=true)(h5 : vf fh N scope idx=true)(h6 : ZI X target iter wi)(h7 : (∀ (c : CB),
                      HC (g4 X scope (xs++aP (Cx.N X) idx) c) (xs++aP N idx) (bw scope fh) →
                        ZG (g4 X scope (xs++aP (Cx.N X) idx) c) target (g c))) (h8 : (∀ (c : CB),
                        HC (g4 X scope (xs++aP (Cx.N X) idx) c) (xs++aP N idx) (bw scope fh) →
                          Dc (g4 X scope (xs++aP (Cx.N X) idx) c) ifs (tt c))) (h9 : (∀ (c : CB),
                          HC (g4 X scope (xs++aP (Cx.N X) idx) c) (xs++aP N idx) (bw scope fh) →
                            ZE (g4 X scope (xs++aP (Cx.N X) idx) c) elt (te c))) (Ii : swapsWith
                              (Expr.ListComp elt [{ target := target, iter := iter, ifs := ifs, is_async := 0 }] scope
                                pos)
                              (some (Expr.Name y py)) (Pos.line spos) (Cx.env X) =
                            pure true) (Ih : autoParam (∀ (x : Value), foldedSetIterable iter (Cx.env X) x=pure x) sN._auto_1) : ZS X
                              (Stmt.Assign [Expr.Name y py]
                                (Expr.ListComp elt [{ target := target, iter := iter, ifs := ifs, is_async := 0 }] scope
                                  pos)
                                spos)
                              (mS (kr wi (List.length xs) idx g tt te) (bX i)) := ⟨sN h1 h2 i h3 xs idx h4 h5 h6.to (λc z => (h7 c z).to) (λc z => (h8 c z).to) (λc z => (h9 c z).to) Ii Ih⟩
theorem aO{X:Cx}{N:List Str}{sc:Scope}{x:Str}{pos:Pos}{e:Expr}{te:TE}{pos':Pos}(h1:HC X N sc)(h2:List.Nodup N)(h3:(∀(x:Str),Cx.fn X x=true))(i:Nat)(h4:Du N sc i x=true)(h5:ZE X e te)(h6:autoParam (swapsWith e (some (Expr.Name x pos')) (Pos.line pos) (Cx.env X)=pure false) vZ._auto_1):ZS X (Stmt.Assign [Expr.Name x pos'] e pos) (mS te (bX i)):=⟨vZ h1 h2 h3 i h4 h5.to h6⟩
theorem fL{X : Cx}{pos : Pos}{tg e : Expr}{te : TE}{g : TG}(h1 : ZE X e te)(h2 : ZG X tg g)(h3 : autoParam (swapsWithSole [tg] e (Pos.line pos) (Cx.env X)=pure false) qO._auto_1)(h4 : autoParam (swappedStores [tg] e (Cx.env X)=pure none) qO._auto_2)(h5 : autoParam
              (List.map (λ(x : Bool × (Value → Sem Unit)) => Prod.snd x) (assignEach [tg] (Cx.env X)) =
                [assign tg (Cx.env X)])
              qO._auto_3) : ZS X (Stmt.Assign [tg] e pos) (mS te g) := ⟨qO h1.to h2.to h3 h4 h5⟩
theorem fM{X : Cx}{pos : Pos}{o i : Expr}{to ti : TE}{t : vo}(h1 : ZE X o to)(h2 : ZE X i ti)(h3 : ym X t)(h4 : autoParam
            (∀ (v : Value),
              assign (Expr.Subscript o i pos) (Cx.env X) v=do
                let ov ← holding [v] (eval o (Cx.env X))
                let iv ← holding [v, ov] (eval i (Cx.env X))
                standAt pos
                holding [v, ov, iv] (setItem ov iv v)
                release [v, ov, iv] [])
            zj._auto_1) : ZG X (Expr.Subscript o i pos) (yc to ti t) := ⟨zj h1.to h2.to h3 h4⟩
theorem rY{X : Cx}{pos : Pos}{o i e : Expr}{to ti te : TE}{uO : V → V → Hp → VK → Prop}{D' : De}{uN : vo}{op : Operator}{DY : Pos}(h1 : ZE X o to)(h2 : ZE X i ti)(h3 : Gp X uO)(h4 : ZE X e te)(h5 : Gn X op D')(h6 : ym X uN)(h7 : autoParam
                  (∀ (ov iv new : Value),
                    augStore i ov iv new=do
                      holding [new, ov, iv] (setItem ov iv new)
                      release [new, ov, iv] []
                      pure Flow.next)
                  v7._auto_1) : ZS X (Stmt.AugAssign (Expr.Subscript o i DY) op e pos) (pY to ti te uO D' uN) := ⟨v7 h1.to h2.to h3 h4.to h5 h6 h7⟩
theorem yA{X:Cx}{N:List Str}{sc:Scope}{x:Str}{pos:Pos}{e:Expr}{te:TE}{op:Operator}{ti:De}{pos':Pos}(h1:HC X N sc)(h2:List.Nodup N)(h3:(∀(x:Str),Cx.fn X x=true))(i:Nat)(h4:Du N sc i x=true)(h5:ZE X e te)(h6:Gn X op ti):ZS X (Stmt.AugAssign (Expr.Name x pos') op e pos) (uR i te ti):=⟨Bt h1 h2 h3 i h4 h5.to h6⟩
theorem aW{X:Cx}{t u:TS}{pos:Pos}{c:Expr}{a b:List Stmt}{tc:TT}(h1:ZT X c tc)(h2:w6 X a t)(h3:w6 X b u):ZS X (Stmt.If c a b pos) (uQ tc t u):=⟨G' h1.to (.of h2.to) (.of h3.to)⟩
theorem xc{X:Cx}{pos:Pos}{c:Expr}{body:List Stmt}{tc:TT}{tb:TS}(h1:PassesOwn (model (Cx.prog X) (Cx.w X)) (Cx.A X) (Cx.env X) (Cx.xe X))(h2:ZT X c tc)(h3:w6 X body tb):ZS X (Stmt.While c body [] pos) (uP tc tb):=⟨yZ h1 h2.to (.of h3.to)⟩
theorem Ag{X:Cx}{N:List Str}{sc:Scope}{x:Str}{pos:Pos}(h1:HC X N sc)(h2:List.Nodup N)(h3:(∀(x:Str),Cx.fn X x=true))(i:Nat)(h4:Du N sc i x=true):ZG X (Expr.Name x pos) (bX i):=⟨RZ h1 h2 h3 i h4⟩
theorem mY{X:Cx}{pos:Pos}{tg iter:Expr}{body:List Stmt}{wi:TI}{g:TG}{tb:TS}(h1:PassesOwn (model (Cx.prog X) (Cx.w X)) (Cx.A X) (Cx.env X) (Cx.xe X))(h2:Cx.calm X=true)(h3:ZI X tg iter wi)(h4:ZG X tg g)(h5:w6 X body tb)(h6:autoParam (∀(x:Value),foldedSetIterable iter (Cx.env X) x=pure x) y0._auto_1):ZS X (Stmt.For tg iter body [] pos) (Ao wi g tb):=⟨y0 h1 h2 h3.to h4.to (.of h5.to) h6⟩
theorem aL{X:Cx}:w6 X [] nR:=⟨pk.to Bf⟩
theorem ao{X:Cx}{st:Stmt}{t:TS}(h1:ZS X st t):w6 X [st] t:=⟨pk.to (Be h1.to)⟩
theorem ai{X:Cx}{st:Stmt}{rest:List Stmt}{t u:TS}(h1:ZS X st t)(h2:w6 X rest u):w6 X (st::rest) (tSeq t u):=⟨pk.to (yX h1.to (.of h2.to))⟩
theorem ip{X:Cx}{st:Stmt}{rest:List Stmt}{t u:TS}(h1:ZS X st t)(h2:w6 X rest u):w6 X (st::rest) (yH t u):=⟨pk.to (Bg h1.to (.of h2.to))⟩
theorem j5.rL{P:Program}{w:World}{K:PySem.W.Frag}{mg:Str->Option Value}{base:Heap}{x qual:Str}{st:Stmt}{f:Addr}{fd:FuncData}{N ps:List Str}{k:Nat}{sp:Sp}(F:j5 K x qual st f fd)(S:aY N ps (aj st))(len:∀vs H Q E,sp vs H Q E->vs.length=ps.length)
  (kO:∀(dh:Value) (A:Around) (outer:List Env) (s:Shared) (H:Hp) (vs:List V) (Q:VK) (E:XK),eB k (A.deeper (envOfC qual (aj st) s.heap.objs.size f dh))->sp vs H Q E->
   HC (gk jL P w K mg base N qual (aj st) f dh A outer s H E).Ac N (aj st)->(∀x,(gk jL P w K mg base N qual (aj st) f dh A outer s H E).Ac.fn x=true)->
   ∃t,w6 (gk jL P w K mg base N qual (aj st) f dh A outer s H E).Ac (aV st) t/\t { nx:=λ_ H'=>Q .non H',rt:=Q } (start N vs) H):dc P w K mg base jL (k+1) f fd ps sp:=
 F.R3 S len λdh A outer s H vs Q E hr h hc hf=>let ⟨t,h1,h2⟩:=kO dh A outer s H vs Q E hr h hc hf;⟨t,.of h1.to,h2⟩
def Vd(w:World):Bool:=w.params.followText "set-order"
def Nt(w:World)(p:Str×Tok):Int×Value:=(hashStr w p.1,.str p.1 p.2)
def Kp(es:Array (Int×Value))(ep:Nat)(t:SetTable):Obj:={ cls:=.type "set",dict:=none,data:=.set es ep t }
structure fG(w:World)(h:Heap)(a:Addr)(l:List (Str×Tok)):Prop where
 ex:∃es ep t,h.get? a=some (Kp es ep t)/\es.toList=l.map (Nt w)/\t.fits es.size=true/\t.led = !Vd w/\(l≠[]->t.plain=false)
 nd:(l.map (·.1)).Nodup
 sz:l.length<scanBound
section
variable {P:Program}{w:World}{A:Around}{E:Value->Shared->Prop}{s:Shared}{a:Addr}{l:List (Str×Tok)}
end
theorem Inv.same{X:Cx}{pins:List (Addr×Obj)}{σ:List (Option V)}{H:Hp}{s s':Shared}(I:Inv X pins σ H s)(hh:s'.heap=s.heap)(hg:s'.gens=s.gens)(ho:s'.os=s.os):Inv X pins σ H s':=
 ⟨I.ok,by rw[ho];exact I.os,by rw[hg];exact I.bare,by rw[hh];exact I.base,by rw[hh];exact I.loc,by rw[hh];exact I.cell,I.free,I.dS,by rw[hh];exact I.pin,by rw[hh];exact I.bY,I.len⟩
def Rc(w:World)(p:Addr)(ss:List Str):HO:=.ext λh=>∃l,fG w h p l/\∀z,z∈l.map (·.1)↔z∈ss
theorem wJ(z:Str){v:Int}(h:0<=v):(oR z none (some v)).cps.toList=z.cps.toList.take v.toNat:=by
 have hl:z.cps.toList.length=z.length:=by simp[Str.length]
 unfold oR
 have e:HT.eG z.length z.length (some v)=min v.toNat z.length:=by
  show(if v<0 then _ else min v.toNat z.length)=_
  rw[aK (by lia)]
 rw[e]
 show(List.take (min v.toNat z.length-0) (List.drop 0 z.cps.toList))=_
 rw[List.drop_zero,Nat.sub_zero,<-hl]
 by_cases hv:v.toNat<=z.cps.toList.length
 ·rw[qA hv]
 ·rw[uj (by lia),vv,rV (by lia)]
theorem yf(z:Str){v:Int}(h:0<=v):(oR z (some v) none).cps.toList=z.cps.toList.drop v.toNat:=by
 have hl:z.cps.toList.length=z.length:=by simp[Str.length]
 unfold oR
 have e:HT.eG z.length 0 (some v)=min v.toNat z.length:=by
  show(if v<0 then _ else min v.toNat z.length)=_
  rw[aK (by lia)]
 rw[e]
 show(List.take (z.length-min v.toNat z.length) (List.drop (min v.toNat z.length) z.cps.toList))=_
 rw[<-hl]
 by_cases hv:v.toNat<=z.cps.toList.length
 ·rw[qA hv,rV (by rw[gH] <;> lia)]
 ·rw[uj (by lia),Nat.sub_self,List.take_zero,List.drop_eq_nil_of_le (by lia)]
theorem eH(z:Str):z.cps.toList.length=z.length:=by simp[Str.length]
theorem cS(x y:Str):(x++y).cps.toList=x.cps.toList++y.cps.toList:=by
 show(x.cps++y.cps).toList=_
 simp
theorem m6(K:PySem.W.Frag)(z:Str)(H:Hp):Ji K "str" (.str z) H=True:=eq_true rfl
section
variable {X:Cx}
def vW(w:World):List V->Hp->VK->Prop:=λvs H Q=>∃a,vs=[.ref a]/\∃ss:List Str,H a=some (.lst (ss.map V.str))/\ss.length<4000/\∀p,H p=none->Q (.ref p) (upd H p (Rc w p ss))
def kE(w:World):List V->Hp->VK->Prop:=λvs H Q=>∃a,vs=[.ref a]/\∃ss:List Str,H a=some (Rc w a ss)/\ss.length<64/\
 ∀ss':List Str,(∀z,z∈ss'↔z∈ss)->ss'.Nodup->sortedS ss'=true->∀p,H p=none->Q (.ref p) (upd H p (.lst (ss'.map V.str)))
def sL:List V->Hp->VK->Prop:=λvs H Q=>∃a,vs=[.ref a]/\∃bs:List Bool,H a=some (.lst (bs.map V.bl))/\Q (.bl (bs.all id)) H
theorem zX:∀{bs:List Bool} {us:List Value},Vals (bs.map V.bl) us->∀(i:Nat) (v:Value),us[i]?=some v->v=.bool (bs.getD i true):=by
 intro bs
 induction bs with
 | nil=>intro us r i v h;cases r;cases i <;> cases h
 | cons b bs ih=>
  intro us r i v h
  rw[gE]at r
  cases r with
  | cons r1 r2=>
   cases r1
   cases i with
   | zero=>cases h;rfl
   | succ i=>exact ih r2 i v (by simpa using h)
theorem all_range:∀(bs:List Bool),((List.range bs.length).all λi=>bs.getD i true)=bs.all id
 | []=>rfl
 | b::bs=>by
  rw[mn,List.range_succ_eq_map,List.all_cons,List.all_map,List.all_cons,<-all_range bs]
  rfl
theorem fq(hh:X.A.handled=none):cH X (.builtin "all") sL:=by
 intro pins s σ H vs us Q I rv h
 obtain⟨a,rfl,bs,hq,q⟩:=h
 obtain⟨u,rfl,ru⟩:=vals1 rv
 cases ru
 obtain⟨its,r,pl,hz⟩:=I.list (cz hq)
 have hl:=r.length
 rw[bB]at hl
 have lt:a<s.heap.objs.size:=let ⟨_,e,_⟩:=pl.isList;bL e
 refine call_all_walkS (wpAny_pyIter_list pl.isList ⟨s.heap.objs.size,_,_,_,its.toArray.size,_,_,λi=>bs.getD i true,rfl,(Walks.list (A:=X.A.in1) hh _ a (dk lt) its.toArray).toS,⟨⟨_,gI _ rfl,rfl,rfl⟩,(pl.isList).push _⟩,?_,λs' mv=>?_⟩)
 ·intro i v s1 Q1 E1 hv Tq
  have:v=.bool (bs.getD i true):=zX r i v (by simpa using hv)
  subst this
  exact cj Tq
 ·rw[cU,<-hl,all_range]
  have k:∀b o,s.heap.get? b=some o->s'.heap.get? b=some o:=λb o e=>mv.heap b o (λz=>absurd (bL e) (by rw[dE.mp z];exact jo _)) (eR _ e)
  have I1:Inv X pins σ H { s with heap:=s'.heap,toks:=s.toks }:=I.un (Un.kept k) (I.bY.kept k)
  exact⟨.bl (bs.all id),H,I1.same rfl mv.gens mv.os,rfl,q⟩
def Bn(neg:Bool):R2:=λx y H Q=>∃a b,x=.ref a/\y=.ref b/\∃eM,H a=some (.dK eM)/\H b=some (.dK eM)/\(∀kv∈eM,∃c,kv.2=.bl c)/\Q (.bl (!neg)) H
end
section
variable {X:Cx}{pins:List (Addr×Obj)}{s:Shared}{σ:St}{H:Hp}{A:Around}
theorem m4{xs:List V}{us:List Value}{j:Nat}{x:V}(r:Vals xs us)(h:j<us.toArray.size)(e:xs[j]?=some x):RelV x us.toArray[j]:=by
 have h':j<us.length:=by simpa using h
 obtain⟨u,eu,ru⟩:=r.get e
 have:=cT h'
 rw[eu]at this
 have e1:us.toArray[j]=u:=by simpa using (dU this).symm
 rw[e1];exact ru
end
def Oj(x:Str):It:=⟨λi _=>i<x.cps.size,λi H v H'=>H'=H/\∃c,x.cps[i]?=some c/\v=.str ⟨#[c]⟩,λi _=>i=x.cps.size⟩
theorem yG{P:Program}{w:World}{K:PySem.W.Frag}{tg:Expr}(it:Addr)(x:Str)(t:Tok){n:String}(hn:n = "str_ascii_iterator"\/n = "str_iterator"):Turn P w K tg (Oj x) [it] it (λi h=>h.IsStrIter it n x t i) where
 mem:=by simp
 obj:=λi h st b hb=>by
  have e:b=it:=by simpa using hb
  subst e
  obtain⟨o,e,c,d⟩:=st
  exact⟨o,e,λv z=>by rw[d]at z;cases z⟩
 keep:=λi h h' st k=>let ⟨o,ho,r⟩:=st;⟨o,k it (by simp) o ho,r⟩
 item:=by
  intro X hP hw hK hc i pins s σ H E I hf st hg
  subst hP hw hK
  obtain⟨f0,f1,f2,f3,f4,f5⟩:=hf it (by simp)
  have W:Walks X.prog X.w X.A it [it] [it] x.cps.size (SignAt x) (λi h=>h.IsStrIter it n x t i):=by
   rcases hn with rfl | rfl
   ·exact Walks.strAscii (I.ok.hd hc) it x t
   ·exact Walks.strWide (I.ok.hd hc) it x t
  refine W.item i s _ _ hg st λv h' tk hv yK kk=>?_
  obtain⟨c,u,hx,rfl⟩:=hv
  have I1:Inv X pins σ H { s with heap:=h',toks:=tk }:=I.turned (λb o hb e=>kk b o (by simpa using hb) e) f0 f1 f3 f4 f5
  obtain⟨o,e,cc,d⟩:=id yK
  exact⟨_,rfl,wD (s:={ s with heap:=h',toks:=tk }) e cc d (by rcases hn with rfl | rfl <;> decide) ⟨.str ⟨#[c]⟩,H,I1,⟨u,rfl⟩,⟨rfl,c,hx,rfl⟩,yK,λb hb=>(hf b hb).1⟩⟩
 done:=by
  intro X hP hw hK hc i pins s σ H E I hf st hg
  subst hP hw hK
  have HD:i=x.cps.size:=hg
  subst HD
  obtain⟨f0,f1,f2,f3,f4,f5⟩:=hf it (by simp)
  have W:Walks X.prog X.w X.A it [it] [it] x.cps.size (SignAt x) (λi h=>h.IsStrIter it n x t i):=by
   rcases hn with rfl | rfl
   ·exact Walks.strAscii (I.ok.hd hc) it x t
   ·exact Walks.strWide (I.ok.hd hc) it x t
  exact W.done s _ _ st λh' tk eb=>⟨rfl,I.turned (λb o hb e=>eb b o (by simpa using hb) e) f0 f1 f3 f4 f5⟩
 self:=λA i s Q E st h=>by
  rcases hn with rfl | rfl
  ·exact wpAny_pyIter_striter_ascii st h
  ·exact wpAny_pyIter_striter_wide st h
section
variable {X:Cx}{tg:Expr}
def xZ(tl:TE):TI:=λσ H R=>tl σ H λx H1=>∃z,x=.str z/\R (Oj z) H1
theorem Et{l:Expr}{tl:TE}(hl:PE X l tl):PI X tg l (xZ tl):=by
 intro pins s σ H R I h
 refine bS (hl pins s σ H _ I h) λv s1 ⟨x,H1,I1,r1,q1⟩=>?_
 obtain⟨z,e,q⟩:=q1
 subst e
 obtain⟨t,rfl⟩:=r1
 have fin:∀n,(n = "str_ascii_iterator"\/n = "str_iterator")->PIE X pins σ tg R (.ref s1.heap.objs.size) { s1 with heap:=s1.heap.push { cls:=.type n,data:=.fields #[.str z t,.int 0 0] } }:=λn hn=>by
  refine⟨s1.heap.objs.size,[s1.heap.objs.size],_,_,H1,rfl,I1.kept (t':=s1.toks) λb o e=>eR _ e,yG _ z t hn,⟨_,gI _ rfl,rfl,rfl⟩,λb hb=>?_,q⟩
  have e:b=s1.heap.objs.size:=by simpa using hb
  subst e
  exact I1.CK (cg _) (I1.bY.fresh (cg _))
 cases ha:z.cps.all (· < 128)
 ·exact wpAny_pyIter_wide ha (fin _ (.inr rfl))
 ·exact wpAny_pyIter_ascii ha (fin _ (.inl rfl))
theorem vJ{l:Expr}{tl:TE}(h1:ZE X l tl):ZI X tg l (xZ tl):=⟨Et h1.to⟩
end
theorem tU{x:Str}{idx:List Nat}{tt:CB->TT}{te:CB->TE}{σ:St}{Q:VK}{H1:Hp}(Pv:Addr->Nat->List V->Hp->Prop)(h0:∀D,H1 D=none->Pv D 0 [] (upd H1 D (.lst [])))
  (hs:∀D,H1 D=none->∀i c0 ys H,x.cps[i]?=some c0->Pv D i ys H->∀(c:CB),tt c (some (.str ⟨#[c0]⟩)::aZ σ idx) H λb H4=>if b=true then te c (some (.str ⟨#[c0]⟩)::aZ σ idx) H4 λy H5=>H5 D=some (.lst ys)/\ys.length<sizeLine/\Pv D (i+1) (ys++[y]) (upd H5 D (.lst (ys++[y]))) else Pv D (i+1) ys H4)
  (hd:∀D,H1 D=none->∀ys H,Pv D x.cps.size ys H->Q (.ref D) H):fk (Oj x) 1 idx (λ_=>bX 0) tt te σ Q H1:=by
 intro D hD
 refine⟨λi m ys H=>m=x.cps.size-i/\i<=x.cps.size/\Pv D i ys H,⟨x.cps.size,by simp,jn _,h0 D hD⟩,?_⟩
 rintro i m ys H ⟨rfl,hi,p⟩
 by_cases lT:i<x.cps.size
 ·refine .inr ⟨lT,Pv D (i+1),λiw H' p'=>⟨x.cps.size-(i+1),by omega,rfl,lT,p'⟩,λc own ho y H' yl=>?_⟩
  obtain⟨e,c0,ec,ey⟩:=yl
  subst e ey
  show(∃cp,cp.length=1/\(own++aZ σ idx).set 0 _=cp++aZ σ idx)/\tt c ((own++aZ σ idx).set 0 _) H' _
  rw[BM ho]
  exact⟨⟨[_],rfl,rfl⟩,hs D hD i c0 ys H' ec p c⟩
 ·have e:i=x.cps.size:=by omega
  subst e
  exact .inl ⟨rfl,hd D hD ys H p⟩
section
variable {X:Cx}
def m7(D:List (Str×Int))(te:TE):TE:=λσ H Q=>te σ H λy H1=>∃z,y=.str z/\Q (match KTD.datumAt z D with | some i=>.int i | none=>.non) H1
theorem eK{x:Str}{v:V}{u:Value}{pos:Pos}(hg:Gl X x)(hm:X.mg x=some u)(r:RelV v u)(hd:(x==("__debug__" : Str))=false:=by decide):ZE X (.Name x pos) (tC v):=⟨Bz hg hm r hd⟩
end
theorem iQ{K:PySem.W.Frag}{a:Addr}{zs:List V}{idx:List Nat}{tt:CB->TT}{te:CB->TE}{σ:St}{Q:VK}{H1:Hp}(Pv:Addr->Nat->List V->Hp->Prop)(h0:∀D,H1 D=none->Pv D 0 [] (upd H1 D (.lst [])))
  (hl:∀D,H1 D=none->∀i ys H,i<=zs.length->Pv D i ys H->H a=some (.tup zs))
  (hs:∀D,H1 D=none->∀i x ys H,zs[i]?=some x->Pv D i ys H->∀(c:CB),tt c (some x::aZ σ idx) H λb H4=>if b=true then te c (some x::aZ σ idx) H4 λy H5=>H5 D=some (.lst ys)/\ys.length<sizeLine/\Pv D (i+1) (ys++[y]) (upd H5 D (.lst (ys++[y]))) else Pv D (i+1) ys H4)
  (hd:∀D,H1 D=none->∀ys H,Pv D zs.length ys H->Q (.ref D) H):fk (Df K a) 1 idx (λ_=>bX 0) tt te σ Q H1:=by
 intro D hD
 refine⟨λi m ys H=>m=zs.length-i/\i<=zs.length/\Pv D i ys H,⟨zs.length,by simp,jn _,h0 D hD⟩,?_⟩
 rintro i m ys H ⟨rfl,hi,p⟩
 by_cases lT:i<zs.length
 ·refine .inr ⟨⟨zs,zs[i],cQ (hl D hD i ys H hi p),cT lT⟩,Pv D (i+1),λiw H' p'=>⟨zs.length-(i+1),by omega,rfl,lT,p'⟩,λc own ho y H' yl=>?_⟩
  obtain⟨e,hy⟩:=yl
  subst e
  have ey:=hy zs (cQ (hl D hD i ys H' hi p))
  show(∃cp,cp.length=1/\(own++aZ σ idx).set 0 _=cp++aZ σ idx)/\tt c ((own++aZ σ idx).set 0 _) H' _
  rw[BM ho]
  exact⟨⟨[_],rfl,rfl⟩,hs D hD i y ys H' ey p c⟩
 ·have e:i=zs.length:=by omega
  subst e
  exact .inl ⟨⟨zs,cQ (hl D hD _ ys H hi p),cg _⟩,hd D hD ys H p⟩
section
variable {X:Cx}
def y7:R2:=λx y H Q=>∃i,x=.str i/\∃j,y=.str j/\Q (.bl (!decide (j.cps.toList<i.cps.toList))) H
theorem jg:ib X (compareOp .LtE) y7:=by
 intro pins s σ H x y v u Q I rx ry h
 obtain⟨i,rfl,j,rfl,q⟩:=h
 obtain⟨t,rfl⟩:=rx
 obtain⟨t',rfl⟩:=ry
 exact PySem.P.le_str (bp I q rfl)
def Bj(neg:Bool):R2:=λx y H Q=>∃c d,x=.bl c/\y=.bl d/\Q (.bl (if neg then c != d else c==d)) H
def vY:R2:=λx y H Q=>∃a b,x=.ref a/\y=.ref b/\∃xs,H a=some (.tup xs)/\∃ys,H b=some (.tup ys)/\xs.length+ys.length<=sizeLine/\
 ∀p H',bA H H'->(∀c,c≠p->H' c=H c)->H' p=some (.tup (xs++ys))->Q (.ref p) H'
def Oi(lo st:Int)(n:Nat):It:=⟨λi _=>i<n,λi H x H'=>H'=H/\x=.int (lo+i*st),λi _=>n<=i⟩
def wC(ta:TA):TI:=λσ H R=>ta σ H λvs H1=>∃i j:Int,vs=[.int i,.int j,.int 2]/\(0<=i/\i<=1000/\-1<=j/\j<=1000)/\R (Oi i 2 ((j-i+1) / 2).toNat) H1
end
end L2
end
section
namespace L2
open PySem PySem.Spec PyProof.Rows Builtin Builtin.Str
section
variable {X:Cx}
theorem xB{prog:Program}{w:World}{A:Around}{E:Value->Shared->Prop}{s:Shared}{x y:Str}{t u:Tok}{Q:Value->Shared->Prop}(hy:(y.length==0)=false)(hx:x.length<=sizeLine)(hn:(partsBetween x (occurrences x y 0 x.length (x.length+1)) y.length).length<=sizeLine)
  (q:∀l tk,l.map (·.1)=Txt.split x y->Q (.ref s.heap.objs.size) { s with heap:=s.heap.push { cls:=.type "list",data:=.seq (strValues l).toArray },toks:=tk }) :
  wpAny (model prog w) A (call (.builtin "str.split") [.str x t,.str y u]) Q E s:=by
 by_cases c1:(decide (x.length<y.length)||decide (strKind x<strKind y))=true
 ·refine call_meets F.slot_str_split (lj _ _ _) F.entry_str_split (F.args_str_split_2 _ _) (meets_str_split_cannot_occur x y t u c1) ?_
  exact q [(x,t)] s.toks (by unfold Txt.split;rw[aU c1];rfl)
 ·have n1:=eq_false_of_ne_true c1
  by_cases c2:(occurrences x y 0 x.length (x.length+1)).isEmpty=true
  ·refine call_meets F.slot_str_split (lj _ _ _) F.entry_str_split (F.args_str_split_2 _ _) (meets_str_split_not_found x y t u n1 hy c2) ?_
   exact q [(x,t)] s.toks (by unfold Txt.split;rw[aK c1,aU c2];rfl)
  ·have n2:=eq_false_of_ne_true c2
   refine call_meets F.slot_str_split (lj _ _ _) F.entry_str_split (F.args_str_split_2 _ _) (meets_str_split_sep x y t u n1 hy n2 hx hn) ?_
   have:=q (numbered s.toks (partsBetween x (occurrences x y 0 x.length (x.length+1)) y.length)) (s.toks+(partsBetween x (occurrences x y 0 x.length (x.length+1)) y.length).length) (by rw[numbered_texts];unfold Txt.split;rw[aK c1,aK c2])
   rw[<-strsFrom_eq]at this
   exact this
def n8:V->List V->Hp->VK->Prop:=λx vs H Q=>∃z sep,x=.str z/\vs=[.str sep]/\(sep.length==0)=false/\z.length<=60000/\∀p,H p=none->Q (.ref p) (upd H p (.lst (List.map V.str (Txt.split z sep))))
theorem my:∀l:List (Str×Tok),Vals (List.map V.str (l.map (·.1))) (strValues l)
 | []=>.nil
 | (z,t)::l=>.cons ⟨t,rfl⟩ (my l)
theorem split_len(z sep:Str):(Txt.split z sep).length<=z.length+2:=by
 unfold Txt.split
 split
 ·show 1<=_;lia
 ·split
  ·show 1<=_;lia
  ·rw[uE]
   have h1:=StrLaws.occ_length_le_len z sep 0 z.length (z.length+1)
   have h2:∀(cuts:List Nat) (a:Nat),(StrLaws.partsFrom z sep.length a cuts).length=cuts.length+1:=by
    intro cuts
    induction cuts with
    | nil=>intro a;rfl
    | cons c r ih=>intro a;show(StrLaws.partsFrom z sep.length (c+sep.length) r).length+1=_;rw[ih];rfl
   rw[h2];lia
theorem zE:DP X "str.split" n8:=by
 intro pins s σ H x vs v us Q I rx rv h
 obtain⟨z,sep,rfl,rfl,hs,hz,q⟩:=h
 obtain⟨t,rfl⟩:=rx
 obtain⟨u,rfl,ru⟩:=rv.one
 obtain⟨t2,rfl⟩:=ru
 have big:60002<=sizeLine:=by decide
 have hp:(partsBetween z (occurrences z sep 0 z.length (z.length+1)) sep.length).length<=sizeLine:=by
  rw[uE]
  have h1:=StrLaws.occ_length_le_len z sep 0 z.length (z.length+1)
  have h2:∀(cuts:List Nat) (a:Nat),(StrLaws.partsFrom z sep.length a cuts).length=cuts.length+1:=by
   intro cuts
   induction cuts with
   | nil=>intro a;rfl
   | cons c r ih=>intro a;show(StrLaws.partsFrom z sep.length (c+sep.length) r).length+1=_;rw[ih];rfl
  rw[h2];lia
 refine xB hs (by lia) hp λl tk hl=>?_
 refine⟨.ref s.heap.objs.size,_,I.laid (t':=tk) (o:=.lst (List.map V.str (Txt.split z sep))) (λb ob q=>eR _ q) (cg _) ?_,rfl,q _ (I.bY.fresh (cg _))⟩
 refine⟨by rw[bB];have:=split_len z sep;lia,strValues l,0,by rw[<-hl];exact my l,gI _ rfl⟩
end
end L2
end
section
namespace L2
open PySem PySem.W PyProof.Rows
abbrev vm(p:Array Nat)(i:Nat):Nat:=p.getD i 0
end L2
end
section
namespace L2
open PySem PySem.Spec PySem.W PyProof.Rows Builtin
def bF(H:Hp)(bs:List Addr)(ts:List (List Int)):Prop:=bs.length=ts.length/\∀(i:Nat) b t,bs[i]?=some b->ts[i]?=some t->H b=some (.tup (List.map V.int t))
section
variable {X:Cx}
def Je(i j:Int):Prop:=0<j/\j<2 ^ 300
theorem sQ:ib X (binaryOp .FloorDiv) (rI Je λi j=>.int (i / j)):=Jr λi j _ _ _ _ _ hc q=>by
 have h1:(0:Int)<j:=hc.1
 have h2:j<2 ^ 300:=hc.2
 refine floordiv_int (by omega) (by rw[Int.fdiv_eq_ediv_of_nonneg i (by omega)];exact q) (.inl (PyProof.noPylong_of_log2 ?_))
 have h3:j.natAbs<2 ^ 300:=by omega
 have h4:j.natAbs≠0:=by omega
 have:=(Nat.log2_lt h4).mpr h3
 omega
variable {k:Nat}{f:Addr}{fd:FuncData}{pm g:Str}{e:Expr}{te:TE}{p kp S3 pos:Pos}
def Bd:V->List V->Hp->VK->Prop:=λx vs H Q=>∃l i y,x=.ref l/\vs=[.int i,y]/\∃xs,H l=some (.lst xs)/\0<=i/\i<=xs.length/\xs.length<100000/\Q .non (upd H l (.lst (xs.take i.toNat++y::xs.drop i.toNat)))
end
end L2
namespace L2
open PySem PySem.Spec PySem.W PyProof.Rows Builtin
end L2
end
section
namespace L2
open PySem PySem.Spec PyProof.Rows
theorem la{α:Type} [DecidableEq α] {cl dl:List α}:((List.range (min cl.length dl.length)).all (λj=>decide (cl[j]?=dl[j]?))&&cl.length==dl.length)=decide (cl=dl):=by
 rw[nD,fJ,ka,decide_eq_true_iff,beq_iff_eq]
 constructor
 ·rintro⟨h,l⟩
  apply List.ext_getElem?
  intro i
  by_cases hi:i<cl.length
  ·exact of_decide_eq_true (h i (qw.mpr (by lia)))
  ·rw[vG (by lia),vG (by lia)]
 ·rintro rfl
  exact⟨λj _=>decide_eq_true rfl,rfl⟩
theorem tD:∀{x y:List Int},List.map V.int x=List.map V.int y->x=y
 | [],[],_=>rfl
 | [],_::_,h=>by cases h
 | _::_,[],h=>by cases h
 | a::x,b::y,h=>by
  rw[gE,gE]at h
  injection h with h1 h2
  rw[V.int.inj h1,tD h2]
section
variable {X:Cx}{pins:List (Addr×Obj)}{s:Shared}{σ:St}{H:Hp}{A:Around}
theorem g0{x y:List Int}{us ws:List Value}(r1:Vals (List.map V.int x) us)(r2:Vals (List.map V.int y) ws)(j:Nat)(h1:j<us.toArray.size)(h2:j<ws.toArray.size) :
  SeqAt.EqAt A s us.toArray[j] ws.toArray[j] (decide (x[j]?=y[j]?)):=by
 have l1:=r1.length
 have l2:=r2.length
 rw[bB]at l1 l2
 have j1:j<x.length:=by rw[l1];simpa using h1
 have j2:j<y.length:=by rw[l2];simpa using h2
 have e1:x[j]?=some x[j]:=cT j1
 have e2:y[j]?=some y[j]:=cT j2
 have h:=Gf (A:=A) (s:=s) (m4 (x:=.int x[j]) r1 h1 (by rw[dR,e1];rfl)) (m4 (x:=.int y[j]) r2 h2 (by rw[dR,e2];rfl)) rfl rfl
 have e3:JQ (.int x[j]) (.int y[j])=decide (x[j]?=y[j]?):=by
  rw[e1,e2,nD,decide_eq_true_iff,ur]
  show(x[j]==y[j])=true↔_
  rw[beq_iff_eq]
 rw[e3]at h
 exact h
theorem Ge{p q:Addr}{x y:List Int}(I:Inv X pins σ H s)(hp:H p=some (.tup (List.map V.int x)))(hq:H q=some (.tup (List.map V.int y)))(hu:A.units<cLine):SeqAt.EqAt A s (.ref p) (.ref q) (decide (x=y)):=by
 by_cases e:p=q
 ·subst e
  have:x=y:=by
   have h:=hp.symm.trans hq
   simp only[ur,HO.tup.injEq]at h
   exact tD h
  rw[decide_eq_true this]
  exact SeqAt.EqAt.same _
 ·obtain⟨us,r1,t1,_⟩:=I.tuple (cQ hp)
  obtain⟨ws,r2,t2,_⟩:=I.tuple (cQ hq)
  have l1:=r1.length
  have l2:=r2.length
  rw[bB]at l1 l2
  have h:=SeqAt.RcAt.tuples (A:=A) (e:=λj=>decide (x[j]?=y[j]?)) t1 t2 hu λj h1 h2=>g0 r1 r2 j h1 h2
  rw[cU,cU,<-l1,<-l2,la]at h
  exact .of_refs e h
theorem rz{ps qs:List Addr}{us ws:List Value}{cl dl:List (List Int)}(I:Inv X pins σ H s)(r1:Vals (List.map V.ref ps) us)(r2:Vals (List.map V.ref qs) ws)(a:bF H ps cl)(b:bF H qs dl)(hu:A.units<cLine)(j:Nat)(h1:j<us.toArray.size)(h2:j<ws.toArray.size) :
  SeqAt.EqAt A s us.toArray[j] ws.toArray[j] (decide (cl[j]?=dl[j]?)):=by
 have l1:=r1.length
 have l2:=r2.length
 rw[bB]at l1 l2
 have j1:j<ps.length:=by rw[l1];simpa using h1
 have j2:j<qs.length:=by rw[l2];simpa using h2
 have e1:ps[j]?=some ps[j]:=cT j1
 have e2:qs[j]?=some qs[j]:=cT j2
 have k1:j<cl.length:=by rw[<-a.1];exact j1
 have k2:j<dl.length:=by rw[<-b.1];exact j2
 have c1:cl[j]?=some cl[j]:=cT k1
 have c2:dl[j]?=some dl[j]:=cT k2
 have v1:us.toArray[j]=.ref ps[j]:=m4 (x:=.ref ps[j]) r1 h1 (by rw[dR,e1];rfl)
 have v2:ws.toArray[j]=.ref qs[j]:=m4 (x:=.ref qs[j]) r2 h2 (by rw[dR,e2];rfl)
 have:=Ge (A:=A) I (a.2 j _ _ e1 c1) (b.2 j _ _ e2 c2) hu
 rw[v1,v2,c1,c2]
 have e3:decide ((some cl[j]:Option (List Int))=some dl[j])=decide (cl[j]=dl[j]):=by simp only[ur]
 rw[e3];exact this
def Dq(neg:Bool):R2:=λx y H Q=>∃a b,x=.ref a/\y=.ref b/\∃u v:List Int,H a=some (.tup (List.map V.int u))/\H b=some (.tup (List.map V.int v))/\Q (.bl (if neg then !decide (u=v) else decide (u=v))) H
theorem wg(hu:X.A.units+1<cLine):ib X (compareOp .Eq) (Dq false):=by
 intro pins s σ H x y v u Q I rx ry h
 obtain⟨a,b,rfl,rfl,cl,dl,h1,h2,q⟩:=h
 cases rx;cases ry
 obtain⟨us,r1,t1,_⟩:=I.tuple (cQ h1)
 obtain⟨ws,r2,t2,_⟩:=I.tuple (cQ h2)
 have l1:=r1.length
 have l2:=r2.length
 rw[bB]at l1 l2
 refine SeqAt.eq_tupleAt (e:=λj=>decide (cl[j]?=dl[j]?)) t1 t2 (by lia) (λj h1 h2=>g0 r1 r2 j h1 h2) ⟨.bl _,H,I,rfl,?_⟩
 rw[cU,cU,<-l1,<-l2,la]
 exact q
theorem BP(hu:X.A.units+1<cLine):ib X (compareOp .NotEq) (Dq true):=by
 intro pins s σ H x y v u Q I rx ry h
 obtain⟨a,b,rfl,rfl,cl,dl,h1,h2,q⟩:=h
 cases rx;cases ry
 obtain⟨us,r1,t1,_⟩:=I.tuple (cQ h1)
 obtain⟨ws,r2,t2,_⟩:=I.tuple (cQ h2)
 have l1:=r1.length
 have l2:=r2.length
 rw[bB]at l1 l2
 refine SeqAt.RcNeAt.tuples (e:=λj=>decide (cl[j]?=dl[j]?)) t1 t2 (by lia) (λj h1 h2=>g0 r1 r2 j h1 h2) _ _ _ _ ⟨.bl _,H,I,rfl,?_⟩
 rw[cU,cU,<-l1,<-l2,la]
 exact q
def Ha(neg:Bool):R2:=λx y H Q=>∃a b,x=.ref a/\y=.ref b/\∃ps qs cl dl,H a=some (.lst (List.map V.ref ps))/\H b=some (.lst (List.map V.ref qs))/\bF H ps cl/\bF H qs dl/\Q (.bl (if neg then !decide (cl=dl) else decide (cl=dl))) H
theorem BR(hu:X.A.units+1<cLine):ib X (compareOp .NotEq) (Ha true):=by
 intro pins s σ H x y v u Q I rx ry h
 obtain⟨a,b,rfl,rfl,ps,qs,cl,dl,h1,h2,a1,a2,q⟩:=h
 cases rx;cases ry
 obtain⟨us,r1,t1,_⟩:=I.list (cz h1)
 obtain⟨ws,r2,t2,_⟩:=I.list (cz h2)
 have l1:=r1.length
 have l2:=r2.length
 rw[bB]at l1 l2
 by_cases hl:cl.length=dl.length
 ·refine SeqAt.RcNeAt.lists (e:=λj=>decide (cl[j]?=dl[j]?)) t1.isList t2.isList (by rw[cU,cU,<-l1,<-l2,a1.1,a2.1,hl]) (by lia) (λj h1 h2=>rz I r1 r2 a1 a2 (by rw[Around.in1_units];lia) j h1 h2) _ _ _ _ ⟨.bl _,H,I,rfl,?_⟩
  have e:=la (cl:=cl) (dl:=dl)
  rw[hl,Nat.min_self,nG,Bool.and_true]at e
  rw[cU,<-l1,a1.1,hl,e]
  exact q
 ·refine SeqAt.RcNeAt.lists_lengths t1.isList t2.isList (by rw[cU,cU,<-l1,<-l2,a1.1,a2.1];simpa using hl) (by lia) _ _ _ _ ⟨.bl _,H,I,rfl,?_⟩
  have e:decide (cl=dl)=false:=decide_eq_false λz=>hl (by rw[z])
  have q':Q (.bl (!decide (cl=dl))) H:=q
  rw[e]at q'
  exact q'
theorem xT:Rf X "list.insert" Bd:=by
 intro pins s σ H x vs v us Q I rx rv h
 obtain⟨l,i,y,rfl,rfl,xs,hH,h0,h1,h2,q⟩:=h
 cases rx
 cases rv with
 | cons ri rr=>
  obtain⟨u,rfl,ru⟩:=Vals.one rr
  obtain⟨t,rfl⟩:=ri
  obtain⟨z,its,n,r,hl,e⟩:=I.Cj hH
  have hlen:=r.length
  refine call_meets F.slot_list_insert ⟨_,e,rfl⟩ F.entry_list_insert (F.args_list_insert_3 _ _ _)
   (AutoSeq1.list_insert_list_int_val_1 l its.toArray n i t u (by rw[fitsIndex_both (by lia) (by lia)];decide) (by rw[cU];lia)) ⟨e,?_⟩
  refine⟨.non,_,I.Hq (its':=its.take i.toNat++u::its.drop i.toNat) hH e ?_ ((r.take _).append (.cons ru (r.drop _))) ?_,rfl,q⟩
  ·show(its.toArray.extract 0 (if i<0 then (i+((its.toArray.size:Nat):Int)).toNat else min i.toNat its.toArray.size)).push u++its.toArray.extract (if i<0 then (i+((its.toArray.size:Nat):Int)).toNat else min i.toNat its.toArray.size)=_
   rw[aK (by lia),qA (by rw[cU];lia)]
   apply lA
   simp
   exact rV (by rw[gH];lia)
  ·simp
   have:sizeLine>=100001:=by decide
   lia
end
def hJ(c:Nat):List (List Nat)->List Nat
 | []=>[]
 | [x]=>x
 | x::y::r=>x++c::hJ c (y::r)
theorem kL(c:Nat):∀ss:List Str,(Str.join ⟨#[c]⟩ ss).cps.toList=hJ c (ss.map λz=>z.cps.toList)
 | []=>rfl
 | [x]=>rfl
 | x::y::r=>by
  show(x++(⟨#[c]⟩:Str)++Str.join ⟨#[c]⟩ (y::r)).cps.toList=_
  rw[cS,cS,kL c (y::r)]
  show(x.cps.toList++[c])++hJ c (y.cps.toList::r.map λz=>z.cps.toList)=x.cps.toList++c::hJ c (y.cps.toList::r.map λz=>z.cps.toList)
  simp
theorem tH{c:Nat}:∀{a b u v:List Nat},c∉a->c∉b->a++c::u=b++c::v->a=b/\u=v
 | [],[],u,v,_,_,h=>by
  injection h with _ h2
  exact⟨rfl,h2⟩
 | [],y::b,u,v,_,hb,h=>by
  injection h with h1 _
  exact absurd (by rw[h1];exact fw) hb
 | x::a,[],u,v,ha,_,h=>by
  injection h with h1 _
  exact absurd (by rw[h1];exact fw) ha
 | x::a,y::b,u,v,ha,hb,h=>by
  injection h with h1 h2
  obtain⟨e1,e2⟩:=tH (λz=>ha (fz _ z)) (λz=>hb (fz _ z)) h2
  exact⟨by rw[h1,e1],e2⟩
theorem qc{c:Nat}:∀{as bs:List (List Nat)},as≠[]->bs≠[]->(∀a∈as,c∉a)->(∀b∈bs,c∉b)->hJ c as=hJ c bs->as=bs
 | [],_,h,_,_,_,_=>absurd rfl h
 | _::_,[],_,h,_,_,_=>absurd rfl h
 | [a],[b],_,_,_,_,h=>by rw[show a=b from h]
 | [a],b::b2::r,_,_,ha,_,h=>by
  have h':a=b++c::hJ c (b2::r):=h
  exact absurd (by rw[h'];simp) (ha a fw)
 | a::a2::r,[b],_,_,_,hb,h=>by
  have h':a++c::hJ c (a2::r)=b:=h
  exact absurd (by rw[<-h'];simp) (hb b fw)
 | a::a2::r,b::b2::q,_,_,ha,hb,h=>by
  have h':a++c::hJ c (a2::r)=b++c::hJ c (b2::q):=h
  obtain⟨e1,e2⟩:=tH (ha a fw) (hb b fw) h'
  rw[e1,qc (by simp) (by simp) (λz hz=>ha z (fz _ hz)) (λz hz=>hb z (fz _ hz)) e2]
theorem nV(z sep:Str):Txt.split z sep≠[]:=by
 unfold Txt.split
 split
 ·simp
 ·split
  ·simp
  ·rw[uE]
   generalize Builtin.Str.occurrences z sep 0 z.length (z.length+1)=cuts
   cases cuts with
   | nil=>intro h;cases h
   | cons a r=>intro h;cases h
theorem uS{c:Nat}{ws:List Str}(h0:ws≠[])(h:∀w∈ws,c∉w.cps.toList):Txt.split (Txt.join ⟨#[c]⟩ ws) ⟨#[c]⟩=ws:=by
 have e:Str.join ⟨#[c]⟩ (Txt.split (Txt.join ⟨#[c]⟩ ws) ⟨#[c]⟩)=Str.join ⟨#[c]⟩ ws:=by
  rw[StrLaws.join_split];exact nI _ _
 have e2:=cR (λz:Str=>z.cps.toList) e
 rw[kL,kL]at e2
 have inj:=qc (c:=c) (by simpa using nV _ _) (by simpa using h0) (λa ha=>?_) (λb hb=>?_) e2
 ·refine(vA (λa b JG=>?_)).mp inj
  cases a;cases b
  congr 1
  exact lA JG
 ·obtain⟨p,hp,rfl⟩:=pA.mp ha
  exact StrLaws.split_free _ _ p hp
 ·obtain⟨p,hp,rfl⟩:=pA.mp hb
  exact h p hp
theorem tq{sep:Str}:∀{a b:List Str},a≠[]->b≠[]->Txt.join sep (a++b)=Txt.join sep [Txt.join sep a,Txt.join sep b]:=by
 intro a b ha hb
 show Builtin.Str.glued sep (a++b)=Builtin.Str.glued sep [Builtin.Str.glued sep a,Builtin.Str.glued sep b]
 simp only[nI]
 have assoc:∀x y z:Str,x++y++z=x++(y++z):=λx y z=>by
  cases x;cases y;cases z
  show(⟨_++_++_⟩:Str)=⟨_++(_++_)⟩
  rw[uw]
 induction a with
 | nil=>exact absurd rfl ha
 | cons x r ih=>
  cases r with
  | nil=>
   cases b with
   | nil=>exact absurd rfl hb
   | cons y q=>rfl
  | cons x2 r=>
   have:=ih (by simp)
   show x++sep++Str.join sep (x2::r++b)=(x++sep++Str.join sep (x2::r))++sep++Str.join sep b
   rw[this]
   show x++sep++(Str.join sep (x2::r)++sep++Str.join sep b)=_
   simp only[assoc]
def Vz(K : PySem.W.Frag)(a b : Addr)(n : Nat) : It :=
  ⟨λi H => i<n ∧ ∃ xs ys, oY K H a xs ∧ oY K H b ys ∧ xs.length=n ∧ ys.length=n,
   λi H v H' => ∃ p, H p=none ∧ v=.ref p ∧ ∀ xs ys, oY K H a xs → oY K H b ys → ∃ x y, xs[i]?=some x ∧ ys[i]?=some y ∧ H'=upd H p (.tup [x, y]),
   λi H => i=n ∧ ∃ xs, oY K H a xs ∧ xs.length=n⟩
section
variable {X:Cx}
def Cr(K:PySem.W.Frag)(ta:TA):TI:=λσ H R=>ta σ H λvs H1=>∃a b,vs=[.ref a,.ref b]/\∃xs ys,oY K H1 a xs/\oY K H1 b ys/\xs.length=ys.length/\R (Vz K a b xs.length) H1
end
section
variable {P:Program}{w:World}{A:Around}{E:Value->Shared->Prop}{s:Shared}{a:Addr}{l:List (Int×Tok)}
end
end L2
end
section
namespace HT
open PySem PyProof.Rows L2
end HT
namespace L2
open PySem PySem.Spec PyProof.Rows
def jZ{δ:Type}(Rep:Hp->V->δ->Prop)(H:Hp)(vs:List V)(ds:List δ):Prop:=vs.length=ds.length/\∀(i:Nat) v d,vs[i]?=some v->ds[i]?=some d->Rep H v d
theorem jZ.nil{δ:Type}{Rep:Hp->V->δ->Prop}{H:Hp}:jZ Rep H [] []:=⟨rfl,λi v d h=>by simp at h⟩
theorem jZ.snoc{δ:Type}{Rep:Hp->V->δ->Prop}{H:Hp}{vs:List V}{ds:List δ}{v:V}{d:δ}(h:jZ Rep H vs ds)(hv:Rep H v d):jZ Rep H (vs++[v]) (ds++[d]):=by
 refine⟨by rw[ft,ft,h.1];rfl,λi u e hu he=>?_⟩
 have hl:=h.1
 by_cases hi:i<vs.length
 ·rw[mw hi]at hu
  rw[mw (by lia)]at he
  exact h.2 i u e hu he
 ·rw[kc (by lia)]at hu
  rw[kc (by lia),<-hl]at he
  have h0:i-vs.length=0:=by
   cases z:i-vs.length with
   | zero=>rfl
   | succ n=>rw[z]at hu;simp at hu
  rw[h0]at hu he
  cases hu;cases he
  exact hv
theorem jZ.mono{δ:Type}{Rep:Hp->V->δ->Prop}{H H':Hp}{vs:List V}{ds:List δ}(k:∀v d,Rep H v d->Rep H' v d)(h:jZ Rep H vs ds):jZ Rep H' vs ds:=⟨h.1,λi v d a b=>k v d (h.2 i v d a b)⟩
theorem km{δ:Type}(f:Nat->Option δ)(i:Nat):(List.range (i+1)).filterMap f=(List.range i).filterMap f++(f i).toList:=by
 rw[List.range_succ,List.filterMap_append]
 cases e:f i <;> simp[e]
theorem zO{δ:Type}(f:Nat->Option δ)(i:Nat):((List.range i).filterMap f).length<=i:=dD (List.length_filterMap_le _ _) (by rw[uo];exact cg _)
theorem vi{K:PySem.W.Frag}{a:Addr}{zs:List V}{idx:List Nat}{tt:CB->TT}{te:CB->TE}{σ:St}{Q:VK}{H1:Hp}{δ:Type}(S:Hp->Hp->Prop)(f:Nat->Option δ)(Rep:Addr->Hp->V->δ->Prop)(sr:S H1 H1)(st:∀H H',S H1 H->S H H'->S H1 H')
  (sp:∀D H o,H1 D=none->S H1 H->S H1 (upd H D o)) (sk:∀D H H' o,H1 D=none->S H1 H->S H H'->H D=some o->H' D=some o)
  (mono:∀D H H' v d,S H1 H->S H H'->Rep D H v d->Rep D H' v d) (uY:∀D H o v d,H1 D=none->S H1 H->(∃xs,H D=some (.lst xs))->Rep D H v d->Rep D (upd H D o) v d)
  (hL:∀H,S H1 H->H a=some (.lst zs)) (l9:zs.length<=900000)
  (hs:∀(D:Addr) (c:CB) (H:Hp) (i:Nat) (z:V) (yes:V->Hp->Prop) (no:Hp->Prop),zs[i]?=some z->S H1 H->H1 D=none->(∃xs,H D=some (.lst xs))->(∀d,f i=some d->∀v H',S H H'->Rep D H' v d->yes v H')->(f i=none->∀H',S H H'->no H')->tt c (some (z)::aZ σ idx) H λb H4=>if b=true then te c (some (z)::aZ σ idx) H4 yes else no H4)
  (q:∀D H' vs,S H1 H'->H1 D=none->H' D=some (.lst vs)->jZ (Rep D) H' vs ((List.range (zs.length)).filterMap f)->Q (.ref D) H'):fk (vr K a) 1 idx (λ_=>bX 0) tt te σ Q H1:=by
 obtain⟨Pc,ia⟩:∃Pc:Addr->Nat->List V->Hp->Prop,∀Z i ys H',Pc Z i ys H'↔S H1 H'/\H' Z=some (.lst ys)/\jZ (Rep Z) H' ys ((List.range i).filterMap f):=⟨_,λ_ _ _ _=>fc⟩
 refine kS Pc (λZ hZ=>(ia _ _ _ _).mpr ⟨sp Z _ _ hZ sr,aq,.nil⟩) (λZ hZ i ys H' _ pv=>hL H' ((ia _ _ _ _).mp pv).1) (λZ hZ i z ys H' hz pv cb=>?_) (λZ hZ ys H' pv=>?_)
 ·obtain⟨s1,kP,rl⟩:=(ia _ _ _ _).mp pv
  have hi:i<zs.length:=(fK.mp hz).1
  refine hs Z cb H' i z _ _ hz s1 hZ ⟨_,kP⟩ (λd hd v H2 s2 hv=>?_) (λhn H2 s2=>?_)
  ·refine⟨sk Z _ _ _ hZ s1 s2 kP,?_,(ia _ _ _ _).mpr ⟨sp Z _ _ hZ (st _ _ s1 s2),aq,?_⟩⟩
   ·rw[rl.1]
    have:=zO f i
    exact vB (by lia:((List.range i).filterMap f).length<=1000000) (by decide)
   ·rw[km,hd]
    exact(((rl.mono λv d=>mono Z _ _ v d s1 s2)).snoc hv).mono λv d=>uY Z H2 _ v d hZ (st _ _ s1 s2) ⟨_,sk Z _ _ _ hZ s1 s2 kP⟩
  ·refine(ia _ _ _ _).mpr ⟨st _ _ s1 s2,sk Z _ _ _ hZ s1 s2 kP,?_⟩
   rw[km,hn,Option.toList_none,nE]
   exact rl.mono λv d=>mono Z _ _ v d s1 s2
 ·obtain⟨s1,kP,rl⟩:=(ia _ _ _ _).mp pv
  exact q Z H' ys s1 hZ kP rl
theorem yi{K:PySem.W.Frag}{a:Addr}{zs:List V}{idx:List Nat}{tt:CB->TT}{te:CB->TE}{σ:St}{Q:VK}{H1:Hp}{δ:Type}(S:Hp->Hp->Prop)(f:Nat->Option δ)(Rep:Addr->Hp->V->δ->Prop)(sr:S H1 H1)(st:∀H H',S H1 H->S H H'->S H1 H')
  (sp:∀D H o,H1 D=none->S H1 H->S H1 (upd H D o)) (sk:∀D H H' o,H1 D=none->S H1 H->S H H'->H D=some o->H' D=some o)
  (mono:∀D H H' v d,S H1 H->S H H'->Rep D H v d->Rep D H' v d) (uY:∀D H o v d,H1 D=none->S H1 H->(∃xs,H D=some (.lst xs))->Rep D H v d->Rep D (upd H D o) v d)
  (hL:∀H,S H1 H->H a=some (.tup zs)) (l9:zs.length<=900000)
  (hs:∀(D:Addr) (c:CB) (H:Hp) (i:Nat) (z:V) (yes:V->Hp->Prop) (no:Hp->Prop),zs[i]?=some z->S H1 H->H1 D=none->(∃xs,H D=some (.lst xs))->(∀d,f i=some d->∀v H',S H H'->Rep D H' v d->yes v H')->(f i=none->∀H',S H H'->no H')->tt c (some (z)::aZ σ idx) H λb H4=>if b=true then te c (some (z)::aZ σ idx) H4 yes else no H4)
  (q:∀D H' vs,S H1 H'->H1 D=none->H' D=some (.lst vs)->jZ (Rep D) H' vs ((List.range (zs.length)).filterMap f)->Q (.ref D) H'):fk (Df K a) 1 idx (λ_=>bX 0) tt te σ Q H1:=by
 obtain⟨Pc,ia⟩:∃Pc:Addr->Nat->List V->Hp->Prop,∀Z i ys H',Pc Z i ys H'↔S H1 H'/\H' Z=some (.lst ys)/\jZ (Rep Z) H' ys ((List.range i).filterMap f):=⟨_,λ_ _ _ _=>fc⟩
 refine iQ Pc (λZ hZ=>(ia _ _ _ _).mpr ⟨sp Z _ _ hZ sr,aq,.nil⟩) (λZ hZ i ys H' _ pv=>hL H' ((ia _ _ _ _).mp pv).1) (λZ hZ i z ys H' hz pv cb=>?_) (λZ hZ ys H' pv=>?_)
 ·obtain⟨s1,kP,rl⟩:=(ia _ _ _ _).mp pv
  have hi:i<zs.length:=(fK.mp hz).1
  refine hs Z cb H' i z _ _ hz s1 hZ ⟨_,kP⟩ (λd hd v H2 s2 hv=>?_) (λhn H2 s2=>?_)
  ·refine⟨sk Z _ _ _ hZ s1 s2 kP,?_,(ia _ _ _ _).mpr ⟨sp Z _ _ hZ (st _ _ s1 s2),aq,?_⟩⟩
   ·rw[rl.1]
    have:=zO f i
    exact vB (by lia:((List.range i).filterMap f).length<=1000000) (by decide)
   ·rw[km,hd]
    exact(((rl.mono λv d=>mono Z _ _ v d s1 s2)).snoc hv).mono λv d=>uY Z H2 _ v d hZ (st _ _ s1 s2) ⟨_,sk Z _ _ _ hZ s1 s2 kP⟩
  ·refine(ia _ _ _ _).mpr ⟨st _ _ s1 s2,sk Z _ _ _ hZ s1 s2 kP,?_⟩
   rw[km,hn,Option.toList_none,nE]
   exact rl.mono λv d=>mono Z _ _ v d s1 s2
 ·obtain⟨s1,kP,rl⟩:=(ia _ _ _ _).mp pv
  exact q Z H' ys s1 hZ kP rl
theorem oS{K:PySem.W.Frag}{a:Addr}{zs:List V}{idx:List Nat}{tt:CB->TT}{te:CB->TE}{σ:St}{Q:VK}{H1:Hp}{δ:Type}(f:Nat->Option δ)(Rep:Addr->Hp->V->δ->Prop)(mono:∀D H H' v d,bA H H'->Rep D H v d->Rep D H' v d)(uY:∀D H o v d,(∃xs,H D=some (.lst xs))->H1 D=none->Rep D H v d->Rep D (upd H D o) v d)
  (hL:H1 a=some (.lst zs)) (l9:zs.length<=900000)
  (hs:∀(D:Addr) (c:CB) (H:Hp) (i:Nat) (z:V) (yes:V->Hp->Prop) (no:Hp->Prop),zs[i]?=some z->bA H1 H->H1 D=none->(∃xs,H D=some (.lst xs))->(∀d,f i=some d->∀v H',bA H H'->Rep D H' v d->yes v H')->(f i=none->∀H',bA H H'->no H')->tt c (some (z)::aZ σ idx) H λb H4=>if b=true then te c (some (z)::aZ σ idx) H4 yes else no H4)
  (q:∀D H' vs,bA H1 H'->H1 D=none->H' D=some (.lst vs)->jZ (Rep D) H' vs ((List.range (zs.length)).filterMap f)->Q (.ref D) H'):fk (vr K a) 1 idx (λ_=>bX 0) tt te σ Q H1:=
 vi bA f Rep (λ_ _ e=>e) (λ_ _ a b=>a.trans b) (λD H o hD s b u e=>by rw[aD (aG e hD)];exact s b u e) (λD H H' o _ _ s e=>s D o e) (λD H H' v d _ s r=>mono D H H' v d s r) (λD H o v d hD _ hl r=>uY D H o v d hl hD r) (λH s=>s _ _ hL) l9 hs q
theorem lW{K:PySem.W.Frag}{a:Addr}{zs:List V}{idx:List Nat}{tt:CB->TT}{te:CB->TE}{σ:St}{Q:VK}{H1:Hp}{δ:Type}(f:Nat->Option δ)(Rep:Addr->Hp->V->δ->Prop)(mono:∀D H H' v d,bA H H'->Rep D H v d->Rep D H' v d)(uY:∀D H o v d,(∃xs,H D=some (.lst xs))->H1 D=none->Rep D H v d->Rep D (upd H D o) v d)
  (hL:H1 a=some (.tup zs)) (l9:zs.length<=900000)
  (hs:∀(D:Addr) (c:CB) (H:Hp) (i:Nat) (z:V) (yes:V->Hp->Prop) (no:Hp->Prop),zs[i]?=some z->bA H1 H->H1 D=none->(∃xs,H D=some (.lst xs))->(∀d,f i=some d->∀v H',bA H H'->Rep D H' v d->yes v H')->(f i=none->∀H',bA H H'->no H')->tt c (some (z)::aZ σ idx) H λb H4=>if b=true then te c (some (z)::aZ σ idx) H4 yes else no H4)
  (q:∀D H' vs,bA H1 H'->H1 D=none->H' D=some (.lst vs)->jZ (Rep D) H' vs ((List.range (zs.length)).filterMap f)->Q (.ref D) H'):fk (Df K a) 1 idx (λ_=>bX 0) tt te σ Q H1:=
 yi bA f Rep (λ_ _ e=>e) (λ_ _ a b=>a.trans b) (λD H o hD s b u e=>by rw[aD (aG e hD)];exact s b u e) (λD H H' o _ _ s e=>s D o e) (λD H H' v d _ s r=>mono D H H' v d s r) (λD H o v d hD _ hl r=>uY D H o v d hl hD r) (λH s=>s _ _ hL) l9 hs q
def yk(H:Hp)(v d:V):Prop:=v=d
theorem kl{H:Hp}{vs ds:List V}(h:jZ yk H vs ds):vs=ds:=List.ext_getElem? λi=>by
 by_cases hi:i<vs.length
 ·have hj:i<ds.length:=by have:=h.1;lia
  rw[cT hi,cT hj]
  exact cR some (h.2 i _ _ (cT hi) (cT hj))
 ·rw[vG (by lia),vG (by have:=h.1;lia)]
theorem CQ{δ:Type}{f:Nat->Option δ}{l:List δ}(h:∀i,i<l.length->f i=l[i]?):(List.range l.length).filterMap f=l:=by
 have:∀n,n<=l.length->(List.range n).filterMap f=l.take n:=λn=>by
  induction n with
  | zero=>intro _;rfl
  | succ n ih=>
   intro hn
   rw[km,ih (by lia),h n (by lia),vx]
 rw[this _ (cg _),vv]
theorem oK{α δ:Type}{l:List α}{g:α->δ}{f:Nat->Option δ}(h:∀i (hi:i<l.length),f i=some (g l[i])):(List.range l.length).filterMap f=l.map g:=by
 have:=CQ (f:=f) (l:=l.map g) λi hi=>by
  rw[bB]at hi
  rw[h i hi,dR,cT hi];rfl
 rwa [bB]at this
end L2
end
section
namespace L2
open PySem
theorem bF.mono{H H':Hp}{bs:List Addr}{ts:List (List Int)}(k:∀b xs,H b=some (.tup xs)->H' b=some (.tup xs))(s:bF H bs ts):bF H' bs ts:=⟨s.1,λi b t hb ht=>k _ _ (s.2 i b t hb ht)⟩
theorem bF.snoc{H:Hp}{bs:List Addr}{ts:List (List Int)}{b:Addr}{t:List Int}(s:bF H bs ts)(hb:H b=some (.tup (List.map V.int t))):bF H (bs++[b]) (ts++[t]):=by
 refine⟨by rw[ft,ft,s.1];rfl,λi c u hc hu=>?_⟩
 by_cases hi:i<bs.length
 ·rw[mw hi]at hc
  rw[mw (by rw[<-s.1];exact hi)]at hu
  exact s.2 i c u hc hu
 ·rw[kc (by lia)]at hc
  rw[kc (by rw[<-s.1];lia),<-s.1]at hu
  have h0:i-bs.length=0:=by
   cases z:i-bs.length with
   | zero=>rfl
   | succ n=>rw[z]at hc;simp at hc
  rw[h0]at hc hu
  cases hc;cases hu
  exact hb
theorem fC(K:PySem.W.Frag)(T:String):PySem.W.kitOne K (.type T) (.type T)=some true:=by
 unfold PySem.W.kitOne
 rw[aU (by simp)]
theorem iK{K:PySem.W.Frag}{A B:String}(h:(Value.type A==Value.type B)=false)(e:PySem.W.kitCls K (.type A) (.type B)=some false):PySem.W.kitOne K (.type A) (.type B)=some false:=by
 unfold PySem.W.kitOne
 rw[aK (by rw[h];exact dn)]
 exact e
end L2
end
section
namespace L2
open PySem PySem.Spec PyProof.Rows
end L2
end
section
namespace L2
open PySem
theorem fo{H H1:Hp}{p:Addr}{o:HO}(a:bA H H1)(hn:H p=none):bA H (upd H1 p o):=λb u e=>by rw[aD (aG e hn)];exact a b u e
theorem uU{qs:List Addr}{i:Nat}{x:V}(h:(List.map V.ref qs)[i]?=some x):∃q,qs[i]?=some q/\x=.ref q:=by
 rw[dR]at h
 cases e:qs[i]? with
 | none=>rw[e]at h;cases h
 | some q=>rw[e]at h;exact⟨q,rfl,(dU h).symm⟩
theorem aB{H:Hp}{p:Addr}(h:H p=none)(o:HO):bA H (upd H p o):=λb u q=>by rw[aD (aG q h)];exact q
theorem int_at{ns:List Int}{i:Nat}{x:V}(h:(List.map V.int ns)[i]?=some x):∃n,ns[i]?=some n/\x=.int n:=by
 rw[dR]at h
 cases e:ns[i]? with
 | none=>rw[e]at h;cases h
 | some q=>rw[e]at h;exact⟨q,rfl,(dU h).symm⟩
def hv(l:Addr)(a b c d e:Int):HO:=.lst [.ref l,.int a,.int b,.int c,.int d,.int e]
def z8(l:Addr)(o:HO):Prop:=∃a b c d e,o=hv l a b c d e/\0<=a
def lG:Sp:=λvs H Q _=>∃h,vs=[.ref h]/\∃l a b c d e,H h=some (hv l a b c d e)/\Q (.int (d*48271%2147483647+e*40693%2147483399)) (upd H h (hv l a b c (d*48271%2147483647) (e*40693%2147483399)))
def yM:Sp:=λvs H Q _=>∃h,vs=[.ref h]/\∃l ns o,H h=some o/\z8 l o/\H l=some (.lst (List.map V.int ns))/\∀o',z8 l o'->Q .non (upd H h o')
def qE:Sp:=λvs H Q _=>∃h m,vs=[.ref h,.int m]/\1<=m/\m<2 ^ 300/\∃l ns o,H h=some o/\z8 l o/\H l=some (.lst (List.map V.int ns))/\∀r o',0<=r->r<m->z8 l o'->Q (.int r) (upd H h o')
def Hd(H:Hp)(h l:Addr):Prop:=∃ns o,H h=some o/\z8 l o/\H l=some (.lst (List.map V.int ns))
def bJ(H:Hp)(h:Addr):Prop:=∃l,Hd H h l
structure Dr(h:Addr)(H H':Hp):Prop where
 keep:∀b o,b≠h->H b=some o->H' b=some o
 hand:∀l,Hd H h l->Hd H' h l
theorem Dr.refl{h:Addr}{H:Hp}:Dr h H H:=⟨λ_ _ _ e=>e,λ_ x=>x⟩
theorem Dr.trans{h:Addr}{H H1 H2:Hp}(a:Dr h H H1)(b:Dr h H1 H2):Dr h H H2:=⟨λc o hc e=>b.keep c o hc (a.keep c o hc e),λl x=>b.hand l (a.hand l x)⟩
theorem Dr.cA{h:Addr}{H H1:Hp}(a:Dr h H H1)(x:bJ H h):bJ H1 h:=let ⟨l,y⟩:=x;⟨l,a.hand l y⟩
theorem Hd.apart{H:Hp}{h l:Addr}(x:Hd H h l):l≠h:=by
 obtain⟨ns,o,e1,⟨a,b,c,d,e,rfl,_⟩,e3⟩:=x
 intro z
 rw[z,e1]at e3
 have q:=dU e3
 unfold hv at q
 injection q with q
 match ns,q with
 | [],q=>cases q
 | n::_,q=>injection q with q1 _;cases q1
theorem Dr.new{h p:Addr}{H H1:Hp}{o:HO}(a:Dr h H H1)(hp:H1 p=none):Dr h H (upd H1 p o):=by
 refine⟨λc o' hc e=>?_,λl x=>?_⟩
 ·rw[aD (aG (a.keep c o' hc e) hp)];exact a.keep c o' hc e
 ·obtain⟨ns,oh,e1,e2,e3⟩:=a.hand l x
  exact⟨ns,oh,by rw[aD (aG e1 hp)];exact e1,e2,by rw[aD (aG e3 hp)];exact e3⟩
theorem Dr.put{h p:Addr}{H H1:Hp}{o':HO}(a:Dr h H H1)(hn:H p=none):Dr h H (upd H1 p o'):=by
 refine⟨λc o' hc e=>?_,λl x=>?_⟩
 ·rw[aD (aG e hn)];exact a.keep c o' hc e
 ·obtain⟨ns,oh,e1,e2,e3⟩:=a.hand l x
  obtain⟨_,_,f1,_,f3⟩:=x
  exact⟨ns,oh,by rw[aD (aG f1 hn)];exact e1,e2,by rw[aD (aG f3 hn)];exact e3⟩
theorem bJ.ne{h p:Addr}{H:Hp}(x:bJ H h)(hp:H p=none):p≠h:=by
 obtain⟨l,ns,oh,e1,_,_⟩:=x
 exact(aG e1 hp).symm
theorem Dr.free{h p:Addr}{H H1:Hp}(a:Dr h H H1)(x:bJ H h)(hp:H1 p=none):H p=none:=by
 cases e:H p with
 | none=>rfl
 | some o=>
  have n:=(a.cA x).ne hp
  have:=a.keep p o n e
  rw[hp]at this;cases this
theorem bx{h:Addr}{m:Int}{H0 H:Hp}{Q:VK}{E:XK}(hd:bJ H0 h)(d:Dr h H0 H)(h1:1<=m)(h2:m<2 ^ 300)(q:∀r H',0<=r->r<m->Dr h H0 H'->(∀b,b≠h->H' b=H b)->Q (.int r) H'):qE [.ref h,.int m] H Q E:=by
 obtain⟨l,x⟩:=hd
 have x':=d.hand l x
 have ap:=x'.apart
 obtain⟨ns,oh,e1,e2,e3⟩:=x'
 refine⟨h,m,rfl,h1,h2,l,ns,oh,e1,e2,e3,λr o' r0 r1 ho=>q r _ r0 r1 ⟨λc o hc e=>?_,λl' x'=>?_⟩ (λb hb=>aD hb)⟩
 ·rw[aD hc];exact d.keep c o hc e
 ·have y:=d.hand l' x'
  have Vo:=y.apart
  obtain⟨Sz,R4,f1,f2,f3⟩:=y
  have el:l'=l:=by
   obtain⟨a,b,c,d,e,rfl,_⟩:=e2
   obtain⟨a',b',c',d',e',rfl,_⟩:=f2
   rw[e1]at f1
   have:=dU f1
   unfold hv at this
   injection this with this
   injection this with this _
   exact(V.ref.inj this).symm
  subst el
  exact⟨ns,o',aq,ho,by rw[aD ap];exact e3⟩
theorem oQ{α:Type}(f:α->V)(xs:List α)(lo hi:Option Int):kR (xs.map f) lo hi=((xs.drop (HT.eG xs.length 0 lo)).take (HT.eG xs.length xs.length hi-HT.eG xs.length 0 lo)).map f:=by
 unfold kR;rw[bB,pB,rO]
def yQ(K:PySem.W.Frag):Sp:=λvs H Q _=>∃a ns,vs=[.ref a]/\mh K H a (List.map V.int ns)/\∀h H',bA H H'->H h=none->bJ H' h->Q (.ref h) H'
def gS(x:List Int):Prop:=x.Pairwise (· < ·)
def vS:Sp:=λvs H Q _=>∃i:Int,vs=[.int i]/\Q (.bl true) H
def Ay:Sp:=λvs H Q _=>∃a,vs=[.ref a]/\∃x:List Int,H a=some (.tup (List.map V.int x))/\x.length<=900/\gS x/\∀H',bA H H'->Q (.bl true) H'
theorem all_true:∀(n:Nat),(List.replicate n true).all id=true
 | 0=>rfl
 | n+1=>by rw[vC,List.all_cons,all_true n];rfl
theorem bF.put{H:Hp}{bs:List Addr}{ts:List (List Int)}{b:Addr}{t:List Int}(s:bF H bs ts)(hb:H b=some (.tup (List.map V.int t)))(k:Nat):bF H (bs.take k++b::bs.drop k) (ts.take k++t::ts.drop k):=by
 have h1:bF H (bs.take k++[b]) (ts.take k++[t]):=bF.snoc ⟨by rw[dP,dP,s.1],λi c u hc hu=>by
  rw[List.getElem?_take]at hc hu
  split at hc
  ·rename_i lT
   rw[aU lT]at hu
   exact s.2 i c u hc hu
  ·cases hc⟩ hb
 have e1:bs.take k++b::bs.drop k=(bs.take k++[b])++bs.drop k:=by simp
 have e2:ts.take k++t::ts.drop k=(ts.take k++[t])++ts.drop k:=by simp
 rw[e1,e2]
 refine⟨by simp[s.1],λi c u hc hu=>?_⟩
 by_cases hi:i<(bs.take k++[b]).length
 ·rw[mw hi]at hc
  rw[mw (by rw[<-h1.1];exact hi)]at hu
  exact h1.2 i c u hc hu
 ·rw[kc (by lia),List.getElem?_drop]at hc
  rw[kc (by rw[<-h1.1];lia),List.getElem?_drop,<-h1.1]at hu
  exact s.2 _ c u hc hu
theorem bJ.uW{h b:Addr}{H:Hp}{xs:List V}(x:bJ H h)(e:H b=some (.tup xs)):b≠h:=by
 obtain⟨l,ns,o,e1,⟨_,_,_,_,_,rfl,_⟩,_⟩:=x
 exact Hm e e1 (by intro z;cases z)
theorem CT(xs:List V){k:Int}(hk:0<=k):kR xs none (some k)=xs.take k.toNat:=by
 have e:HT.eG xs.length xs.length (some k)=min k.toNat xs.length:=by
  show(if k<0 then _ else min k.toNat xs.length)=_
  rw[aK (by lia)]
 have e0:HT.eG xs.length 0 none=0:=rfl
 unfold kR
 rw[e,e0,List.drop_zero,Nat.sub_zero]
 exact(List.take_eq_take_min ..).symm
end L2
end
section
namespace L2
structure Nx(P R:St->Hp->Prop):Prop where
 to:∀σ H,P σ H->R σ H
theorem eS{t u:TS}{D:Ends}{σ:St}{H:Hp}(h:∀R:St->Hp->Prop,Nx (u D) R->t { D with nx:=R } σ H):tSeq t u D σ H:=h (u D) ⟨λ_ _ z=>z⟩
end L2
end
section
namespace L2
open PySem PySem.Spec PyProof.Rows
open PySem.W (Frag Looks)
abbrev Jh:List Value:=[.type "ValueError",.type "Exception",.type "BaseException",.type "object"]
def Aj(K:Frag)(n:Addr):Bool:=match K.lookup n with
 | some o=>(match o.data with | .dict es _=>es.toList.all λe=>(match e.key with | .str _ _=>true | _=>false) | _=>false)
 | none=>false
theorem Dj{K:Frag}{h:Heap}{n:Addr}(X:K.In h)(q:Aj K n=true):∃m,h.Ns n m:=by
 unfold Aj at q
 cases e:K.lookup n with
 | none=>rw[e]at q;cases q
 | some o=>
  rw[e]at q
  dsimp only at q
  cases d:o.data with
  | dict es ep=>
   rw[d]at q
   dsimp only at q
   refine⟨nsFind es,o,es,ep,X _ _ e,d,λx hx=>?_,λ_=>rfl⟩
   have:=ka.mp q x (Array.mem_toList_iff.mpr hx)
   cases k:x.key with
   | str y t=>exact⟨y,t,rfl⟩
   | _=>rw[k]at this;cases this
  | _=>rw[d]at q;cases q
def Ai(K:Frag):List Value->Bool
 | .ref a::tl=>(match K.lookup a with
  | some o=>(match o.data with | .cls cd=>Aj K cd.ns&&(PySem.W.nsIn K cd.ns "__init__" == some none) | _=>false)
  | none=>false)&&Ai K tl
 | l=>l==Jh
theorem Dh{K:Frag}{h:Heap}(X:K.In h):∀{l:List Value},Ai K l=true->OwnTail h Jh l
 | .ref a::tl,q=>by
  simp only[Ai,fJ]at q
  obtain⟨q,r⟩:=q
  cases e:K.lookup a with
  | none=>rw[e]at q;cases q
  | some o=>
   rw[e]at q
   obtain⟨oc,od,da,sl⟩:=o
   cases da with
   | cls cd=>
    simp only[fJ,beq_iff_eq]at q
    obtain⟨m,hm⟩:=Dj X q.1
    exact .own (X _ _ e) hm (PySem.W.ns_none_of X hm q.2) (Dh X r)
   | _=>cases q
 | [],q=>by cases eq_of_beq q
 | .type n::tl,q=>by rw[show Value.type n::tl=Jh from eq_of_beq q];exact .base
 | .none::tl,q=>by cases eq_of_beq q
 | .bool _::tl,q=>by cases eq_of_beq q
 | .int _ _::tl,q=>by cases eq_of_beq q
 | .str _ _::tl,q=>by cases eq_of_beq q
 | .builtin _::tl,q=>by cases eq_of_beq q
 | .float _ _::tl,q=>by cases eq_of_beq q
 | .bytes _ _::tl,q=>by cases eq_of_beq q
 | .ellipsis::tl,q=>by cases eq_of_beq q
 | .notImplemented::tl,q=>by cases eq_of_beq q
def lC(K:Frag)(C:Addr):Bool:=match K.lookup C with
 | some o=>o.cls == .type "type" && (match o.data with
  | .cls cd=>!cd.hasDel&&cd.hasDict&&Aj K cd.ns&&(match cd.mro with | v::tl=>v == .ref C&&Ai K tl | []=>false) | _=>false)&&(match o.slots.toList with | [_,_,_,_,some v,_]=>v == .builtin "ValueError.__new__" | _=>false)
 | none=>false
theorem nQ{K:Frag}{h:Heap}{C:Addr}(X:K.In h)(q:lC K C=true):∃nm qn N bs bm sn sub ab col dd k0 k1 k2 k3 k5 mN,h.get? C=some (excClassObj nm qn C N bs bm true sn sub ab col dd k0 k1 k2 k3 k5 "ValueError.__new__")/\h.Ns N mN/\OwnTail h Jh bm:=by
 unfold lC at q
 cases e:K.lookup C with
 | none=>rw[e]at q;cases q
 | some o=>
  rw[e]at q
  obtain⟨oc,od,da,sl⟩:=o
  simp only[fJ,beq_iff_eq]at q
  obtain⟨⟨rfl,q1⟩,q2⟩:=q
  cases da with
  | cls cd=>
   obtain⟨nm,bs,mro,ns,qn,hd,sn,sub,ab,col,del⟩:=cd
   simp only[fJ,uk]at q1
   obtain⟨⟨⟨rfl,rfl⟩,n1⟩,q1⟩:=q1
   cases mro with
   | nil=>cases q1
   | cons v tl=>
    simp only[fJ,beq_iff_eq]at q1
    obtain⟨rfl,q1⟩:=q1
    obtain⟨l⟩:=sl
    match l,q2 with
    | [k0,k1,k2,k3,some v,k5],q2=>
     obtain⟨m,hm⟩:=Dj X n1
     have ev:v=.builtin "ValueError.__new__":=eq_of_beq q2
     subst ev
     exact⟨nm,qn,ns,bs,tl,sn,sub,ab,col,od,k0,k1,k2,k3,k5,m,X _ _ e,hm,Dh X q1⟩
  | _=>cases q1
section
variable {prog:Program}{w:World}{A:Around}{E:Value->Shared->Prop}{s:Shared}{K:Frag}{C fI:Addr}
theorem mR{rest:List Value}{Q:PySem.Fin->Shared->Prop}(X:K.In s.heap)(q:lC K C=true)(hi:PySem.W.findIn K (.ref C) "__init__" = some (some (.builtin "ValueError.__init__")))
  (hq:∀h' t,(∀b o,s.heap.get? b=some o->h'.get? b=some o)->h'.get? (s.heap.objs.size+1)=some { cls:=.ref C,data:=.fields #[.ref t,.none,.none,.none,.bool false,.none] }->Q (.done (.ret (.ref (s.heap.objs.size+1)))) { s with heap:=h' }) (zK:rest.length<=sizeLine) :
  wpAny (model prog w) A (Builtin.«type.__call__» ⟨.ref C::rest,[]⟩) Q E s:=by
 obtain⟨nm,qn,N,bs,bm,sn,sub,ab,col,dd,k0,k1,k2,k3,k5,mN,hC,hN,T⟩:=nQ X q
 obtain⟨h,g,d,t,os⟩:=s
 dsimp only at X hC hN T hq
 repeat (first | with_reducible refine pC hC ?_ | with_reducible refine wpAny_madeBy_exc hC ?_ | wp_step)
 have FF:=PySem.F.excBase_ValueError
 refine codeAny_call_builtin_code (Code.quiet_builtin _ FF.quiet) (wpAny_check_new_subU FF (by decide +kernel) T hC (codeAny_exc_new_subU FF (by decide +kernel) FF T hC ?_ zK))
 show wpAny _ _ _ _ _ _
 have kp:∀b o,h.get? b=some o->((h.push { cls:=.type "tuple",data:=.seq rest.toArray }).push { cls:=.ref C,data:=.fields #[.ref h.objs.size,.none,.none,.none,.bool false,.none] }).get? b=some o:=λb o e=>eR _ (eR _ e)
 have e1:((h.push { cls:=.type "tuple",data:=.seq rest.toArray }).push { cls:=.ref C,data:=.fields #[.ref h.objs.size,.none,.none,.none,.bool false,.none] }).get? (h.objs.size+1)=some { cls:=.ref C,data:=.fields #[.ref h.objs.size,.none,.none,.none,.bool false,.none] }:=by heap_get
 generalize ((h.push { cls:=.type "tuple",data:=.seq rest.toArray }).push { cls:=.ref C,data:=.fields #[.ref h.objs.size,.none,.none,.none,.bool false,.none] })=h2 at kp e1 ⊢
 have Qi:=kp _ _ hC
 have X2:K.In h2:=X.keeps kp
 have T2:=T.keeps kp
 have T4:(Value.ref C::bm).contains (.ref C)=true:=by simp
 unfold isInstance
 repeat (first | with_reducible refine pC e1 ?_ | (with_reducible refine vy Qi ?_;rw[T4]) | wp_step)
 show wpAny _ _ (typeLookup (.ref C) _) _ _ _
 refine(uC (M:=model prog w) (h:=h2) X2 hi) _ _ _ _ (λ_ _ e=>e) (ml (bh (wpAny_of_eq (FF.init.bind _) ?_)))
 refine bh (lq (codeAny_call_builtin FF.init.plain FF.initEntry (wpAny_check_init_subU FF T2 Qi e1 rfl ?_)))
 have e3:(h2.push { cls:=.type "tuple",data:=.seq rest.toArray }).get? (h.objs.size+1)=some { cls:=.ref C,data:=.fields #[.ref h.objs.size,.none,.none,.none,.bool false,.none] }:=eR _ e1
 wp_walk
 refine hq _ h2.objs.size (λb o hb=>?_) ?_
 ·rw[kb _ _ (qu (uq (bL hb)))]
  exact eR _ (kp _ _ hb)
 ·exact(pD (Obj.mapFields λx=>x.setIfInBounds 0 (Value.ref h2.objs.size)) e3 rfl).trans rfl
theorem call_plain{rest:List Value}{Q:Value->Shared->Prop}(X:K.In s.heap)(q:lC K C=true)(hi:PySem.W.findIn K (.ref C) "__init__" = some (some (.builtin "ValueError.__init__")))
  (hq:∀h' t,(∀b o,s.heap.get? b=some o->h'.get? b=some o)->h'.get? (s.heap.objs.size+1)=some { cls:=.ref C,data:=.fields #[.ref t,.none,.none,.none,.bool false,.none] }->Q (.ref (s.heap.objs.size+1)) { s with heap:=h' }) (zK:rest.length<=sizeLine) :
  wpAny (model prog w) A (call (.ref C) rest) Q E s:=by
 obtain⟨nm,qn,N,bs,bm,sn,sub,ab,col,dd,k0,k1,k2,k3,k5,mN,hC,hN,T⟩:=nQ X q
 obtain⟨h,g,d,t,os⟩:=s
 dsimp only at X hC hN T hq
 have f1:=tc_lookup
 have f2:=tc_bind (.ref C)
 have hT:(⟨h,g,d,t,os⟩:Shared).TypeIs (.ref C) "type":=⟨_,hC,rfl⟩
 refine lq (codeAny_of_tree (show wpAny _ _ (callAny (.ref C) _) _ _ _ from ?_))
 repeat (any_goals (first | assumption | with_reducible refine pC hC ?_ | wp_step))
 refine⟨rfl,codeAny_call_builtin_at (Code.quiet_builtin _ (by decide +kernel)) entry_typeCall (wpAny_check_type_call_sub hC (mR (s:=⟨h,g,d,t,os⟩) X q hi (λh' t k z=>?_) zK))⟩
 exact hq h' t k z
end
abbrev Ow(C:Addr)(dx:Option Addr)(t:Addr):Obj:={ cls:=.ref C,dict:=dx,data:=.fields #[.ref t,.none,.none,.none,.bool false,.none] }
section
variable {M:Model}{A:Around}{E:Value->Shared->Prop}{s:Shared}{K:Frag}{C:Addr}{env:Env}
theorem DQ{x:Sem Value}{Q:Flow->Shared->Prop}(q:lC K C=true)(hh:A.handled=none)(h:wpAny M A x (λv s₁=>∃e dx t,v=.ref e/\K.In s₁.heap/\s₁.heap.get? e=some (Ow C dx t)/\E (.ref e) s₁) E s) :
  wpAny M A (raiseStmt env (some x) none) Q E s:=by
 unfold raiseStmt
 refine bh (bW h (λv s₁ h₁=>?_) λ_ _ z=>z)
 obtain⟨e,dx,t,rfl,X,he,hE⟩:=h₁
 obtain⟨nm,qn,N,bs,bm,sn,sub,ab,col,dd,k0,k1,k2,k3,k5,mN,hC,hN,T⟩:=nQ X q
 have hb:(Value.ref C::bm).contains (.type "BaseException")=true:=by rw[ux,T.hasType (X:="BaseException") (b:=true) (by decide +kernel),Bool.or_true]
 obtain⟨hp,g,d,tk,os⟩:=s₁
 dsimp only at hC he
 repeat (first | with_reducible refine pC he ?_ | (with_reducible refine vy hC ?_;rw[hb]) | wp_step)
 exact wpAny_raiseNew_none hh hE
end
def vn(N:Addr->Prop)(h:Heap)(e C:Addr)(dx:Option Addr):Prop:=N e/\∃vs sl,h.get? e=some ⟨.ref C,dx,.fields vs,sl⟩/\vs[2]?=some .none/\(vs[1]?=some .none\/∃T oT ts,N T/\T≠e/\vs[1]?=some (.ref T)/\h.get? T=some oT/\oT.data=.fields ts/\ts[3]?=some .none)
structure Lv(fs ch:List Addr)(h h':Heap):Prop where
 keep:∀b o,b∉fs->b∉ch->h.get? b=some o->h'.get? b=some o
 slot:∀b o,b∈fs->h.get? b=some o->∃sl,h'.get? b=some { o with slots:=sl }
section
variable {M:Model}{A:Around}{E:Value->Shared->Prop}{s:Shared}{env:Env}{outer:List Env}{base:Heap}{N:Addr->Prop}{e C L:Addr}{dx:Option Addr}
theorem uI{oe:Obj}{vs:Array Value}{head:Value}{Cz:Bool}{Q:Unit->Shared->Prop}(o9:A.frames=some (env::outer))(hl:s.heap.FunFrames base (env::outer))(hf:env.frame=some L)
  (he:s.heap.get? e=some oe) (hd:oe.data=.fields vs) (hz:1<vs.size)
  (h:∀h' T oT ts,s.heap.objs.size<=T->T≠e->h'.get? e=some { oe with data:=.fields (vs.setIfInBounds 1 (.ref T)) }->h'.get? T=some oT->oT.data=.fields ts->ts[3]?=some (rawInt L)->
   (∀b o,b≠e->b∉gP (env::outer)->s.heap.get? b=some o->h'.get? b=some o)->(∀b o,b∈gP (env::outer)->s.heap.get? b=some o->∃sl,h'.get? b=some { o with slots:=sl })->h'.FunFrames base (env::outer)->Q () { s with heap:=h' }) :
  wpAny M A (do let a <-frameOf env;let pl <-entryPlaceOf L Cz;let b <-EntryCells.newEntry head a .none (rawInt L) .none pl;setField (.ref e) 1 b) Q E s:=by
 have nf:∀b,b∈gP (env::outer)->b≠e:=λb hb z=>by
  obtain⟨_,o,ho,nd⟩:=hl.mem hb
  rw[z,he]at ho;cases ho;exact nd vs hd
 refine bh (wpAny_frameOf_fun o9 hl hf λh₁ so=>bh (wpAny_entryPlaceOf λpl ug=>?_))
 unfold EntryCells.newEntry newFields
 refine bh (wpAny_newObj_type ?_ (ug.sizeOk5 _ _ _ _ _))
 have P8:h₁.get? e=some oe:=(so.2.1 e λz=>nf e z rfl).trans he
 have k2:∀b o,h₁.get? b=some o->(h₁.push { cls:=.type "traceback",dict:=none,data:=.fields ([head,.ref L,.none,rawInt L,.none]++(if pl.isEmpty then List.replicate 6 Value.none else pl)).toArray }).get? b=some o:=λb o z=>eR _ z
 have t2:=gI h₁ (o:={ cls:=.type "traceback",dict:=none,data:=.fields ([head,.ref L,.none,rawInt L,.none]++(if pl.isEmpty then List.replicate 6 Value.none else pl)).toArray }) rfl
 have t3:([head,.ref L,.none,rawInt L,.none]++(if pl.isEmpty then List.replicate 6 Value.none else pl)).toArray[3]?=some (rawInt L):=by simp
 generalize ([head,.ref L,.none,rawInt L,.none]++(if pl.isEmpty then List.replicate 6 Value.none else pl)).toArray=ts at k2 t2 t3 ⊢
 generalize h₁.push { cls:=.type "traceback",dict:=none,data:=.fields ts }=h₂ at k2 t2 ⊢
 have uh:=k2 _ _ P8
 have mX:h₁.objs.size≠e:=qu (bL P8)
 refine rN uh hd hz ?_
 have Jq:∀b o,b≠e->h₂.get? b=some o->(h₂.update e (Obj.mapFields (·.setIfInBounds 1 (Value.ref h₁.objs.size)))).get? b=some o:=λb o hb z=>(kb _ _ hb.symm).trans z
 have d3:=mr hd (·.setIfInBounds 1 (Value.ref h₁.objs.size))
 have TV:=pD (Obj.mapFields (·.setIfInBounds 1 (Value.ref h₁.objs.size))) uh (vD d3)
 have Ka:∀b o,b∈gP (env::outer)->s.heap.get? b=some o->∃sl,(h₂.update e (Obj.mapFields (·.setIfInBounds 1 (Value.ref h₁.objs.size)))).get? b=some { o with slots:=sl }:=λb o hb z=>by
  obtain⟨sl,e1⟩:=so.2.2 b o z
  exact⟨sl,Jq _ _ (nf b hb) (k2 _ _ e1)⟩
 refine h _ h₁.objs.size _ ts (Nat.le_of_eq so.1.symm) mX ?_ (Jq _ _ mX t2) rfl t3 (λb o hb hf z=>Jq b o hb (k2 _ _ ((so.2.1 b hf).trans z))) Ka ?_
 ·rw[TV]
  obtain⟨oc,od,VP,Ab⟩:=oe
  dsimp only at hd
  subst hd
  rfl
 ·refine hl.of_keeps λb o hb nd=>?_
  obtain⟨sl,e1⟩:=so.2.2 b o hb
  refine⟨_,Jq b _ (λz=>?_) (k2 _ _ e1),rfl⟩
  rw[z,he]at hb;cases hb;exact nd vs hd
theorem Dk{T:Addr}{oe oT:Obj}{vs ts:Array Value}{Q:Unit->Shared->Prop}(he:s.heap.get? e=some oe)(hd:oe.data=.fields vs)(h1:vs[1]?=some (.ref T))(hT:s.heap.get? T=some oT)(TX:oT.data=.fields ts)(hz:3<ts.size)
  (h:Q () { s with heap:=s.heap.update T (Obj.mapFields (·.setIfInBounds 3 Value.none)) }):wpAny M A (setFlight (.ref e) none) Q E s:=by
 unfold setFlight
 refine bh (jm he hd h1 ?_)
 rw[aU (show(Value.ref T != Value.none)=true from by simp)]
 exact rN hT TX hz h
theorem yC{Q:Unit->Shared->Prop}(o9:A.frames=some (env::outer))(hl:s.heap.FunFrames base (env::outer))(hf:env.frame=some L)(hN:∀b,s.heap.objs.size<=b->N b)(x:vn N s.heap e C dx)
  (h:∀h' ch,(∀b∈ch,N b/\∃o vs,s.heap.get? b=some o/\o.data=.fields vs)->vn N h' e C dx->Lv (gP (env::outer)) ch s.heap h'->Q () { s with heap:=h' }):wpAny M A (noteFrame (.ref e) env) (λ_ s'=>wpAny M A (setFlight (.ref e) none) Q E s') E s:=by
 obtain⟨ne,vs,sl,he,c2,tb⟩:=x
 have fin:∀(ch:List Addr) (hX:∀b∈ch,N b/\∃o vs,s.heap.get? b=some o/\o.data=.fields vs) (s1:Shared) (h':Heap) (T:Addr) (oT:Obj) (ts:Array Value),s1.heap.objs.size=s.heap.objs.size->s1.heap.objs.size<=T->T≠e->h'.get? e=some ⟨.ref C,dx,.fields (vs.setIfInBounds 1 (.ref T)),sl⟩->1<vs.size->h'.get? T=some oT->oT.data=.fields ts->ts[3]?=some (rawInt L)->
   (∀b o,b∉gP (env::outer)->b∉ch->s.heap.get? b=some o->h'.get? b=some o)->(∀b o,b∈gP (env::outer)->s.heap.get? b=some o->∃sl,h'.get? b=some { o with slots:=sl })->s1={ s with heap:=s1.heap }->
   wpAny M A (setFlight (.ref e) none) Q E { s1 with heap:=h' }:=λch hX s1 h' T oT ts hs hT mX e1 hz t1 t2 t3 k1 k2 es=>by
  have v1:(vs.setIfInBounds 1 (Value.ref T))[1]?=some (.ref T):=by simp[hz]
  have z3:=(jq.mp t3).1
  refine Dk (s:={ s1 with heap:=h' }) e1 rfl v1 t1 t2 z3 ?_
  have nT:N T:=hN T (by omega)
  have ot:∀b o,b≠T->h'.get? b=some o->(h'.update T (Obj.mapFields (·.setIfInBounds 3 Value.none))).get? b=some o:=λb o hb z=>(kb _ _ hb.symm).trans z
  have t4:=pD (Obj.mapFields (·.setIfInBounds 3 Value.none)) t1 (vD (mr t2 _))
  have g:=h (h'.update T (Obj.mapFields (·.setIfInBounds 3 Value.none))) ch hX ⟨ne,_,sl,ot _ _ mX.symm e1,(by simpa [Array.getElem?_setIfInBounds]using c2),.inr ⟨T,_,_,nT,mX,v1,t4,mr t2 _,by simp[z3]⟩⟩ ⟨λb o hb nb z=>ot b o (λy=>?_) (k1 b o hb nb z),λb o hb z=>?_⟩
  ·rw[es];exact g
  ·have:=bL z
   rw[y]at this
   exact absurd this (px.mpr (by rw[<-hs];exact hT))
  ·obtain⟨Kl,e2⟩:=k2 b o hb z
   refine⟨Kl,ot b _ (λy=>?_) e2⟩
   obtain⟨_,o',rM,nd⟩:=hl.mem hb
   have:=bL rM
   rw[y]at this
   exact absurd this (px.mpr (by rw[<-hs];exact hT))
 unfold noteFrame
 simp only[hf]
 rcases tb with h1 | ⟨T,oT,ts,nT,mX,h1,hT,dT,h3⟩
 ·have hz:=(jq.mp h1).1
  refine bh (jm he rfl h1 ?_)
  rw[aK (by decide)]
  exact uI o9 hl hf he rfl hz λh' T oT ts a1 a2 a3 a4 a5 a6 a7 a8 _=>fin [e] (λb hb=>by rw[dE.mp hb];exact⟨ne,_,_,he,rfl⟩) s h' T oT ts rfl a1 a2 a3 hz a4 a5 a6 (λb o hb nb z=>a7 b o (λy=>nb (by rw[y];simp)) hb z) a8 rfl
 ·have hz:=(jq.mp h1).1
  refine bh (jm he rfl h1 ?_)
  rw[aU (show(Value.ref T != Value.none)=true by simp)]
  refine bh (jm hT dT h3 ?_)
  rw[aK (show ¬((Value.none==rawInt L)=true) by simp[rawInt])]
  refine bh (rN hT dT (jq.mp h3).1 ?_)
  have ot:∀b o,b≠T->s.heap.get? b=some o->(s.heap.update T (Obj.mapFields (·.setIfInBounds 3 Value.none))).get? b=some o:=λb o hb z=>(kb _ _ hb.symm).trans z
  have Ju:∀b o,s.heap.get? b=some o->(∀vs,o.data≠.fields vs)->b≠T:=λb o z nd y=>by rw[y,hT]at z;cases z;exact nd ts dT
  have Gz:(s.heap.update T (Obj.mapFields (·.setIfInBounds 3 Value.none))).FunFrames base (env::outer):=hl.of_keeps λb o z nd=>⟨o,ot b o (Ju b o z nd) z,rfl⟩
  have sz:(s.heap.update T (Obj.mapFields (·.setIfInBounds 3 Value.none))).objs.size=s.heap.objs.size:=by simp
  have uh:=ot _ _ mX.symm he
  generalize s.heap.update T (Obj.mapFields (·.setIfInBounds 3 Value.none))=hq at ot Gz sz uh ⊢
  refine uI (s:={ s with heap:=hq }) o9 Gz hf uh rfl hz λh' T' Li J8 a1 a2 a3 a4 a5 a6 a7 a8 _=>fin [e,T] (λb hb=>?_) { s with heap:=hq } h' T' Li J8 sz a1 a2 a3 hz a4 a5 a6 (λb o hb nb z=>a7 b o (λy=>nb (by rw[y];simp)) hb (ot b o (λy=>nb (by rw[y];simp)) z)) (λb o hb z=>a8 b o hb (ot b o ?_ z)) rfl
  ·have:b=e\/b=T:=by simpa using hb
   rcases this with rfl | rfl
   ·exact⟨ne,_,_,he,rfl⟩
   ·exact⟨nT,_,_,hT,dT⟩
  ·obtain⟨_,o',rM,nd⟩:=hl.mem hb
   exact Ju b o' rM nd
theorem yB{Q:Unit->Shared->Prop}(o9:A.frames=some (env::outer))(hl:s.heap.FunFrames base (env::outer))(hf:env.frame=some L)(hN:∀b,s.heap.objs.size<=b->N b)(x:vn N s.heap e C dx)
  (h:∀h' ch,(∀b∈ch,N b/\∃o vs,s.heap.get? b=some o/\o.data=.fields vs)->vn N h' e C dx->Lv (gP (env::outer)) ch s.heap h'->Q () { s with heap:=h' }):wpAny M A (leaving env (.ref e)) Q E s:=bh (yC o9 hl hf hN x h)
end
structure XC(K:Frag)(C:Addr):Prop where
 is:lC K C=true
 hd:PySem.W.hasDictIn K C=true
 sa:PySem.W.findIn K (.ref C) "__setattr__" = some (some (.builtin "object.__setattr__"))
 ga:PySem.W.findIn K (.ref C) "__getattribute__" = some (some (.builtin "BaseException.__getattribute__"))
 gn:PySem.W.findIn K (.ref C) "__getattr__" = some none
 ca:PySem.W.findIn K (.ref C) "__class__" = some (some (.builtin "object.__class__"))
 cn:PySem.W.specialIn K (.builtin "object.__class__") "__get__" = some (some (.builtin "getset_descriptor.__get__"))
 ct:PySem.W.takesIn K (.builtin "object.__class__")=some true
 cm:PySem.W.mroIn K C (.type "object")=some true
section
variable {prog:Program}{w:World}{A:Around}{E:Value->Shared->Prop}{s:Shared}{K:Frag}{C e:Addr}{oe:Obj}{od:Option Obj}
theorem DT{Q:Option Value->Shared->Prop}(c:XC K C)(X:K.In s.heap)(I:PySem.W.InstAt s.heap e oe C od)(h:Q (some (.ref C)) { s with toks:=s.toks+1 }):wpAny (model prog w) A (getAttr? (.ref e) "__class__") Q E s:=by
 have hf:PySem.W.findObj K C od "__class__" = some (.bind (.builtin "getset_descriptor.__get__") (.builtin "object.__class__")):=by
  obtain⟨cd,hc,_⟩:=PySem.W.any_some c.hd
  unfold PySem.W.findObj
  rw[hc,vw,c.ca,vw]
  dsimp only
  rw[c.cn,vw]
  dsimp only
  rw[c.ct,vw]
 obtain⟨nm,qn,N,bs,bm,sn,sub,ab,col,dd,k0,k1,k2,k3,k5,mN,hC,hN,T⟩:=nQ X c.is
 obtain⟨hp,g,d,t,os⟩:=s
 dsimp only at X I hC
 have ty:=I.type (M:=model prog w)
 have L1:=uC (M:=model prog w) X c.ga
 have L2:=uC (M:=model prog w) X c.gn
 have L3:=PySem.W.looks_find (M:=model prog w) X I hf
 have FA:=PySem.F.attr_ValueError
 unfold getAttr? getAttrBy? getAttrBy
 refine bh (wpAny_mkText (bh (wpAny_attempt (ml (bh (ty.at (bh (L1.at ?_))))))))
 dsimp only
 rw[show(onTheHeap (Value.ref C)&&Value.builtin "BaseException.__getattribute__" == Value.builtin "object.__getattribute__")=false from by rw[show(Value.builtin "BaseException.__getattribute__" == Value.builtin "object.__getattribute__")=false from by decide +kernel];rfl,aK (by decide)]
 refine bh (L2.at (bh (wpAny_attempt (ml ?_))))
 unfold callGetattribute
 rw[show(false&&onTheHeap (Value.builtin "BaseException.__getattribute__"))=false from rfl,aK (by decide)]
 unfold boundAndCalled
 rw[FA.ga.bind]
 refine bh (cj (lq (codeAny_call_builtin FA.ga.plain PySem.F.entry_bexc_ga ?_)))
 have sub:Looks (model prog w) hp (isInstance (.ref e) (.type "BaseException")) true:=ty.andThen (λA Q E s k z=>by
  obtain⟨h,g,d,t,os⟩:=s
  refine vy (k _ _ hC) ?_
  rw[ux,T.hasType (X:="BaseException") (b:=true) (by decide +kernel),Bool.or_true]
  exact z)
 refine @PySem.W.check_slot (model prog w) _ _ ⟨hp,g,d,t+1,os⟩ "BaseException.__getattribute__" "BaseException" "__getattribute__" (.ref e) [.str "__class__" t] [] _ (by decide +kernel) (by decide +kernel) sub (PySem.F.args_bexc_ga (.ref e) (.str "__class__" t)) ?_
 refine bh (cj (bh (cj (bh (ty.at (bh (L3.at ?_)))))))
 refine bh (ml (lq (PySem.W.class_get (s:=⟨hp,g,d,t+1,os⟩) (ox:=oe) (od:=od) X I c.cm ?_)))
 refine cj ?_
 show wpAny _ _ (handedOut (.ref C)) _ _ _
 rw[PySem.W.handedOut_of rfl]
 exact cj (cj h)
theorem tj(c:XC K C):PySem.W.KitX K (.ref e) (.ref C) (λh=>∃oe od,PySem.W.InstAt h e oe C od) where
 ty:=λ_ _ _ ⟨_,_,I⟩=>I.type
 it:=λM h X _=>by
  obtain⟨nm,qn,N,bs,bm,sn,sub,ab,col,dd,k0,k1,k2,k3,k5,mN,hC,hN,T⟩:=nQ X c.is
  intro A' Q' E' s' k q
  unfold isType loadHead
  exact bh (wpAny_loadPart (k _ _ hC) (cj q))
 ne:=λh tp dd its n sl X PL=>by
  obtain⟨nm,qn,N,bs,bm,sn,sub,ab,col,dd,k0,k1,k2,k3,k5,mN,hC,hN,T⟩:=nQ X c.is
  refine Bool.eq_false_iff.mpr λq=>?_
  have e:C=tp:=Value.ref.inj (beq_iff_eq.mp q)
  subst e
  rw[hC]at PL
  exact absurd (cR (λo:Obj=>o.cls) (dU PL)) (show ¬Value.type "type" = Value.type "tuple" by decide)
 ca:=λX ⟨_,_,I⟩ k=>DT c X I k
end
def ud(P:Program)(w:World):yu:=λouter H s E x s'=>∃e C dx H',x=.ref e/\s'.os=s.os/\AllBare s'.gens/\Un (gP outer) [] H H' s.heap s'.heap/\lh P w H' s'.heap/\vn (λb=>s.heap.objs.size<=b/\H' b=none) s'.heap e C dx/\E (.ref C) dx H'
def XN(X:Cx)(pins:List (Addr×Obj))(H:Hp)(b:Addr):Prop:=X.s₀.heap.objs.size<=b/\H b=none/\b≠X.env.locals/\(∀x c,X.env.cells.lookup x=some c->c≠b)/\∀p∈X.pn++pins,p.1≠b
theorem XN.new{X:Cx}{pins:List (Addr×Obj)}{σ:St}{H H':Hp}{s:Shared}(I:Inv X pins σ H s){b:Addr}(hb:s.heap.objs.size<=b)(hn:H' b=none):XN X pins H' b:=by
 have nb:∀{c:Addr} {o:Obj},s.heap.get? c=some o->c≠b:=λz y=>absurd (bL z) (by rw[y];exact px.mpr hb)
 refine⟨dD I.sz hb,hn,λy=>?_,λx c e=>?_,λp hp=>nb (I.pin p hp).1⟩
 ·obtain⟨m,⟨o,_,_,ho,_⟩,_⟩:=I.loc
  exact nb ho y.symm
 ·obtain⟨v,o,ho,_⟩:=I.cell x c e
  exact nb ho
def fF(X:Cx)(EH:St->XK):Prop:=∀(pins:List (Addr×Obj)) (σ:St) (H:Hp) (s:Shared) (e C:Addr) (dx:Option Addr),Inv X pins σ H s->vn (XN X pins H) s.heap e C dx->EH σ (.ref C) dx H->X.xe (.ref e) s
theorem vn.mono{N N':Addr->Prop}{h:Heap}{e C:Addr}{dx:Option Addr}(k:∀b,N b->N' b)(x:vn N h e C dx):vn N' h e C dx:=by
 obtain⟨n,vs,sl,he,c2,tb⟩:=x
 refine⟨k _ n,vs,sl,he,c2,tb.imp id ?_⟩
 rintro⟨T,oT,ts,nT,r⟩
 exact⟨T,oT,ts,k _ nT,r⟩
theorem fF.pass{X:Cx}{EH:St->XK}(L:fF X EH){pins:List (Addr×Obj)}{σ:St}{H:Hp}{s s':Shared}{x:Value}(I:Inv X pins σ H s)(h:ud X.prog X.w X.stack H s (EH σ) x s'):X.xe x s':=by
 obtain⟨e,C,dx,H',rfl,os,bare,un,bY,xa,q⟩:=h
 have I':Inv X pins σ H' s':=I.call' os un bY bare (λb z=>absurd z (by simp))
 exact L pins σ H' s' e C dx I' (xa.mono λb hb=>.new I hb.1 hb.2) q
section
variable {P:Program}{w:World}{K:Frag}{mg:Str->Option Value}{base:Heap}
theorem zI{N:List Str}{qual:Str}{scope:Scope}{f:Addr}{cd:Value}{A:Around}{outer:List Env}{s:Shared}{H:Hp}{E:XK}:fF (gk (ud P w) P w K mg base N qual scope f cd A outer s H E) (λ_=>E):=by
 intro pins σ H1 s1 e C dx I xa hE
 have Md:s.heap.objs.size<=s1.heap.objs.size:=I.sz
 refine yB (L:=s.heap.objs.size) (N:=λb=>s.heap.objs.size<=b/\H1 b=none) (base:=base) I.ok.frames I.stack rfl (λb hb=>⟨dD Md hb,I.bY.fresh hb⟩) (xa.mono λb hb=>⟨hb.1,hb.2.1⟩) λh' ch hX yn lv=>?_
 have nn:∀b o,s.heap.get? b=some o->b∉ch:=λb o z y=>absurd (bL z) (px.mpr (hX b y).1.1)
 have nf:∀b o,s.heap.get? b=some o->b∉gP outer->b∉gP (envOfC qual scope s.heap.objs.size f cd::outer):=λb o z hb y=>by
  rcases fH.mp (show b∈s.heap.objs.size::gP outer from y) with y | y
  ·have:=bL z
   rw[y]at this
   exact jo _ this
  ·exact hb y
 have sub:∀b,b∈gP outer->b∈gP (envOfC qual scope s.heap.objs.size f cd::outer):=λb hb=>fz (a:=b) s.heap.objs.size hb
 have un:Un (gP outer) [] H H1 s.heap s1.heap:=I.base
 refine⟨e,C,dx,H1,rfl,I.os,I.bare,⟨λb o z n hb hx=>lv.keep b o (nf b o z hb) (nn b o z) (un.keep b o z n hb hx),λb o z n hb hx=>?_,un.free,λb o z hx=>?_,un.tups,un.frzs,un.tbls⟩,λa u z=>?_,yn,hE⟩
 ·obtain⟨sl,z1⟩:=un.slot b o z n hb hx
  obtain⟨yT,z2⟩:=lv.slot b _ (sub b hb) z1
  exact⟨yT,z2⟩
 ·obtain⟨o',z1⟩:=un.there b o z hx
  by_cases hb:b∈gP (envOfC qual scope s.heap.objs.size f cd::outer)
  ·obtain⟨yT,z2⟩:=lv.slot b _ hb z1
   exact⟨_,z2⟩
  ·exact⟨o',lv.keep b o' hb (nn b o z) z1⟩
 ·refine(I.bY a u z).stay (λb v hb y=>?_) (λ_ q=>q) λ_ _ q=>q
  have hn:¬H1 b=none:=λy=>by
   rcases hb with rfl | hb
   ·rw[z]at y;cases y
   ·rw[hb]at y;cases y
  exact lv.keep b v (λy=>hn (I.ku b y)) (λy=>hn (hX b y).1.2) y
theorem j5.O5{x qual:Str}{st:Stmt}{f:Addr}{fd:FuncData}{N ps:List Str}{k:Nat}{sp:Sp}(F:j5 K x qual st f fd)(S:aY N ps (aj st))(len:∀vs H Q E,sp vs H Q E->vs.length=ps.length)
  (kO:∀(dh:Value) (A:Around) (outer:List Env) (s:Shared) (H:Hp) (vs:List V) (Q:VK) (E:XK),eB k (A.deeper (envOfC qual (aj st) s.heap.objs.size f dh))->sp vs H Q E->
   HC (gk (ud P w) P w K mg base N qual (aj st) f dh A outer s H E) N (aj st)->(∀x,(gk (ud P w) P w K mg base N qual (aj st) f dh A outer s H E).fn x=true)->
   fF (gk (ud P w) P w K mg base N qual (aj st) f dh A outer s H E) (λ_=>E)->PassesOwn (model P w) (gk (ud P w) P w K mg base N qual (aj st) f dh A outer s H E).A (gk (ud P w) P w K mg base N qual (aj st) f dh A outer s H E).env (gk (ud P w) P w K mg base N qual (aj st) f dh A outer s H E).xe->
   ∃t,w6 (gk (ud P w) P w K mg base N qual (aj st) f dh A outer s H E) (aV st) t/\t { nx:=λ_ H'=>Q .non H',rt:=Q } (start N vs) H):dc P w K mg base (ud P w) (k+1) f fd ps sp:=by
 obtain⟨oc,od,kV,doc,pm,an,dh,ct,Ab,rfl,lk,yb⟩:=F.ex
 refine DG lk yb S len λA outer s H vs Q E hr Ad=>?_
 obtain⟨t,h,q⟩:=kO dh A outer s H vs Q E hr Ad ⟨rfl,rfl⟩ (λ_=>rfl) zI PassesOwn.leaving
 exact⟨t,h.to,q⟩
end
section
variable {X:Cx}{k:Nat}{f C:Addr}{fd:FuncData}{ps:List Str}{sp:Sp}{EH:St->XK}{x:Str}{p pos:Pos}{e:Expr}{es:List Expr}{t:TA}
def lF(sp:Sp)(EH:St->XK)(t:TA):TE:=λσ H Q=>t σ H λvs H1=>sp vs H1 Q (EH σ)
theorem Bc{pins:List (Addr×Obj)}{σ:St}{H:Hp}{s:Shared}{Q:VK}{us:List Value}{vs:List V}(F:dc X.prog X.w X.K X.mg X.base (ud X.prog X.w) k f fd ps sp)(hr:eB k X.A)(hb:Binds X.K fd ps [])(hx:fF X EH)
  (I:Inv X pins σ H s) (r:Vals vs us) (h:sp vs H Q (EH σ)):wpAny (model X.prog X.w) X.A (call (.ref f) us) (EP X pins σ Q) X.xe s:=by
 have hl:us.length=ps.length:=by rw[<-r.length];exact F.len _ _ _ _ h
 have b:=hb s us I.mV (by rw[nE];exact hl)
 rw[nE]at b
 refine lq (codeAny_mono (F.run X.A X.stack s H ⟨us,[]⟩ us vs Q (EH σ) hr I.Il b r h) λr s' hq=>?_)
 cases r with
 | error e=>exact hx.pass I hq
 | ok fl=>
  cases fl with
  | ret u=>exact I.after hq
  | _=>exact False.elim hq
theorem zq(F:dc X.prog X.w X.K X.mg X.base (ud X.prog X.w) k f fd ps sp)(hr:eB k X.A)(hg:Gl X x)(hm:X.mg x=some (.ref f))(hk:PySem.W.keepIn X.K (.ref f)=true)(hb:Binds X.K fd ps [])(hx:fF X EH)
  (ha:PA X (e::es) t) (rq:(x==("__debug__" : Str))=false:=by decide) (he:starEach (e::es) X.env=(false,eval e X.env)::starEach es X.env:=by rfl) (ug:(backTo pos (starEach es X.env)).any (·.1)=false:=by rfl) :
  PE X (.Call (.Name x p) (e::es) [] pos) (lF sp EH t):=by
 intro pins s σ H Q I h
 refine rQ (kK I hg hm ?_ rq)
 exact uy (h₀:=X.base) I.ok.mod.Hr hk (bS (ha pos pins s σ H _ I h) λus s1 ⟨vs,H1,I1,r,q⟩=>⟨I1.mV,Bc F hr hb hx I1 r q⟩) he ug
theorem lB(F:dc X.prog X.w X.K X.mg X.base (ud X.prog X.w) k f fd ps sp)(hr:eB k X.A)(hg:Gl X x)(hm:X.mg x=some (.ref f))(hk:PySem.W.keepIn X.K (.ref f)=true)(hb:Binds X.K fd ps [])(hx:fF X EH)
  (ha:ZA X (e::es) t) (rq:(x==("__debug__" : Str))=false:=by decide) (he:starEach (e::es) X.env=(false,eval e X.env)::starEach es X.env:=by rfl) (ug:(backTo pos (starEach es X.env)).any (·.1)=false:=by rfl) :
  ZE X (.Call (.Name x p) (e::es) [] pos) (lF sp EH t):=⟨zq F hr hg hm hk hb hx ha.to rq he ug⟩
end
section
variable {X:Cx}{k:Nat}{fI C:Addr}{fd:FuncData}{ps:List Str}{sp:Sp}{EH:St->XK}{x:Str}{np gp pos:Pos}{a:Expr}{t:TA}
def je(C:Addr)(t:TA)(EH:St->XK):TS:=λ_ σ H=>t σ H λvs H1=>vs.length<=sizeLine/\EH σ (.ref C) none H1
theorem xM(c:XC X.K C)(hi:PySem.W.findIn X.K (.ref C) "__init__" = some (some (.builtin "ValueError.__init__")))(hk:PySem.W.keepIn X.K (.ref C)=true)(hg:Gl X x)(hm:X.mg x=some (.ref C))(hc:X.calm=true)(L:fF X EH)(ha:PA X [a] t)
  (rq:(x==("__debug__" : Str))=false:=by decide) (he:starEach [a] X.env=(false,eval a X.env)::starEach [] X.env:=by rfl) (ug:(backTo gp (starEach [] X.env)).any (·.1)=false:=by rfl) :
  PS X (.Raise (some (.Call (.Name x np) [a] [] gp)) none pos) (je C t EH):=by
 intro pins s σ H D I h
 rw[arm_exec_Raise]
 refine bh (pz (DQ c.is (I.ok.hd hc) ?_))
 refine bh (rQ (kK I hg hm ?_ rq))
 refine uy (h₀:=X.base) I.ok.mod.Hr hk (bS (ha gp pins s σ H _ I h) λus s1 ⟨vs,H1,I1,r,z,q⟩=>⟨I1.mV,?_⟩) he ug
 refine call_plain I1.mV c.is hi (λh' t kp e1=>bh (pz (cj ?_))) (by rw[List.nil_append,<-r.length];exact z)
 have I2:Inv X pins σ H1 { s1 with heap:=h' }:=I1.kept (t':=s1.toks) kp
 refine⟨_,none,t,rfl,I2.mV,e1,L pins σ H1 _ _ C none I2 ⟨.new I1 (qt _) (I1.bY.fresh (qt _)),_,_,e1,rfl,.inl rfl⟩ q⟩
def Dd(e C:Addr)(dx:Option Addr)(t:Addr):Heap->Prop:=λh=>h.get? e=some (Ow C dx t)
def m8(C:Addr)(fld:Str)(t:TE)(EH:St->XK):TS:=λ_ σ H=>t σ H λv H1=>∀dx,H1 dx=none->EH σ (.ref C) (some dx) (upd H1 dx (.xd [(fld,v)]))
end
section
variable {X:Cx}{B:Addr}{x:Str}{np gp apos pos pos':Pos}{a b o value:Expr}{t:TA}{ta tv:TE}{fld:Str}
def vR(K:Frag)(t:TA):TE:=λσ H Q=>t σ H λvs H1=>∃e C t0 v,vs=[.ref e,v]/\H1 e=some (.ext (Dd e C none t0))/\XC K C/\∀t',Q .non (upd H1 e (.ext (Dd e C none t')))
def vV(K:Frag)(ta tv:TE)(fld:Str):TS:=λD σ H=>tv σ H λy H1=>ta σ H1 λx H2=>∃e C t,x=.ref e/\H2 e=some (.ext (Dd e C none t))/\XC K C/\PySem.W.takerIn K C fld=some none/\
 ∀dx,H2 dx=none->dx≠e->D.nx σ (upd (upd H2 e (.ext (Dd e C (some dx) t))) dx (.xd [(fld,y)]))
end
def rJ(e C:Addr)(dx:Option Addr):Heap->Prop:=λh=>∃vs sl,h.get? e=some ⟨.ref C,dx,.fields vs,sl⟩/\vs[2]?=some .none
section
variable {X:Cx}{pins:List (Addr×Obj)}{σ:St}{H:Hp}{s:Shared}{e C:Addr}{dx:Option Addr}
theorem Inv.left{ch:List Addr}{h':Heap}(I:Inv X pins σ H s)(hX:∀b∈ch,XN X pins H b)(lv:Lv (gP X.stack) ch s.heap h'):Inv X pins σ H { s with heap:=h' }:=by
 refine I.call (H':=H) (g':=s.gens) (t':=s.toks) (d':=s.drawn) (ch:=ch) ⟨λb o z n hb hc=>lv.keep b o hb hc z,λb o z n hb hc=>lv.slot b o hb z,λ_ _ _ n _=>n,λb o z hc=>?_,λ_ _ z=>z,λ_ _ _ z=>z,λb ps z=>⟨#[],by rw[z];simp⟩⟩ (λa u z=>?_) I.bare λb hb=>?_
 ·by_cases hb:b∈gP X.stack
  ·obtain⟨sl,q⟩:=lv.slot b o hb z
   exact⟨_,q⟩
  ·exact⟨o,lv.keep b o hb hc z⟩
 ·refine(I.bY a u z).stay (λb v hb y=>?_) (λ_ q=>q) λ_ _ q=>q
  have hn:¬H b=none:=λy=>by
   rcases hb with rfl | hb
   ·rw[z]at y;cases y
   ·rw[hb]at y;cases y
  exact lv.keep b v (λy=>hn (I.ku b y)) (λy=>hn (hX b y).2.1) y
 ·obtain⟨a,b,c,d,e⟩:=hX b hb
  exact⟨.inr a,c,d,e⟩
theorem Inv.adopt{φ:Heap->Prop}(I:Inv X pins σ H s)(n:XN X pins H e)(hφ:cZ X.prog X.w (upd H e (.ext φ)) s.heap e (.ext φ)):Inv X pins σ (upd H e (.ext φ)) s:=by
 obtain⟨n1,n2,n3,n4,n5⟩:=n
 have ne:∀{b:Addr} {u:HO},H b=some u->b≠e:=λz y=>by rw[y,n2]at z;cases z
 have n0:∀{b:Addr} {o:Obj},X.s₀.heap.get? b=some o->b≠e:=λz y=>absurd (bL z) (by rw[y];exact px.mpr n1)
 refine⟨I.ok,I.os,I.bare,⟨I.base.keep,I.base.slot,λb ob z n hx=>by rw[aD (n0 z)];exact I.base.free b ob z n hx,I.base.there,λb xs z=>?_,λb ob u z=>?_,λb ps z=>?_⟩,I.loc,I.cell,by rw[aD n3.symm];exact I.free,λx c z=>by rw[aD (n4 x c z)];exact I.dS x c z,λp hp=>?_,λb u z=>?_,I.len⟩
 ·have e1:=I.base.tups b xs z
  rw[aD (ne e1)];exact e1
 ·have e1:=I.base.frzs b ob u z
  rw[aD (ne e1)];exact e1
 ·obtain⟨m,e1⟩:=I.base.tbls b ps z
  exact⟨m,by rw[aD (ne e1)];exact e1⟩
 ·obtain⟨p1,p2,p3⟩:=I.pin p hp
  exact⟨p1,by rw[aD (n5 p hp)];exact p2,p3⟩
 ·by_cases hb:b=e
  ·subst hb;rw[aq]at z;cases z;exact hφ
  ·rw[aD hb]at z
   exact(I.bY b u z).stay (λ_ _ _ q=>q) (λc q=>by rw[aD (ne q)];exact q) λc xs q=>by rw[aD (ne q)];exact q
theorem DR{P:Program}{w:World}{H:Hp}{h:Heap}(z:rJ e C dx h):cZ P w H h e (.ext (rJ e C dx)):=⟨z,let ⟨_,_,q,_⟩:=z;⟨_,q⟩,λh1 h2 ⟨vs,sl,a,c⟩ b=>⟨vs,sl,b _ a,c⟩⟩
theorem Inv.unbound{i:Nat}{x:Str}{m:Str->Option Value}{u:Option Value}{h':Heap}(I:Inv X pins σ H s)(hN:X.N.Nodup)(hi:X.N[i]?=some x)(hk:X.env.scope.names.lookup x=some .local)
  (hm:s.heap.Ns X.env.locals m) (hn:h'.Ns X.env.locals (λy=>if y=x then u else m y)) (hs:Heap.SameBut X.env.locals s.heap h'):Inv X pins (σ.set i none) H { s with heap:=h' }:=by
 have GC:i<σ.length:=by rw[I.len];exact(fK.mp hi).1
 obtain⟨m0,Tw,hl⟩:=id I.loc
 have nL:∀{b:Addr} {o:Obj},X.s₀.heap.get? b=some o->b≠X.env.locals:=λz=>dk (fu (bL z) I.ok.above)
 have em:∀y,m0 y=m y:=λy=>by
  obtain⟨o,es,ep,ho,hd,_,r⟩:=Tw
  obtain⟨o',DK,JR,rM,JD,_,r'⟩:=hm
  rw[ho]at rM;cases rM
  rw[hd]at JD;cases JD
  rw[<-r y,<-r' y]
 refine⟨I.ok,I.os,I.bare,⟨λb o z n hb hx=>(hs.2 b (nL z)).trans (I.base.keep b o z n hb hx),λb o z n hb hx=>?_,I.base.free,λb o z hx=>?_,I.base.tups,I.base.frzs,I.base.tbls⟩,⟨_,hn,λj y v e1 e2 e3=>?_⟩,λy c z=>?_,I.free,I.dS,λp hp=>?_,λb ob z=>?_,by rw[qy];exact I.len⟩
 ·obtain⟨sl,q⟩:=I.base.slot b o z n hb hx
  exact⟨sl,(hs.2 b (nL z)).trans q⟩
 ·obtain⟨o',q⟩:=I.base.there b o z hx
  exact⟨o',(hs.2 b (nL z)).trans q⟩
 ·by_cases hj:j=i
  ·subst hj
   rw[vH GC]at e2
   cases e2
  ·rw[uA (ic hj)]at e2
   obtain⟨u',r',q⟩:=hl j y v e1 e2 e3
   refine⟨u',r',?_⟩
   rcases q with ⟨k,z⟩ | ⟨k,c,z,y'⟩
   ·refine .inl ⟨k,?_⟩
    have:y≠x:=λz=>hj (oo hN e1 (z ▸ hi))
    dsimp only
    rw[aK this,<-em];exact z
   ·exact .inr ⟨k,c,z,y'.sameBut hs (I.CV y c z)⟩
 ·obtain⟨w',q⟩:=I.cell y c z
  exact⟨w',q.sameBut hs (I.CV y c z)⟩
 ·obtain⟨p1,p2,p3,p4⟩:=I.pin p hp
  exact⟨(hs.2 _ p3).trans p1,p2,p3,p4⟩
 ·refine(I.bY b ob z).stay (λc v hc q=>(hs.2 c λy=>?_).trans q) (λ_ q=>q) λ_ _ q=>q
  rcases hc with rfl | hc
  ·rw[y,I.free]at z;cases z
  ·rw[y,I.free]at hc;cases hc
theorem DS{prog:Program}{w:World}{A:Around}{E:Value->Shared->Prop}{K:Frag}{B:Addr}{Q:Bool->Shared->Prop}(X:K.In s.heap)(q:lC K B=true)(hs:PySem.W.subIn K (.ref C) (.ref B)=some true)(he:rJ e C dx s.heap)(h:Q true s) :
  wpAny (model prog w) A (excMatches (.ref e) (.ref B)) Q E s:=by
 obtain⟨nm,qn,N,bs,bm,sn,sub,ab,col,dd,k0,k1,k2,k3,k5,mN,hC,hN,T⟩:=nQ X q
 have hb:(Value.ref B::bm).contains (.type "BaseException")=true:=by rw[ux,T.hasType (X:="BaseException") (b:=true) (by decide +kernel),Bool.or_true]
 obtain⟨vs,sl,o1,_⟩:=he
 have L:=PySem.W.looks_subIn (M:=model prog w) X hs
 obtain⟨hp,g,d,tk,os⟩:=s
 dsimp only at hC o1 L
 have f:=tc_notTuple
 unfold excMatches
 repeat (first | with_reducible refine pC o1 ?_ | with_reducible refine pC hC ?_ | (with_reducible refine vy hC ?_;rw[hb]) | with_reducible refine L.at ?_ | wp_step)
 exact h
end
@[reducible] def Cx.tri (X:Cx) (xe:Value->Shared->Prop) (pn:List (Addr×Obj)):Cx:={ X with xe:=xe,pn:=pn }
@[reducible] def Cx.yp (X:Cx) (e:Addr):Cx:={ X with A:=X.A.mark (some (.ref e)),calm:=false,xe:=λ_ _=>False }
section
variable {X:Cx}{pins fP:List (Addr×Obj)}{σ:St}{H:Hp}{s:Shared}{e:Addr}{xe:Value->Shared->Prop}
theorem Inv.tri(I:Inv X pins σ H s):Inv (X.tri xe (X.pn++pins)) [] σ H s:=
 ⟨⟨I.ok.mod,I.ok.kind,I.ok.glob,I.ok.blt,I.ok.above,I.ok.inj,I.ok.has,I.ok.CW,I.ok.hd,I.ok.frames,I.ok.Dp,I.ok.GL,I.ok.bs,I.ok.yt,I.ok.qS,I.ok.tQ,I.ok.jT,I.ok.Af⟩,I.os,I.bare,I.base,I.loc,I.cell,I.free,I.dS,λp hp=>I.pin p (by rw[nE]at hp;exact hp),I.bY,I.len⟩
theorem Inv.sv(I:Inv (X.tri xe (X.pn++pins)) fP σ H s):Inv X pins σ H s:=
 ⟨⟨I.ok.mod,I.ok.kind,I.ok.glob,I.ok.blt,I.ok.above,I.ok.inj,I.ok.has,I.ok.CW,I.ok.hd,I.ok.frames,I.ok.Dp,I.ok.GL,I.ok.bs,I.ok.yt,I.ok.qS,I.ok.tQ,I.ok.jT,I.ok.Af⟩,I.os,I.bare,I.base,I.loc,I.cell,I.free,I.dS,λp hp=>I.pin p (pE _ hp),I.bY,I.len⟩
theorem Inv.yp(I:Inv X pins σ H s):Inv (X.yp e) pins σ H s:=
 ⟨⟨I.ok.mod,I.ok.kind,I.ok.glob,I.ok.blt,I.ok.above,I.ok.inj,I.ok.has,I.ok.CW,λz=>Bool.noConfusion z,I.ok.frames,I.ok.Dp,I.ok.GL,I.ok.bs,I.ok.yt,I.ok.qS,I.ok.tQ,I.ok.jT,I.ok.Af⟩,I.os,I.bare,I.base,I.loc,I.cell,I.free,I.dS,I.pin,I.bY,I.len⟩
theorem Inv.vM(ok:X.Ok)(I:Inv (X.yp e) pins σ H s):Inv X pins σ H s:=⟨ok,I.os,I.bare,I.base,I.loc,I.cell,I.free,I.dS,I.pin,I.bY,I.len⟩
end
def Ends.DW(D:Ends)(i:Nat):Ends:={ nx:=λσ H=>D.nx (σ.set i none) H,rt:=D.rt,bk:=λσ H=>D.bk (σ.set i none) H,ct:=λσ H=>D.ct (σ.set i none) H }
def xm(K:Frag)(i:Nat)(B:Addr)(tb:(St->XK)->TS)(ts:TS):TS:=λD σ H=>∃EH:St->XK,tb EH D σ H/\∀σ' C dx H',EH σ' (.ref C) dx H'->PySem.W.subIn K (.ref C) (.ref B)=some true/\∀e,H' e=none->ts (D.DW i) (σ'.set i (some (.ref e))) (upd H' e (.ext (rJ e C dx)))
section
variable {X:Cx}{B:Addr}{x n:Str}{np u5 pos:Pos}{body suite:List Stmt}{b₀:Stmt}{tb:(St->XK)->TS}{ts:TS}{i:Nat}
theorem jd{pins:List (Addr×Obj)}{σ:St}{H:Hp}{s:Shared}{M:Model}{A:Around}{E:Value->Shared->Prop}{Q:Unit->Shared->Prop}(I:Inv X pins σ H s)(hN:X.N.Nodup)(hi:X.N[i]?=some n)(hk:X.env.scope.names.lookup n=some .local)
  (h:∀s',Inv X pins (σ.set i none) H s'->Q () s'):wpAny M A (do bindName X.env n .none;unbindBehindTheSuite X.env n u5) Q E s:=by
 have FJ:(X.env.scope.kind == .class||(X.env.scope.kind == .module&&X.env.locals != X.env.globals))=false:=by rw[I.ok.kind];rfl
 unfold bindName
 refine bh (bh (ml (wpAny_point (bh (iC (v:=.non) I hN hi (.inl hk) rfl (λs1 I1=>wpAny_point ?_) (.inr hk))))))
 unfold unbindBehindTheSuite
 refine wpAny_onRaise ?_
 obtain⟨m,hm,hl⟩:=id I1.loc
 have GC:i<σ.length:=by rw[I.len];exact(fK.mp hi).1
 obtain⟨u,ru,lk⟩:=hl i n .non hi (by rw[vH GC]) (.inl hk)
 have hv:∃v,m n=some v:=by
  rcases lk with ⟨_,z⟩ | ⟨k,_⟩
  ·exact⟨_,z⟩
  ·exfalso
   rcases k with k | k
   ·rw[show X.env.kindOf n=X.env.scope.names.lookup n from rfl,hk]at k;cases k
   ·rw[show X.env.kindOf n=X.env.scope.names.lookup n from rfl,hk]at k;cases k
 obtain⟨v,hv⟩:=hv
 refine wpAny_unbindName_local hk hm hv FJ λh' u Mr Tp=>h _ ?_
 have I2:=I1.unbound hN hi hk hm Mr Tp
 rwa [List.set_set]at I2
theorem Ak{M:Model}{A:Around}{E:Value->Shared->Prop}{s:Shared}{N:Addr->Prop}{e C:Addr}{dx:Option Addr}{fs:List Addr}{Q:Unit->Shared->Prop}(Mt:∀b∈fs,∀o vs,s.heap.get? b=some o->o.data≠.fields vs)(x:vn N s.heap e C dx)
  (h:∀h' ch,(∀b∈ch,N b)->vn N h' e C dx->Lv fs ch s.heap h'->Q () { s with heap:=h' }):wpAny M A (setFlight (.ref e) none) Q E s:=by
 obtain⟨ne,vs,sl,he,c2,tb⟩:=x
 rcases tb with h1 | ⟨T,oT,ts,nT,mX,h1,hT,dT,h3⟩
 ·unfold setFlight
  refine bh (jm he rfl h1 ?_)
  rw[aK (by decide)]
  exact cj (h s.heap [] (λb hb=>absurd hb (by simp)) ⟨ne,vs,sl,he,c2,.inl h1⟩ ⟨λb o _ _ z=>z,λb o _ z=>⟨o.slots,z⟩⟩)
 ·have z3:=(jq.mp h3).1
  refine Dk he rfl h1 hT dT z3 ?_
  have ot:∀b o,b≠T->s.heap.get? b=some o->(s.heap.update T (Obj.mapFields (·.setIfInBounds 3 Value.none))).get? b=some o:=λb o hb z=>(kb _ _ hb.symm).trans z
  have t4:=pD (Obj.mapFields (·.setIfInBounds 3 Value.none)) hT (vD (mr dT _))
  refine h _ [T] (λb hb=>by rw[dE.mp hb];exact nT) ⟨ne,vs,sl,ot _ _ mX.symm he,c2,.inr ⟨T,_,_,nT,mX,h1,t4,mr dT _,by simp[z3]⟩⟩ ⟨λb o _ hb z=>ot b o (λy=>hb (by rw[y];simp)) z,λb o hb z=>⟨o.slots,ot b o (λy=>?_) z⟩⟩
  subst y
  rw[hT]at z
  cases z
  exact Mt b hb oT ts hT dT
theorem Gh{pins:List (Addr×Obj)}{σ:St}{H:Hp}{s:Shared}{e C:Addr}{dx:Option Addr}{D:Ends}(I:Inv X pins σ H s)(yr:X.stack=X.env::X.outer)(o9:X.env.frame=some X.env.locals)(hN:X.N.Nodup)(hi:X.N[i]?=some n)(hk:X.env.scope.names.lookup n=some .local)(q:lC X.K B=true)(hg:Gl X x)(hm:X.mg x=some (.ref B))
  (hs:∀e,o4 (X.yp e) (b₀::suite) ts) (xa:vn (XN X pins H) s.heap e C dx) (sb:PySem.W.subIn X.K (.ref C) (.ref B)=some true) (h:ts (D.DW i) (σ.set i (some (.ref e))) (upd H e (.ext (rJ e C dx)))) (rq:(x==("__debug__" : Str))=false:=by decide) :
  wpAny (model X.prog X.w) X.A (noteFrame (.ref e) X.env) (λ_ s₂=>wpAny (model X.prog X.w) X.A (setFlight (.ref e) none) (λ_ s₃=>wpAny (model X.prog X.w) X.A (handleBy (.ref e) X.env [.ExceptHandler (some (.Name x np)) (some n) (b₀::suite) u5]) (SP X pins D) X.xe s₃) X.xe s₂) X.xe s:=by
 have JC:=I.ok.frames
 have Jo:=I.stack
 rw[yr]at JC Jo
 refine yC (L:=X.env.locals) (base:=X.base) JC Jo o9 (λb hb=>.new I hb (I.bY.fresh hb)) xa λh' ch hX yn lv=>?_
 rw[<-yr]at lv
 have I1:=I.left (λb hb=>(hX b hb).1) lv
 obtain⟨ne,vs,sl,o1,c1,Rm⟩:=yn
 refine wpAny_handleBy_cons (codeAny_handlers_test (kK (X:=X.yp e) I1.yp hg hm (DS I1.mV q sb ⟨vs,sl,o1,c1⟩ ?_) rq)) (by intro z;cases z)
 show codeAny _ _ _ _ _
 refine codeAny_handlers_suite_as (Ak (fs:=gP X.stack) (N:=XN X pins H) (λb hb o ws z=>?_) ⟨ne,vs,sl,o1,c1,Rm⟩ λh2 N5 FK Jf Ln=>?_)
 ·obtain⟨_,o',z',nd⟩:=I1.stack.mem hb
  rw[z]at z';cases z'
  exact nd ws
 have I2:=I1.left FK Ln
 obtain⟨ne2,Rl,yT,o2,c2,_⟩:=Jf
 have I3:=(I2.adopt (φ:=rJ e C dx) ne2 (DR ⟨Rl,yT,o2,c2⟩)).yp (e:=e)
 refine iC (X:=X.yp e) (v:=.ref e) I3 hN hi (.inl hk) rfl (λs4 I4=>?_) (.inr hk)
 refine bW (hs e pins s4 _ _ (D.DW i) I4 h) (λf s5 q5=>?_) λ_ _ z=>False.elim z
 show wpAny _ _ (do bindName X.env n .none;unbindBehindTheSuite X.env n u5) _ _ _
 cases f with
 | next=>
  obtain⟨σ5,H5,I5,q5⟩:=q5
  exact jd (I5.vM I.ok) hN hi hk λs6 I6=>⟨_,H5,I6,q5⟩
 | brk=>
  obtain⟨σ5,H5,I5,q5⟩:=q5
  exact jd (I5.vM I.ok) hN hi hk λs6 I6=>⟨_,H5,I6,q5⟩
 | cont=>
  obtain⟨σ5,H5,I5,q5⟩:=q5
  exact jd (I5.vM I.ok) hN hi hk λs6 I6=>⟨_,H5,I6,q5⟩
 | ret u=>
  obtain⟨v,σ5,H5,I5,ru,q5⟩:=q5
  exact jd (I5.vM I.ok) hN hi hk λs6 I6=>⟨v,_,H5,I6,ru,q5⟩
theorem El(yr:X.stack=X.env::X.outer)(o9:X.env.frame=some X.env.locals)(hN:X.N.Nodup)(hi:X.N[i]?=some n)(hk:X.env.scope.names.lookup n=some .local)(q:lC X.K B=true)(hg:Gl X x)(hm:X.mg x=some (.ref B))
  (hb:∀(EH:St->XK) (xe:Value->Shared->Prop) (pn:List (Addr×Obj)),fF (X.tri xe pn) EH->PassesOwn (model X.prog X.w) X.A X.env xe->o4 (X.tri xe pn) body (tb EH)) (hs:∀e,o4 (X.yp e) (b₀::suite) ts) (rq:(x==("__debug__" : Str))=false:=by decide) :
  PS X (.Try body [.ExceptHandler (some (.Name x np)) (some n) (b₀::suite) u5] [] [] pos) (xm X.K i B tb ts):=by
 intro pins s σ H D I h
 obtain⟨EH,h1,h2⟩:=h
 refine wpAny_Try_except ?_
 have L:fF (X.tri (λv s₁=>wpAny (model X.prog X.w) X.A (noteFrame v X.env) (λ_ s₂=>wpAny (model X.prog X.w) X.A (setFlight v none) (λ_ s₃=>wpAny (model X.prog X.w) X.A (handleBy v X.env [.ExceptHandler (some (.Name x np)) (some n) (b₀::suite) u5]) (SP X pins D) X.xe s₃) X.xe s₂) X.xe s₁) (X.pn++pins)) EH:=by
  intro fP σ' H' s' e C dx I' yn q'
  obtain⟨sb,Tg⟩:=h2 σ' C dx H' q'
  refine Gh I'.sv yr o9 hN hi hk q hg hm hs (yn.mono λb hb=>⟨hb.1,hb.2.1,hb.2.2.1,hb.2.2.2.1,λp hp=>hb.2.2.2.2 p (pE _ hp)⟩) sb (Tg e yn.1.2.1) rq
 refine bW (hb EH _ _ L PassesOwn.looking [] s σ H D I.tri h1) (λf s1 q1=>?_) λ_ _ z=>z
 cases f with
 | next=>
  obtain⟨σ1,H1,I1,q1⟩:=q1
  exact cj ⟨σ1,H1,I1.sv,q1⟩
 | brk=>
  obtain⟨σ1,H1,I1,q1⟩:=q1
  exact⟨σ1,H1,I1.sv,q1⟩
 | cont=>
  obtain⟨σ1,H1,I1,q1⟩:=q1
  exact⟨σ1,H1,I1.sv,q1⟩
 | ret u=>
  obtain⟨v,σ1,H1,I1,ru,q1⟩:=q1
  exact⟨v,σ1,H1,I1.sv,ru,q1⟩
end
def qq(H:Hp)(dx:Option Addr):Prop:=∀d,dx=some d->∃fs,H d=some (.xd fs)
section
variable {X:Cx}{pins:List (Addr×Obj)}{σ:St}{H:Hp}{s:Shared}{e C:Addr}{dx:Option Addr}
theorem Dl(I:Inv X pins σ H s)(he:H e=some (.ext (rJ e C dx)))(hd:qq H dx):∃oe od,PySem.W.InstAt s.heap e oe C od:=by
 obtain⟨vs,sl,o1,_⟩:=(I.bY e _ he).1
 cases dx with
 | none=>exact⟨_,none,o1,rfl,rfl,True.intro⟩
 | some d=>
  obtain⟨fs,hd⟩:=hd d rfl
  obtain⟨mA,n,_⟩:=I.bY d _ hd
  obtain⟨od,ho,_⟩:=qb n
  exact⟨_,some od,o1,rfl,rfl,ho⟩
def lJ(K:Frag):List V->Hp->VK->Prop:=λvs H Q=>∃e T,vs=[.ref e,.ty T]/\∃C dx,H e=some (.ext (rJ e C dx))/\qq H dx/\XC K C/\∃b,PySem.W.kitOne K (.ref C) (.type T)=some b/\Q (.bl b) H
theorem vj:cH X (.builtin "isinstance") (lJ X.K):=by
 intro pins s σ H vs us Q I r h
 obtain⟨e,T,rfl,C,dx,he,hd,c,b,hb,q⟩:=h
 obtain⟨u1,u2,rfl,r1,r2⟩:=r.two
 obtain rfl:u1=Value.ref e:=r1
 obtain rfl:u2=Value.type T:=r2
 exact gF (tj c) I.mV (Dl I he hd) hb (λz=>by cases z) λtk=>⟨.bl b,H,I.tok _,rfl,q⟩
def lK(K:Frag):List V->Hp->VK->Prop:=λvs H Q=>∃e D,vs=[.ref e,.ref D]/\∃C dx,H e=some (.ext (rJ e C dx))/\qq H dx/\XC K C/\∃b,PySem.W.kitOne K (.ref C) (.ref D)=some b/\Q (.bl b) H
theorem vk:cH X (.builtin "isinstance") (lK X.K):=by
 intro pins s σ H vs us Q I r h
 obtain⟨e,D,rfl,C,dx,he,hd,c,b,hb,q⟩:=h
 obtain⟨u1,u2,rfl,r1,r2⟩:=r.two
 obtain rfl:u1=Value.ref e:=r1
 obtain rfl:u2=Value.ref D:=r2
 exact gF (tj c) I.mV (Dl I he hd) hb (λz=>by cases z) λtk=>⟨.bl b,H,I.tok _,rfl,q⟩
def qK(K:Frag):List V->Hp->VK->Prop:=λvs H Q=>∃e p,vs=[.ref e,.ref p]/\∃Ds:List Addr,H p=some (.tup (Ds.map V.ref))/\∃C dx,H e=some (.ext (rJ e C dx))/\qq H dx/\XC K C/\∃b,PySem.W.kitAny K (.ref C) (Ds.map Value.ref)=some b/\Q (.bl b) H
def vQ(K:Frag)(ta:TE)(f:Str):TE:=λσ H Q=>ta σ H λx H1=>∃e,x=.ref e/\∃C dx,H1 e=some (.ext (rJ e C (some dx)))/\XC K C/\PySem.W.findIn K (.ref C) f=some none/\∃fs,H1 dx=some (.xd fs)/\∃v,fs.lookup f=some v/\Q v H1
end
theorem Dt{X:Cx}{P:Program}{w:World}:Passes (ud P w) X E0:=λ_ _ _ _ _ _ _ h=>by
 obtain⟨_,_,_,_,_,_,_,_,_,_,q⟩:=h
 exact q.elim
section
variable {X:Cx}{N:List Str}{sc:Scope}
theorem P'{xe:Value->Shared->Prop}{pn:List (Addr×Obj)}(h:HC X N sc):HC (X.tri xe pn) N sc:=⟨h.n,h.s⟩
theorem P6{xe:Value->Shared->Prop}{pn:List (Addr×Obj)}(h:∀x,X.fn x=true):∀x,(X.tri xe pn).fn x=true:=h
theorem P7{e:Addr}(h:∀x,X.fn x=true):∀x,(X.yp e).fn x=true:=h
theorem Qa{e:Addr}(h:HC X N sc):HC (X.yp e) N sc:=⟨h.n,h.s⟩
variable {k:Nat}{fI C B:Addr}{fd:FuncData}{ps:List Str}{sp:Sp}{EH:St->XK}{x n fld:Str}{np gp apos u5 pos pos':Pos}{a b o value:Expr}{t:TA}{te ta tv:TE}{body suite:List Stmt}{b₀:Stmt}{tb:(St->XK)->TS}{ts:TS}
theorem cV(c:XC X.K C)(hi:PySem.W.findIn X.K (.ref C) "__init__" = some (some (.builtin "ValueError.__init__")))(hk:PySem.W.keepIn X.K (.ref C)=true)(hg:Gl X x)(hm:X.mg x=some (.ref C))(hc:X.calm=true)(L:fF X EH)(ha:ZA X [a] t)
  (rq:(x==("__debug__" : Str))=false:=by decide) (he:starEach [a] X.env=(false,eval a X.env)::starEach [] X.env:=by rfl) (ug:(backTo gp (starEach [] X.env)).any (·.1)=false:=by rfl) :
  ZS X (.Raise (some (.Call (.Name x np) [a] [] gp)) none pos) (je C t EH):=⟨xM c hi hk hg hm hc L ha.to rq he ug⟩
theorem mK{K:Frag}(hK:X.K=K):cH X (.builtin "isinstance") (lJ K):=hK ▸ vj
theorem fS{K:Frag}(hK:X.K=K):cH X (.builtin "isinstance") (lK K):=hK ▸ vk
theorem rX(hc:HC X N sc)(nd:N.Nodup)(i:Nat)(h:uV N sc i n=true)(yr:X.stack=X.env::X.outer)(o9:X.env.frame=some X.env.locals)(q:lC X.K B=true)(hg:Gl X x)(hm:X.mg x=some (.ref B))
  (hb:∀(EH:St->XK) (xe:Value->Shared->Prop) (pn:List (Addr×Obj)),fF (X.tri xe pn) EH->PassesOwn (model X.prog X.w) X.A X.env xe->w6 (X.tri xe pn) body (tb EH)) (hs:∀e,w6 (X.yp e) (b₀::suite) ts) (rq:(x==("__debug__" : Str))=false:=by decide) :
  ZS X (.Try body [.ExceptHandler (some (.Name x np)) (some n) (b₀::suite) u5] [] [] pos) (xm X.K i B tb ts):=
 ⟨El yr o9 (by rw[hc.n];exact nd) (fB hc h).1 (fB hc h).2 q hg hm (λEH xe pn l p=>(hb EH xe pn l p).to) (λe=>(hs e).to) rq⟩
end
section
variable {X:Cx}
def vX(neg:Bool):R2:=λx y H Q=>∃p q,x=.ref p/\y=.ref q/\∃xs ys:List Str,H p=some (.tup (List.map V.str xs))/\H q=some (.tup (List.map V.str ys))/\Q (.bl (if neg then !decide (xs=ys) else decide (xs=ys))) H
end
end L2
end
section
namespace L2
open PySem PySem.Spec PySem.W PyProof.Rows Builtin
section
open PySem.SeqAt
open PySem.AutoSeq1 (wpAny_loadPart')
open PySem.MeetsSeq PySem.MeetsSeq2 PySem.MeetsSeq3
end
section
variable {X:Cx}{tg:Expr}
def qM:R2:=λx y H Q=>∃a b,x=.ref a/\y=.ref b/\∃xs,H a=some (.lst xs)/\H b=some (.lst [])/\Q (.bl (decide (xs=[]))) H
end
end L2
end
section
namespace L2
open PySem PySem.Spec PyProof.Rows Builtin Builtin.Str
section
variable {X:Cx}
def qL(neg:Bool):R2:=λx y H Q=>∃(c:Nat) (z:Str),x=.str ⟨#[c]⟩/\y=.str z/\Q (.bl (if neg then !decide (c∈z.cps.toList) else decide (c∈z.cps.toList))) H
theorem oJ{α:Type}(x:Array α):∀(n:Nat) (a:Array α),((List.replicate n x).foldl (· ++ ·) a).toList=a.toList++(List.replicate n x.toList).flatten
 | 0,a=>by simp
 | n+1,a=>by
  rw[vC,nF,oJ x n,vC,List.flatten_cons,Array.toList_append,um]
def sG:R2:=λx y H Q=>∃(z:Str) (n:Int),x=.str z/\y=.int n/\2<=n/\n<=10000/\1<=z.length/\z.length<=100/\∀u:Str,u.cps.toList=(List.replicate n.toNat z.cps.toList).flatten->Q (.str u) H
theorem qR:ib X (binaryOp .Mult) sG:=by
 intro pins s σ H x y v u Q I rx ry h
 obtain⟨z,n,rfl,rfl,h1,h2,h3,h4,q⟩:=h
 obtain⟨t,rfl⟩:=rx
 obtain⟨t',rfl⟩:=ry
 have hm:z.length*n.toNat<=1000000:=by
  have:=Nat.mul_le_mul h4 (show n.toNat<=10000 by omega)
  omega
 refine P.mul_str ?_ (λ_ _=>?_) (λ_ _=>?_) ?_
 ·rw[decide_eq_false (by omega),decide_eq_false (by omega)];rfl
 ·have:(100:Int)<=(2 ^ 63-1) / n:=by
   rw[Int.le_ediv_iff_mul_le (by omega)]
   omega
  omega
 ·unfold tooLong
  have:(1000000:Nat)<=sizeLine:=by decide
  exact decide_eq_false (by omega)
 ·rw[aK (by omega),aK (by
   rw[qx,not_or]
   exact⟨by simp;omega,by simp;omega⟩)]
  refine⟨?_,⟨.str _,H,I.tok _,⟨_,rfl⟩,q _ ?_⟩⟩
  ·have e:=cR List.length (oJ z.cps n.toNat #[])
   have e2:(List.replicate n.toNat z.cps.toList).flatten.length=n.toNat*z.length:=by
    rw[List.length_flatten,List.map_replicate,List.sum_replicate_nat];rfl
   rw[ft,e2]at e
   have e3:(⟨List.foldl (λx1 x2=>x1++x2) #[] (List.replicate n.toNat z.cps)⟩:Str).length=n.toNat*z.length:=by
    refine Eq.trans ?_ (e.trans (Nat.zero_add _))
    exact(nH).symm
   rw[e3,Nat.mul_comm]
   exact dD hm (by decide)
  ·rw[oJ];rfl
end
end L2
end
section
namespace L2
open PySem PySem.Spec PyProof.Rows
open PySem.W (Frag Looks)
end L2
end
section
namespace L2
open PySem PySem.Spec PyProof.Rows
section
variable {X:Cx}{pins:List (Addr×Obj)}{s:Shared}{σ:St}{H:Hp}{A:Around}
def Jb(v:V):Prop:=kQ v=true\/∃a,v=.ref a
def Bi:R2:=λx y H Q=>∃a b l l' m m' c,x=.ref a/\y=.ref b/\H a=some (.tup [.ref l,.ref m,.bl c])/\H b=some (.tup [.ref l',.ref m',.bl c])/\∃us vs,H l=some (.lst us)/\H l'=some (.lst us)/\H m=some (.lst vs)/\H m'=some (.lst vs)/\
 (∀v∈us,Jb v)/\(∀v∈vs,Jb v)/\Q (.bl false) H
def qD(tk tv:TE):TE:=λσ H Q=>∀p,H p=none->tk σ (upd H p (.dK [])) λx H1=>tv σ H1 λy H2=>H2 p=some (.dK [])/\∃eM:List (Key×V),[(x,y)]=eM.map (λkv=>(kV kv.1,kv.2))/\eM.length<=15/\Q (.ref p) (upd H2 p (.dK (Fj [] eM)))
end
section
variable {X:Cx}
def y2:List V->Hp->VK->Prop:=λvs H Q=>∃n:Int,vs=[.int n]/\n.natAbs.log2<1920/\Q (.str (Str.ofString (toString n))) H
theorem gQ:cH X (.type "str") y2:=by
 intro pins s σ H vs us Q I rv h
 obtain⟨n,rfl,hn,q⟩:=h
 obtain⟨u,rfl,ru⟩:=vals1 rv
 obtain⟨t,rfl⟩:=ru
 exact PySem.P.str_of_int hn ⟨.str _,H,I.tok _,⟨_,rfl⟩,q⟩
def zb:List V->Hp->VK->Prop:=λvs H Q=>∃x n,vs=[.str x]/\PySem.intText? x=some n/\x.length<=640/\Q (.int n) H
theorem qh:cH X (.type "int") zb:=by
 intro pins s σ H vs us Q I rv h
 obtain⟨x,n,rfl,hn,hl,q⟩:=h
 obtain⟨u,rfl,ru⟩:=vals1 rv
 obtain⟨t,rfl⟩:=ru
 exact PySem.W.KIN.call_text hn hl ⟨.int _,H,I.tok _,⟨_,rfl⟩,q⟩
end
section
variable {X:Cx}{v v₁ v₂:Expr}{rest:List Expr}{pos:Pos}{tv:TE}
abbrev TJ:=St->Hp->Str->(Str->Hp->Prop)->Prop
def PJ(X:Cx)(vs:List Expr)(t:TJ):Prop:=∀(pins:List (Addr×Obj)) (s:Shared) (σ:St) (H:Hp) (out:Str) (Q:Str->Hp->Prop),Inv X pins σ H s->t σ H out Q->
 wpAny (model X.prog X.w) X.A (joinParts out (evalEach vs X.env)) (EP X pins σ λx H'=>∃y,x=.str y/\Q y H') X.xe s
def Ck:TJ:=λ_ H out Q=>out.length<=sizeLine/\Q out H
def wz(tv:TE)(t:TJ):TJ:=λσ H out Q=>tv σ H λx H1=>∃y,x=.str y/\(out++y).length<=sizeLine/\t σ H1 (out++y) Q
theorem Er:PJ X [] Ck:=by
 intro pins s σ H out Q I h
 exact joinParts_nil ⟨.str out,H,I.tok _,⟨_,rfl⟩,out,rfl,h.2⟩ h.1
theorem Bx{t:TJ}(he:PE X v tv)(hr:PJ X rest t):PJ X (v::rest) (wz tv t):=by
 intro pins s σ H out Q I h
 refine joinParts_cons (bS (he pins s σ H _ I h) λu s1 ⟨x,H1,I1,rx,y,ex,hl,q⟩=>?_)
 subst ex
 obtain⟨tk,rfl⟩:=rx
 exact⟨hl,hr pins s1 σ H1 _ _ I1 q⟩
def vP(t:TE):TE:=λσ H Q=>t σ H λx H1=>∃n:Int,x=.int n/\n.natAbs.log2<1920/\Q (.str (Str.ofString (toString n))) H1
theorem BJ(he:PE X v tv):PE X (.FormattedValue v (-1) none pos) (vP tv):=by
 intro pins s σ H Q I h
 refine FormattedValue_plain (bS (he pins s σ H _ I h) λu s1 ⟨x,H1,I1,rx,n,ex,hl,q⟩=>?_)
 subst ex
 obtain⟨tk,rfl⟩:=rx
 exact formatField_int_small hl ⟨.str _,H1,I1.tok _,⟨_,rfl⟩,q⟩
def Dm(t:TE):TE:=λσ H Q=>t σ H λx H1=>∃y:Str,x=.str y/\y.length<=sizeLine/\Q (.str y) H1
def vO(t:TJ):TE:=λσ H Q=>t σ H Str.empty λy H'=>Q (.str y) H'
theorem BG{t:TJ}(h:PJ X (v₁::v₂::rest) t):PE X (.JoinedStr (v₁::v₂::rest) pos) (vO t):=by
 intro pins s σ H Q I hq
 refine JoinedStr_many (bW (h pins s σ H _ _ I hq) (λu s1 ⟨x,H1,I1,rx,y,ex,q⟩=>?_) λ_ _ z=>z)
 subst ex
 exact⟨_,H1,I1,rx,q⟩
structure ZJ(X:Cx)(vs:List Expr)(t:TJ):Prop where
 to:PJ X vs t
theorem vI:ZJ X [] Ck:=⟨Er⟩
theorem gK{t:TJ}(he:ZE X v tv)(hr:ZJ X rest t):ZJ X (v::rest) (wz tv t):=⟨Bx he.to hr.to⟩
theorem kg(he:ZE X v tv):ZE X (.FormattedValue v (-1) none pos) (vP tv):=⟨BJ he.to⟩
theorem rZ{t:TJ}(h:ZJ X (v₁::v₂::rest) t):ZE X (.JoinedStr (v₁::v₂::rest) pos) (vO t):=⟨BG h.to⟩
end
end L2
end
section
namespace L2
open PySem PySem.Spec PyProof.Rows
open PySem.W (Frag Looks)
def md(N:Addr->Prop)(h:Heap)(e C:Addr)(dx:Option Addr):Prop:=N e/\∃vs sl T oT ts,h.get? e=some ⟨.ref C,dx,.fields vs,sl⟩/\vs[2]?=some .none/\N T/\T≠e/\vs[1]?=some (.ref T)/\h.get? T=some oT/\oT.data=.fields ts/\3<ts.size
theorem md.mono{N N':Addr->Prop}{h:Heap}{e C:Addr}{dx:Option Addr}(k:∀b,N b->N' b)(x:md N h e C dx):md N' h e C dx:=by
 obtain⟨n,vs,sl,T,oT,ts,he,c2,nT,r⟩:=x
 exact⟨k _ n,vs,sl,T,oT,ts,he,c2,k _ nT,r⟩
section
variable {M:Model}{A:Around}{E:Value->Shared->Prop}{s:Shared}{env:Env}{outer:List Env}{base:Heap}{N:Addr->Prop}{e C L:Addr}{dx:Option Addr}
theorem yD{vs:Array Value}{sl:Array (Option Value)}{hd:Value}{hn:Bool}{Q:Unit->Shared->Prop}(ch:List Addr)(s1:Shared)(hs:s1.heap.objs.size=s.heap.objs.size)(es:s1={ s with heap:=s1.heap })(k:∀b o,b∉ch->s.heap.get? b=some o->s1.heap.get? b=some o)(hX:∀b∈ch,N b/\∃o vs,s.heap.get? b=some o/\o.data=.fields vs)(hl:s.heap.FunFrames base (env::outer))(Hy:s1.heap.FunFrames base (env::outer))(o9:A.frames=some (env::outer))(hf:env.frame=some L)(hN:∀b,s.heap.objs.size<=b->N b)(ne:N e)(TQ:e∈ch)(he:s1.heap.get? e=some ⟨.ref C,dx,.fields vs,sl⟩)(c2:vs[2]?=some .none)(hz:1<vs.size)
  (h:∀h' T oT ts,md N h' e C dx->T≠e->(∃vs sl,h'.get? e=some ⟨.ref C,dx,.fields vs,sl⟩/\vs[1]?=some (.ref T))->h'.get? T=some oT->oT.data=.fields ts->3<ts.size->Lv (gP (env::outer)) ch s.heap h'->Q () { s with heap:=h' }) :
  wpAny M A (do let a <-frameOf env;let pl <-entryPlaceOf L hn;let b <-EntryCells.newEntry hd a .none (rawInt L) .none pl;setField (.ref e) 1 b) Q E s1:=by
 refine uI o9 Hy hf he rfl hz λh' T oT ts a1 a2 a3 a4 a5 a6 a7 a8 _=>?_
 have z3:=(jq.mp a6).1
 have v1:(vs.setIfInBounds 1 (Value.ref T))[1]?=some (.ref T):=by simp[hz]
 rw[es]
 refine h h' T oT ts ⟨ne,_,sl,T,oT,ts,a3,by simpa [Array.getElem?_setIfInBounds]using c2,hN T (by omega),a2,v1,a4,a5,z3⟩ a2 ⟨_,sl,a3,v1⟩ a4 a5 z3 ⟨λb o hb nb z=>a7 b o (λy=>nb (by rw[y];exact TQ)) hb (k b o nb z),λb o hb z=>?_⟩
 refine a8 b o hb (k b o (λy=>?_) z)
 obtain⟨_,o1,VH,z1,d1⟩:=hX b y
 obtain⟨_,o2,z2,nd⟩:=hl.mem hb
 rw[z1]at z2;cases z2
 exact nd _ d1
theorem Di{Q:Unit->Shared->Prop}(o9:A.frames=some (env::outer))(hl:s.heap.FunFrames base (env::outer))(hf:env.frame=some L)(hN:∀b,s.heap.objs.size<=b->N b)(x:vn N s.heap e C dx\/md N s.heap e C dx)
  (h:∀h' ch,(∀b∈ch,N b/\∃o vs,s.heap.get? b=some o/\o.data=.fields vs)->md N h' e C dx->Lv (gP (env::outer)) ch s.heap h'->Q () { s with heap:=h' }):wpAny M A (noteFrame (.ref e) env) Q E s:=by
 unfold noteFrame
 simp only[hf]
 have two:∀{vs:Array Value} {sl:Array (Option Value)} {T:Addr} {oT:Obj} {ts:Array Value},N e->s.heap.get? e=some ⟨.ref C,dx,.fields vs,sl⟩->vs[2]?=some .none->N T->T≠e->vs[1]?=some (.ref T)->s.heap.get? T=some oT->oT.data=.fields ts->3<ts.size->
   wpAny M A (do
    let head <-field (.ref e) 1
    if head != .none then
     if (<-field head 3)==rawInt L then return
     setField head 3 .none
    setField (.ref e) 1 (<-EntryCells.newEntry head (<-frameOf env) .none (rawInt L) .none (<-entryPlaceOf L (head != .none)))) Q E s:=λ{vs sl T oT ts} ne he c2 nT mX h1 hT dT z3=>by
  have hz:=(jq.mp h1).1
  refine bh (jm he rfl h1 ?_)
  rw[aU (show(Value.ref T != Value.none)=true by simp)]
  obtain⟨v3,h3⟩:∃v3,ts[3]?=some v3:=⟨ts[3],by simp[z3]⟩
  refine bh (jm hT dT h3 ?_)
  by_cases hv:(v3==rawInt L)=true
  ·rw[aU hv]
   exact cj (h s.heap [] (λb hb=>absurd hb (by simp)) ⟨ne,vs,sl,T,oT,ts,he,c2,nT,mX,h1,hT,dT,z3⟩ ⟨λb o _ _ z=>z,λb o _ z=>⟨o.slots,z⟩⟩)
  rw[aK hv]
  refine bh (rN hT dT z3 ?_)
  have ot:∀b o,b≠T->s.heap.get? b=some o->(s.heap.update T (Obj.mapFields (·.setIfInBounds 3 Value.none))).get? b=some o:=λb o hb z=>(kb _ _ hb.symm).trans z
  have Ju:∀b o,s.heap.get? b=some o->(∀vs,o.data≠.fields vs)->b≠T:=λb o z nd y=>by rw[y,hT]at z;cases z;exact nd ts dT
  have Gz:(s.heap.update T (Obj.mapFields (·.setIfInBounds 3 Value.none))).FunFrames base (env::outer):=hl.of_keeps λb o z nd=>⟨o,ot b o (Ju b o z nd) z,rfl⟩
  have sz:(s.heap.update T (Obj.mapFields (·.setIfInBounds 3 Value.none))).objs.size=s.heap.objs.size:=by simp
  have uh:=ot _ _ mX.symm he
  generalize s.heap.update T (Obj.mapFields (·.setIfInBounds 3 Value.none))=hq at ot Gz sz uh ⊢
  have hX:∀b∈[e,T],N b/\∃o vs,s.heap.get? b=some o/\o.data=.fields vs:=λb hb=>by
   have:b=e\/b=T:=by simpa using hb
   rcases this with rfl | rfl
   ·exact⟨ne,_,_,he,rfl⟩
   ·exact⟨nT,_,_,hT,dT⟩
  exact yD (s:=s) [e,T] { s with heap:=hq } sz rfl (λb o hb z=>ot b o (λy=>hb (by rw[y];simp)) z) hX hl Gz o9 hf hN ne (by simp) uh c2 hz λh' T' Li J8 x' _ _ _ _ _ lv=>h h' _ hX x' lv
 rcases x with ⟨ne,vs,sl,he,c2,h1 | ⟨T,oT,ts,nT,mX,h1,hT,dT,h3⟩⟩ | ⟨ne,vs,sl,T,oT,ts,he,c2,nT,mX,h1,hT,dT,z3⟩
 ·have hz:=(jq.mp h1).1
  refine bh (jm he rfl h1 ?_)
  rw[aK (by decide)]
  have hX:∀b∈[e],N b/\∃o vs,s.heap.get? b=some o/\o.data=.fields vs:=λb hb=>by rw[dE.mp hb];exact⟨ne,_,_,he,rfl⟩
  exact yD (s:=s) [e] s rfl rfl (λb o _ z=>z) hX hl hl o9 hf hN ne (by simp) he c2 hz λh' T' Li J8 x' _ _ _ _ _ lv=>h h' _ hX x' lv
 ·exact two ne he c2 nT mX h1 hT dT (jq.mp h3).1
 ·exact two ne he c2 nT mX h1 hT dT z3
theorem sd{fs:List Addr}{f:Option Addr}{Q:Unit->Shared->Prop}(Mt:∀b∈fs,∀o vs,s.heap.get? b=some o->o.data≠.fields vs)(x:md N s.heap e C dx)
  (h:∀h' ch,(∀b∈ch,N b)->md N h' e C dx->(f=none->vn N h' e C dx)->Lv fs ch s.heap h'->Q () { s with heap:=h' }):wpAny M A (setFlight (.ref e) f) Q E s:=by
 obtain⟨ne,vs,sl,T,oT,ts,he,c2,nT,mX,h1,hT,dT,z3⟩:=x
 unfold setFlight
 refine bh (jm he rfl h1 ?_)
 rw[aU (show(Value.ref T != Value.none)=true from by simp)]
 refine rN hT dT z3 ?_
 generalize ev:(f.elim Value.none λf=>rawInt f)=v
 have ot:∀b o,b≠T->s.heap.get? b=some o->(s.heap.update T (Obj.mapFields (·.setIfInBounds 3 v))).get? b=some o:=λb o hb z=>(kb _ _ hb.symm).trans z
 have t4:=pD (Obj.mapFields (·.setIfInBounds 3 v)) hT (vD (mr dT _))
 refine h _ [T] (λb hb=>by rw[dE.mp hb];exact nT) ⟨ne,vs,sl,T,_,_,ot _ _ mX.symm he,c2,nT,mX,h1,t4,mr dT _,by simpa using z3⟩ (λhf=>⟨ne,vs,sl,ot _ _ mX.symm he,c2,.inr ⟨T,_,_,nT,mX,h1,t4,mr dT _,by subst hf;subst ev;simp[z3]⟩⟩) ⟨λb o _ hb z=>ot b o (λy=>hb (by rw[y];simp)) z,λb o hb z=>⟨o.slots,ot b o (λy=>?_) z⟩⟩
 subst y
 rw[hT]at z
 cases z
 exact Mt b hb oT ts hT dT
end
def vp(X:Cx)(EH:St->XK):Prop:=∀(pins:List (Addr×Obj)) (σ:St) (H:Hp) (s:Shared) (e C:Addr) (dx:Option Addr),Inv X pins σ H s->md (XN X pins H) s.heap e C dx->EH σ (.ref C) dx H->X.xe (.ref e) s
theorem Lv.trans{fs a b:List Addr}{h h1 h2:Heap}(x:Lv fs a h h1)(y:Lv fs b h1 h2):Lv fs (a++b) h h2:=
 ⟨λc o hc n z=>y.keep c o hc (λq=>n (fe _ q)) (x.keep c o hc (λq=>n (pE _ q)) z),λc o hc z=>by
  obtain⟨sl,z1⟩:=x.slot c o hc z
  obtain⟨yT,z2⟩:=y.slot c _ hc z1
  exact⟨yT,z2⟩⟩
section
variable {P:Program}{w:World}{K:Frag}{mg:Str->Option Value}{base:Heap}
theorem xU{N:List Str}{qual:Str}{scope:Scope}{f:Addr}{cd:Value}{A:Around}{outer:List Env}{s:Shared}{H:Hp}{E:XK}:vp (gk (ud P w) P w K mg base N qual scope f cd A outer s H E) (λ_=>E):=by
 intro pins σ H1 s1 e C dx I xa hE
 have Md:s.heap.objs.size<=s1.heap.objs.size:=I.sz
 have Mu:=I.ok.frames
 have Hv:=I.stack
 show wpAny _ _ (leaving _ (.ref e)) _ _ s1
 refine bh (Di (L:=s.heap.objs.size) (N:=λb=>s.heap.objs.size<=b/\H1 b=none) (base:=base) Mu Hv rfl (λb hb=>⟨dD Md hb,I.bY.fresh hb⟩) (.inr (xa.mono λb hb=>⟨hb.1,hb.2.1⟩)) λh1 Qv MJ J3 O'=>?_)
 refine sd (s:={ s1 with heap:=h1 }) (fs:=gP (envOfC qual scope s.heap.objs.size f cd::outer)) (λb hb o vs z=>?_) J3 λh' N5 FK _ yn Ln=>?_
 ·obtain⟨_,o',z',nd⟩:=Hv.mem hb
  obtain⟨sl,z2⟩:=O'.slot b o' hb z'
  have z:h1.get? b=some o:=z
  rw[z2]at z
  cases z
  exact nd vs
 have yn:=yn rfl
 have hX:∀b∈Qv++N5,s.heap.objs.size<=b/\H1 b=none:=λb hb=>(dm.mp hb).elim (λq=>(MJ b q).1) (FK b)
 have lv:=O'.trans Ln
 generalize Qv++N5=ch at hX lv
 have nn:∀b o,s.heap.get? b=some o->b∉ch:=λb o z y=>absurd (bL z) (px.mpr (hX b y).1)
 have nf:∀b o,s.heap.get? b=some o->b∉gP outer->b∉gP (envOfC qual scope s.heap.objs.size f cd::outer):=λb o z hb y=>by
  rcases fH.mp (show b∈s.heap.objs.size::gP outer from y) with y | y
  ·have:=bL z
   rw[y]at this
   exact jo _ this
  ·exact hb y
 have sub:∀b,b∈gP outer->b∈gP (envOfC qual scope s.heap.objs.size f cd::outer):=λb hb=>fz (a:=b) s.heap.objs.size hb
 have un:Un (gP outer) [] H H1 s.heap s1.heap:=I.base
 refine⟨e,C,dx,H1,rfl,I.os,I.bare,⟨λb o z n hb hx=>lv.keep b o (nf b o z hb) (nn b o z) (un.keep b o z n hb hx),λb o z n hb hx=>?_,un.free,λb o z hx=>?_,un.tups,un.frzs,un.tbls⟩,λa u z=>?_,yn,hE⟩
 ·obtain⟨sl,z1⟩:=un.slot b o z n hb hx
  obtain⟨yT,z2⟩:=lv.slot b _ (sub b hb) z1
  exact⟨yT,z2⟩
 ·obtain⟨o',z1⟩:=un.there b o z hx
  by_cases hb:b∈gP (envOfC qual scope s.heap.objs.size f cd::outer)
  ·obtain⟨yT,z2⟩:=lv.slot b _ hb z1
   exact⟨_,z2⟩
  ·exact⟨o',lv.keep b o' hb (nn b o z) z1⟩
 ·refine(I.bY a u z).stay (λb v hb y=>?_) (λ_ q=>q) λ_ _ q=>q
  have hn:¬H1 b=none:=λy=>by
   rcases hb with rfl | hb
   ·rw[z]at y;cases y
   ·rw[hb]at y;cases y
  exact lv.keep b v (λy=>hn (I.ku b y)) (λy=>hn (hX b y).2) y
end
end L2
end
section
namespace L2
open PySem PySem.Spec PyProof.Rows
@[reducible] def oP (X:Cx) (scope:Scope) (N:List Str) (xe:Value->Shared->Prop) (c:CB):Cx:=
 { prog:=X.prog,w:=X.w,K:=X.K,mg:=X.mg,base:=X.base,A:=X.A,N:=N,s₀:=c.s2,H₀:=c.H2,env:=compEnvC scope c.cl c.C X.env,outer:=X.stack,stack:=X.stack,ex:=c.ex,fn:=λ_=>false,calm:=X.calm,pn:=[],xe:=xe }
theorem Inv.GQ{X:Cx}{scope:Scope}{N:List Str}{c:CB}{xe:Value->Shared->Prop}{pins:List (Addr×Obj)}{σ:St}{H:Hp}{s:Shared}(I:Inv (g4 X scope N c) pins σ H s):Inv (oP X scope N xe c) pins σ H s:=
 ⟨⟨I.ok.mod,I.ok.kind,I.ok.glob,I.ok.blt,I.ok.above,I.ok.inj,I.ok.has,I.ok.CW,I.ok.hd,I.ok.frames,I.ok.Dp,I.ok.GL,I.ok.bs,I.ok.yt,I.ok.qS,I.ok.tQ,I.ok.jT,I.ok.Af⟩,I.os,I.bare,I.base,I.loc,I.cell,I.free,I.dS,I.pin,I.bY,I.len⟩
section
variable {prog:Program}{w:World}{A:Around}{R:Result->Shared->Prop}{s:Shared}
theorem jW{elt target iter:Expr}{ifs:List Expr}{scope:Scope}{pos:Pos}{it acc:Value}{env:Env}(I:Nat->Shared->Prop)
  (turn:∀n s,I n s->wpAny (model prog w) A (pyNext it) (λr s₁=>match r with
   | none=>R (.ok .next) s₁
   | some v=>wpAny (model prog w) A (letOwnedTupleGo target it v) (λ_ GZ=>wpAny (model prog w) A (assign target env v) (λ_ s₂=>
     wpAny (model prog w) A (forIn ifs true λc r=>if r=true then do let ok <-isTrue c env (eval c env);pure (ForInStep.yield ok) else pure (ForInStep.yield r)) (λok s₃=>
      if ok=true then wpAny (model prog w) A (eval elt env) (λx s₄=>
       wpAny (model prog w) A (call (.builtin "list.append") [acc,x]) (λ_ s₅=>∃m,m<n/\I m s₅) (notedBy (model prog w) A env λe s'=>R (.error e) s') s₄) (notedBy (model prog w) A env λe s'=>R (.error e) s') s₃
      else ∃m,m<n/\I m s₃) (notedBy (model prog w) A env λe s'=>R (.error e) s') s₂) (notedBy (model prog w) A env λe s'=>R (.error e) s') GZ) (notedBy (model prog w) A env λe s'=>R (.error e) s') s₁) (notedBy (model prog w) A env λe s'=>R (.error e) s') s)
  (n:Nat) (h:I n s) :
  codeAny (model prog w) A (.compLoop (.ListComp elt [⟨target,iter,ifs,0⟩] scope pos) 0 it acc env) R s:=by
 refine codeAny_loop rfl I (λn s hI=>?_) n h
 show wpAny _ A ((compTurn (.ListComp elt [⟨target,iter,ifs,0⟩] scope pos) 0 it acc env).onRaise (λx=>do noteFrame x env;theTreesLotGoes x)) _ _ s
 refine wpAny_noted ?_
 rw[compTurn_list]
 refine bh (pz (bh (bW (turn n s hI) (λr s₁ h₁=>?_) λ_ _ h'=>h')))
 cases r with
 | none=>exact cj h₁
 | some v=>
  refine bh (bW h₁ (λ_ GZ L7=>?_) λ_ _ h'=>h')
  refine bh (bW L7 (λ_ s₂ h₂=>bh (bW h₂ (λok s₃ h₃=>?_) λ_ _ h'=>h')) λ_ _ h'=>h')
  cases ok with
  | false=>exact cj ⟨rfl,h₃⟩
  | true=>
   exact bh (bh (bW h₃ (λx s₄ h₄=>bh (bW h₄ (λ_ s₅ h₅=>cj (cj ⟨rfl,h₅⟩)) λ_ _ h'=>h')) λ_ _ h'=>h'))
end
section
variable {X:Cx}{elt target iter:Expr}{ifs:List Expr}{scope:Scope}{pos:Pos}{xs:List Str}{idx:List Nat}{wi:TI}{g:CB->TG}{tt:CB->TT}{te:CB->TE}
theorem yg{pins:List (Addr×Obj)}{σ:St}{H2:Hp}{s2:Shared}{fp:List Addr}{it:Addr}{tn:Nat->Heap->Prop}{J:It}{Q:V->Hp->Prop}{RR:Value->Addr->Result->Shared->Prop}{E:Value->Shared->Prop}{EE:XK}(hc:X.calm=true)(S:j8 X scope xs idx)
  (hg:∀xe c,PG (oP X scope (xs++aP X.N idx) xe c) target (g c)) (ht:∀xe c,oZ (oP X scope (xs++aP X.N idx) xe c) ifs (tt c)) (he:∀xe c,fF (oP X scope (xs++aP X.N idx) xe c) (λ_=>EE)->PE (oP X scope (xs++aP X.N idx) xe c) elt (te c))
  (I2:Inv X pins σ H2 s2) (T:Turn X.prog X.w X.K target J fp it tn) (sD:tn 0 s2.heap) (f2:∀b∈fp,o3 X pins H2 b)
  (h:∀D,H2 D=none->∃W:Nat->Nat->List V->Hp->Prop,(∃m,W 0 m [] (upd H2 D (.lst [])))/\
   ∀i m ys H',W i m ys H'->(J.stop i H'/\Q (.ref D) H')\/(J.go i H'/\∃N:List V->Hp->Prop,(∀iw jl,N iw jl->∃m',m'<m/\W (i+1) m' iw jl)/\∀(c:CB) (own:St),own.length=xs.length->∀x H2,J.vL i H' x H2->g c x (own++aZ σ idx) H2 λσ3 H3=>
    (∃cp,cp.length=xs.length/\σ3=cp++aZ σ idx)/\tt c σ3 H3 λb H4=>if b=true then te c σ3 H4 λy H5=>H5 D=some (.lst ys)/\ys.length<sizeLine/\N (ys++[y]) (upd H5 D (.lst (ys++[y]))) else N ys H4))
  (M3:∀D C σ' H' s',s2.heap.objs.size<=C->∀xe,Inv (oP X scope (xs++aP X.N idx) xe ⟨C,bt X.env scope.names [],s2,H2,fp⟩) [] σ' H' s'->Q (.ref D) H'->RR (.ref D) C (.ok .next) s')
  (Ub:∀D C xe fP σ' H' s' e cl dx,s2.heap.objs.size<=C->Inv (oP X scope (xs++aP X.N idx) xe ⟨C,bt X.env scope.names [],s2,H2,fp⟩) fP σ' H' s'->vn (XN (oP X scope (xs++aP X.N idx) xe ⟨C,bt X.env scope.names [],s2,H2,fp⟩) fP H') s'.heap e cl dx->EE (.ref cl) dx H'->notedBy (model X.prog X.w) X.A (compEnvC scope (bt X.env scope.names []) C X.env) (λx uT=>RR (.ref D) C (.error x) uT) (.ref e) s') :
  wpAny (model X.prog X.w) X.A (newList []) (λacc s₃=>wpAny (model X.prog X.w) X.A (newFunctionEnv scope X.env.globals (bt X.env scope.names []) [] X.env.qual none .none (some X.env)) (λyj s₄=>
   codeAny (model X.prog X.w) X.A (.compStart (.ListComp elt [⟨target,iter,ifs,0⟩] scope pos) 0 (.ref it) acc { yj with scope:=relabel scope X.env }) (RR acc yj.locals) s₄) E s₃) E s2:=by
 refine wpAny_newObj_type (wpAny_newFunctionEnv S.uX (by intro y hy;simp at hy) (λh₁ va rk=>?_) S.kind)
 dsimp only at va rk ⊢
 generalize FX:s2.heap.push { cls:=.type "list",dict:=none,data:=.seq ([]:List Value).toArray }=HH at va rk ⊢
 have Gb:HH.objs.size=s2.heap.objs.size+1:=by rw[<-FX,Heap.size_push]
 have Ga:s2.heap.objs.size≠HH.objs.size:=by rw[Gb];exact dk (Nat.lt_succ_self _)
 have tN:s2.heap.objs.size<=HH.objs.size:=by rw[Gb];exact qt _
 have old:∀b o,s2.heap.get? b=some o->h₁.get? b=some o:=λb o e=>rk.extBut b o (by rw[Gb];exact dk (uq (bL e))) (eR _ (FX ▸ eR _ e))
 have FT:∃n,h₁.get? s2.heap.objs.size=some { cls:=.type "list",data:=.seq #[] n }:=⟨_,rk.extBut _ _ Ga (eR _ (FX ▸ gI _ rfl))⟩
 have G3:tn 0 h₁:=T.keep _ _ _ sD λb _ o e=>old b o e
 obtain⟨W,⟨m0,w0⟩,turn⟩:=h s2.heap.objs.size I2.fresh
 have loop:∀s₃:Shared,s₃={ s2 with heap:=h₁,toks:=s2.toks+([]:List (Str×Value)).length }->
   codeAny (model X.prog X.w) X.A (.compLoop (.ListComp elt [⟨target,iter,ifs,0⟩] scope pos) 0 (.ref it) (.ref s2.heap.objs.size) (compEnvC scope (bt X.env scope.names []) HH.objs.size X.env)) (RR (.ref s2.heap.objs.size) HH.objs.size) s₃:=by
  rintro s₃ rfl
  have I3:=Inv.GQ (xe:=(notedBy (model X.prog X.w) X.A (compEnvC scope (bt X.env scope.names []) HH.objs.size X.env) λx uT=>RR (.ref s2.heap.objs.size) HH.objs.size (.error x) uT)) <| I2.block (t':=s2.toks+([]:List (Str×Value)).length) (H1:=H2) S f2 (λb hb=>let ⟨o,e,_⟩:=T.obj _ _ sD b hb;⟨o,e⟩) tN Ga (cg _) va old FT
  generalize hY:oP X scope (xs++aP X.N idx) (notedBy (model X.prog X.w) X.A (compEnvC scope (bt X.env scope.names []) HH.objs.size X.env) λx uT=>RR (.ref s2.heap.objs.size) HH.objs.size (.error x) uT) ⟨HH.objs.size,bt X.env scope.names [],s2,H2,fp⟩=Y at I3
  have eY:Y=oP X scope (xs++aP X.N idx) (notedBy (model X.prog X.w) X.A (compEnvC scope (bt X.env scope.names []) HH.objs.size X.env) λx uT=>RR (.ref s2.heap.objs.size) HH.objs.size (.error x) uT) ⟨HH.objs.size,bt X.env scope.names [],s2,H2,fp⟩:=hY.symm
  have nof:∀b∈fp,b∉Y.fs:=λb hb z=>by
   rw[eY]at z
   rcases fH.mp (I2.nU b z) with q | q
   ·exact(f2 b hb).2.1 q
   ·exact(f2 b hb).2.2.1 q
  have stat:∀{H':Hp},(∀b∈fp,H' b=none)->∀b∈fp,o3 Y [] H' b:=λ{H'} hn b hb=>by
   have lt:b<s2.heap.objs.size:=let ⟨o,e,_⟩:=T.obj _ _ sD b hb;bL e
   refine⟨hn b hb,?_,nof b hb,.inl (by rw[eY];exact hb),λx c e=>?_,λp hp=>?_⟩
   ·rw[eY];exact dk (fu lt tN)
   ·rw[eY]at e
    have tK:=jj (env:=X.env) scope.names [] (λy hy e=>I2.ok.has y.1 (S.free y hy e).2) (λp hp=>nomatch hp)
    exact(f2 b hb).2.2.2.2.1 x c (tK (x,c) (ik e))
   ·rw[eY]at hp;exact nomatch hp
  have T':Turn Y.prog Y.w Y.K target J fp it tn:=by rw[eY];exact T
  have HD:PG Y target (g ⟨HH.objs.size,bt X.env scope.names [],s2,H2,fp⟩):=by rw[eY];exact hg _ _
  have Mb:oZ Y ifs (tt ⟨HH.objs.size,bt X.env scope.names [],s2,H2,fp⟩):=by rw[eY];exact ht _ _
  have Mx:PE Y elt (te ⟨HH.objs.size,bt X.env scope.names [],s2,H2,fp⟩):=by rw[eY];exact he _ _ (λfP σ' H' s' e cl dx I' yn q'=>Ub _ _ _ fP σ' H' s' e cl dx tN I' yn q')
  have HN:Y.calm=true:=by rw[eY];exact hc
  have eA:Y.A=X.A:=by rw[eY]
  have eP:Y.prog=X.prog:=by rw[eY]
  have eW:Y.w=X.w:=by rw[eY]
  have eE:Y.env=compEnvC scope (bt X.env scope.names []) HH.objs.size X.env:=by rw[eY]
  have eX:Y.xe=notedBy (model Y.prog Y.w) Y.A Y.env λx uT=>RR (.ref s2.heap.objs.size) HH.objs.size (.error x) uT:=by rw[eY]
  have fin:∀σ' H' s',Inv Y [] σ' H' s'->Q (.ref s2.heap.objs.size) H'->RR (.ref s2.heap.objs.size) HH.objs.size (.ok .next) s':=λσ' H' s' I' q=>M3 _ _ σ' H' s' tN _ (by rw[<-eY];exact I') q
  rw[<-eE,<-eA,<-eP,<-eW]
  have Nf:∀b∈fp,(upd H2 s2.heap.objs.size (.lst [])) b=none:=λb hb=>by
   have lt:b<s2.heap.objs.size:=let ⟨o,e,_⟩:=T.obj _ _ sD b hb;bL e
   rw[aD (dk lt)];exact(f2 b hb).1
  refine jW (λn s'=>∃i ys own H',own.length=xs.length/\Inv Y [] (own++aZ σ idx) H' s'/\tn i s'.heap/\(∀b∈fp,H' b=none)/\W i n ys H') ?_ m0
   ⟨0,[],_,_,il,I3,G3,Nf,w0⟩
  rintro n s4 ⟨i,ys,own,H4,Fy,I4,G0,Ij,w4⟩
  rcases turn i n ys H4 w4 with ⟨stop,qn⟩ | ⟨go,NN,M4,step⟩
  ·exact bS (T'.done Y rfl rfl rfl HN i [] s4 _ H4 _ I4 (stat Ij) G0 stop) λr s5 ⟨hr,I5⟩=>by subst hr;exact fin _ _ _ I5 qn
  ·refine bS (T'.item Y rfl rfl rfl HN i [] s4 _ H4 _ I4 (stat Ij) G0 go) λr s5 ⟨u,hr,h5⟩=>?_
   subst hr
   refine bS h5 λ_ s6 ⟨x,H6,I6,r6,y6,Eb,Nc⟩=>?_
   have Ol:=I6.pinned (stat Nc) (T'.obj _ _ Eb)
   have step':=step ⟨HH.objs.size,bt X.env scope.names [],s2,H2,fp⟩ own Fy x H6 y6
   refine bW (HD _ s6 _ H6 x u _ Ol r6 step') (λ_ s7 ⟨σ7,H7,I7,q7⟩=>?_) (λ_ _ z=>by rw[eX]at z;exact z)
   obtain⟨⟨Fe,Mq,e7⟩,q7⟩:=q7
   refine bW (Mb _ s7 σ7 H7 _ I7 q7) (λb s8 ⟨H8,I8,q8⟩=>?_) (λ_ _ z=>by rw[eX]at z;exact z)
   have again:∀{H9:Hp} {s9:Shared} {iw:List V},Inv Y ([]++lL fp s6.heap) σ7 H9 s9->NN iw H9->∃m,m<n/\∃i ys own H',own.length=xs.length/\Inv Y [] (own++aZ σ idx) H' s9/\tn i s9.heap/\(∀b∈fp,H' b=none)/\W i m ys H':=λ{H9 s9 iw} I9 n9=>by
    obtain⟨m',hm,w9⟩:=M4 _ _ n9
    rw[e7]at I9
    refine⟨m',hm,i+1,iw,Fe,H9,Mq,I9.iA,T'.keep _ _ _ Eb λb hb o e=>(I9.pin (b,o) (fe _ (fe _ (dY hb e)))).1,λb hb=>?_,w9⟩
    obtain⟨o,e,d⟩:=T'.obj _ _ Eb b hb
    exact(I9.pin (b,o) (fe _ (fe _ (dY hb e)))).2.1
   cases b with
   | false=>exact again I8 q8
   | true=>
    refine bW (Mx _ s8 σ7 H8 _ I8 q8) (λu9 s9 ⟨y,H9,I9,r9,hy,hz,q9⟩=>?_) (λ_ _ z=>by rw[eX]at z;exact z)
    have ap:=ji (X:=Y) _ s9 σ7 H9 (.ref s2.heap.objs.size) [y] (.ref s2.heap.objs.size) [u9] (λ_ Gs=>NN (ys++[y]) Gs) I9 rfl (.cons r9 .nil) ⟨_,ys,y,rfl,rfl,hy,hz,q9⟩
    refine bW ap (λ_ RB ⟨_,Gs,Om,_,Kv⟩=>again Om Kv) (λ_ _ z=>by rw[eX]at z;exact z)
 exact codeAny_compStart_list (loop _ rfl) (T.self _ 0 _ _ _ G3 (loop _ rfl))
theorem md.but{N:Addr->Prop}{h h':Heap}{e C L:Addr}{dx:Option Addr}(n:∀b,N b->b≠L)(x:md N h e C dx)(hs:Heap.SameBut L h h'):md N h' e C dx:=by
 obtain⟨ne,vs,sl,T,oT,ts,he,c2,nT,mX,h1,hT,r⟩:=x
 exact⟨ne,vs,sl,T,oT,ts,(hs.2 e (n e ne)).trans he,c2,nT,mX,h1,(hs.2 T (n T nT)).trans hT,r⟩
theorem zp{EE:XK}(LF:vp X (λ_=>EE))(yr:X.stack=X.env::X.outer)(o9:X.env.frame=some X.env.locals)(hc:X.calm=true)(S:j8 X scope xs idx)(hi:PI X target iter wi)
  (hg:∀xe c,PG (oP X scope (xs++aP X.N idx) xe c) target (g c)) (ht:∀xe c,oZ (oP X scope (xs++aP X.N idx) xe c) ifs (tt c)) (he:∀xe c,fF (oP X scope (xs++aP X.N idx) xe c) (λ_=>EE)->PE (oP X scope (xs++aP X.N idx) xe c) elt (te c))
  (hs:∀x,foldedSetIterable iter X.env x=pure x:=by intro _;rfl):PE X (.ListComp elt [⟨target,iter,ifs,0⟩] scope pos) (kr wi xs.length idx g tt te):=by
 intro pins s σ H Q I h
 rw[eval_ListComp]
 have tI:closureFor scope X.env=pure (bt X.env scope.names []):=d9 λy hy e=>I.ok.has y.1 (S.free y hy e).2
 refine uF (use:=none) rfl hs tI S.kind S.loc (bS (hi pins s σ H _ I h) λxv s₁ h₁=>bS h₁ λHt s₂ h₂=>?_)
 obtain⟨it,fp,tn,J,H2,e,I2,T,sD,f2,hW⟩:=h₂
 subst e
 have back:∀{C:Addr} {xe:Value->Shared->Prop} {fP:List (Addr×Obj)} {σ':St} {H':Hp} {s':Shared} {Gd:Heap},s₂.heap.objs.size<=C->Inv (oP X scope (xs++aP X.N idx) xe ⟨C,bt X.env scope.names [],s₂,H2,fp⟩) fP σ' H' s'->Heap.SameBut C s'.heap Gd->Inv X pins σ H' { s' with heap:=Gd }:=λ{C xe fP σ' H' s' Gd} hC I' u3=>by
  obtain⟨hh,gg,d,t,os⟩:=s'
  obtain rfl:os=s₂.os:=I'.os
  have Cn:s₂.heap.get? C=none:=vz hC
  refine I2.call (s:=s₂) (h':=Gd) (g':=gg) (d':=d) (t':=t) (ch:=fp) (I'.base.but Cn u3) (I'.bY.but I'.free u3) I'.bare (λb hb=>?_)
  obtain⟨_,f1,_,f3,f4,f5⟩:=f2 b hb
  exact⟨f3,f1,f4,f5⟩
 refine yg (Q:=Q) (EE:=EE) (RR:=λacc C=>compPost (model X.prog X.w) X.A X.xe none (EP X pins σ Q) acc C) hc S hg ht he I2 T sD f2 hW ?_ ?_
 ·intro D C σ' H' s' hC xe I' q
  obtain⟨m',hn,_⟩:=I'.loc
  exact⟨m',hn,λGd u3=>⟨.ref D,H',back hC I' u3,rfl,q⟩⟩
 ·intro D C xe fP σ' H' s' e cl dx hC I' xa q
  have JC:X.A.frames=some (X.env::X.outer):=by rw[<-yr];exact I'.ok.frames
  have Jo:s'.heap.FunFrames X.base (X.env::X.outer):=by rw[<-yr];exact I'.stack
  show wpAny _ _ (noteFrame (.ref e) X.env) _ _ s'
  refine Di (L:=X.env.locals) (base:=X.base) JC Jo o9 (λb hb=>.new I' hb (I'.bY.fresh hb)) (.inl xa) λh1 ch hX J3 lv=>?_
  rw[<-yr]at lv
  have I1:=I'.left (λb hb=>(hX b hb).1) lv
  obtain⟨m',hn,_⟩:=I1.loc
  refine⟨m',hn,λh2 Hw yj _=>?_⟩
  have I3:=back hC I1 Hw
  have Jf:md (XN X pins H') h2 e cl dx:=(J3.but (L:=C) (λb hb=>hb.2.2.1) Hw).mono λb hb=>.new I2 hb.1 hb.2.1
  obtain⟨ne,vs,sl,T,oT,ts,oe,c2,nT,mX,v1,hT,dT,z3⟩:=id Jf
  unfold PySem.passOn
  refine bh (jm oe rfl v1 ?_)
  rw[aK (show ¬((Value.ref T==Value.none)=true) by simp)]
  refine bh (sd (s:={ s' with heap:=h2 }) (fs:=gP X.stack) (N:=XN X pins H') (λb hb o ws z=>?_) Jf λh3 Wa MF Rj _ SQ=>?_)
  ·obtain⟨_,o',z',nd⟩:=I3.stack.mem hb
   have z:({ s' with heap:=h2 }:Shared).heap.get? b=some o:=z
   rw[z]at z';cases z'
   exact nd ws
  exact wpAny_throw (LF pins σ H' _ e cl dx (I3.left MF SQ) Rj q)
end
theorem lU{X:Cx}{N:List Str}{fh scope:Scope}{xs:List Str}{idx:List Nat}{xe:Value->Shared->Prop}(hc:HC X N fh)(c:CB):HC (oP X scope (xs++aP X.N idx) xe c) (xs++aP N idx) (bw scope fh):=
 ⟨by show xs++aP X.N idx=_;rw[hc.n],mD hc.s⟩
theorem uH{X:Cx}{N:List Str}{fh:Scope}{elt target iter:Expr}{ifs:List Expr}{scope:Scope}{pos:Pos}{wi:TI}{g:CB->TG}{tt:CB->TT}{te:CB->TE}{EE:XK}(LF:vp X (λ_=>EE))(yr:X.stack=X.env::X.outer)(o9:X.env.frame=some X.env.locals)(hc:HC X N fh)(xs:List Str)(idx:List Nat)(tJ:X.calm=true)(S:vf fh N scope idx=true)(hi:ZI X target iter wi)
  (hg:∀xe c,HC (oP X scope (xs++aP X.N idx) xe c) (xs++aP N idx) (bw scope fh)->ZG (oP X scope (xs++aP X.N idx) xe c) target (g c))
  (ht:∀xe c,HC (oP X scope (xs++aP X.N idx) xe c) (xs++aP N idx) (bw scope fh)->Dc (oP X scope (xs++aP X.N idx) xe c) ifs (tt c))
  (he:∀xe c,HC (oP X scope (xs++aP X.N idx) xe c) (xs++aP N idx) (bw scope fh)->fF (oP X scope (xs++aP X.N idx) xe c) (λ_=>EE)->ZE (oP X scope (xs++aP X.N idx) xe c) elt (te c))
  (hs:∀x,foldedSetIterable iter X.env x=pure x:=by intro _;rfl):ZE X (.ListComp elt [⟨target,iter,ifs,0⟩] scope pos) (kr wi xs.length idx g tt te):=
 ⟨zp LF yr o9 tJ (lV S hc.s hc.n) hi.to (λxe c=>(hg xe c (lU hc c)).to) (λxe c=>(ht xe c (lU hc c)).to) (λxe c l=>(he xe c (lU hc c) l).to) hs⟩
end L2
end
namespace My
open PySem L2
def top(i:Nat):Stmt:=PySem.Challenge.pw_truceroll_k91_sets_and_numbers.main.body.getD i (.Pass ⟨0,0,0,0⟩)
abbrev bD:Stmt:=top 5
abbrev gL:Stmt:=top 7
abbrev dW:Stmt:=top 11
abbrev cJ:Stmt:=top 12
abbrev dX:Stmt:=top 13
abbrev cK:Stmt:=top 14
abbrev dB:Stmt:=top 16
abbrev dA:Stmt:=top 17
abbrev dz:Stmt:=top 18
abbrev dC:Stmt:=top 19
abbrev bQ:Stmt:=top 20
abbrev cO:Stmt:=top 21
abbrev bP:Stmt:=top 22
abbrev dy:Stmt:=top 23
abbrev bH:Stmt:=top 24
abbrev bq:Stmt:=top 25
abbrev cL:Stmt:=top 26
abbrev cM:Stmt:=top 27
abbrev bG:Stmt:=top 28
abbrev ky:Stmt:=top 29
abbrev jQ:List Str:=["thing"]
abbrev xS:List Str:=["thing"]
abbrev sW:List Str:=["part"]
abbrev oq:List Str:=["family"]
abbrev sX:List Str:=["text","part"]
abbrev ou:List Str:=["text"]
abbrev qW:List Str:=["_law_script"]
abbrev qV:List Str:=["_law_hand_here"]
abbrev qU:List Str:=["_law_hand_here","_law_cell"]
abbrev qX:List Str:=["_law_hand_here","_law_many","_law_got","_law_value","_law_size"]
abbrev lQ:List Str:=["_law_thing"]
abbrev oz:List Str:=["_law_thing"]
abbrev lP:List Str:=["_law_part"]
abbrev qT:List Str:=["_law_told","_law_due"]
abbrev kG:List Str:=["_law_hand_here","_law_top","_law_part","_law_at","_law_k"]
abbrev hV:List Str:=["_law_hand_here","_law_part","_law_words","_law_spot","_law_way"]
abbrev ow:List Str:=["_law_hand_here","_law_part","_law_text_here","_law_at","_law_way","_law_signs","_law_low"]
abbrev oy:List Str:=["_law_thing","e"]
abbrev kF:List Str:=["_law_thing","e"]
abbrev Fi:List Str:=["_law_script","_law_hand_here","_law_family","_law_k","_law_handed","_law_part","_law_told","_law_member","_law_number","_law_some","_law_thing"]
structure Ri where
 dO:Addr
 dN:FuncData
 oX:Addr
 oO:FuncData
 jX:Addr
 jU:FuncData
 gu:Addr
 gb:FuncData
 jY:Addr
 jV:FuncData
 gw:Addr
 gd:FuncData
 iX:Addr
 iO:FuncData
 iW:Addr
 iN:FuncData
 iV:Addr
 iM:FuncData
 iY:Addr
 iP:FuncData
 eZ:Addr
 eU:FuncData
 gA:Addr
 gj:FuncData
 eV:Addr
 eT:FuncData
 iU:Addr
 iL:FuncData
 eo:Addr
 d8:FuncData
 cY:Addr
 cX:FuncData
 gx:Addr
 gh:FuncData
 gy:Addr
 gi:FuncData
 ej:Addr
 d7:FuncData
 z6:Addr
 zT:FuncData
 oE:Tok
 qY:Tok
 aN:Addr
 av:Addr
 bE:Addr
structure Txt(K:PySem.W.Frag)(mg:Str->Option Value)(t:Ri):Prop where
 fU:j5 K "is_whole_number" "is_whole_number" bD t.dO t.dN
 kY:Binds K t.dN ["thing"] []
 kI:mg "is_whole_number" = some (.ref t.dO)
 uc:j5 K "is_set" "is_set" gL t.oX t.oO
 zZ:Binds K t.oO ["thing"] []
 zF:mg "is_set" = some (.ref t.oX)
 j6:j5 K "show_set" "show_set" dW t.jX t.jU
 oV:Binds K t.jU ["part"] []
 oA:mg "show_set" = some (.ref t.jX)
 jJ:j5 K "show_family" "show_family" cJ t.gu t.gb
 pe:Binds K t.gb ["family"] []
 o6:mg "show_family" = some (.ref t.gu)
 j7:j5 K "read_set" "read_set" dX t.jY t.jV
 oW:Binds K t.jV ["text"] []
 oB:mg "read_set" = some (.ref t.jY)
 eI:j5 K "read_number" "read_number" cK t.gw t.gd
 gq:Binds K t.gd ["text"] []
 fX:mg "read_number" = some (.ref t.gw)
 mP:j5 K "_law_hand" "_law_hand" dB t.iX t.iO
 tX:Binds K t.iO ["_law_script"] []
 tf:mg "_law_hand" = some (.ref t.iX)
 eQ:j5 K "_law_next" "_law_next" dA t.iW t.iN
 fT:Binds K t.iN ["_law_hand_here"] []
 fQ:mg "_law_next" = some (.ref t.iW)
 mO:j5 K "_law_take" "_law_take" dz t.iV t.iM
 tW:Binds K t.iM ["_law_hand_here"] []
 sY:mg "_law_take" = some (.ref t.iV)
 aH:j5 K "_law_draw" "_law_draw" dC t.iY t.iP
 aJ:Binds K t.iP ["_law_hand_here","_law_many"] []
 aI:mg "_law_draw" = some (.ref t.iY)
 e8:j5 K "_law_is_whole" "_law_is_whole" bQ t.eZ t.eU
 hU:Binds K t.eU ["_law_thing"] []
 g9:mg "_law_is_whole" = some (.ref t.eZ)
 jK:j5 K "_law_is_set" "_law_is_set" cO t.gA t.gj
 ph:Binds K t.gj ["_law_thing"] []
 o7:mg "_law_is_set" = some (.ref t.gA)
 cG:j5 K "_law_set_text" "_law_set_text" bP t.eV t.eT
 dv:Binds K t.eT ["_law_part"] []
 du:mg "_law_set_text" = some (.ref t.eV)
 ja:j5 K "_law_text" "_law_text" dy t.iU t.iL
 mL:Binds K t.iL ["_law_told","_law_due"] []
 mF:mg "_law_text" = some (.ref t.iU)
 gT:j5 K "_law_drawn_set" "_law_drawn_set" bH t.eo t.d8
 lY:Binds K t.d8 ["_law_hand_here"] []
 lR:mg "_law_drawn_set" = some (.ref t.eo)
 eO:j5 K "_law_spoilt_behind" "_law_spoilt_behind" bq t.cY t.cX
 iT:Binds K t.cX ["_law_hand_here","_law_part"] []
 iJ:mg "_law_spoilt_behind" = some (.ref t.cY)
 gB:j5 K "_law_spoilt" "_law_spoilt" cL t.gx t.gh
 jE:Binds K t.gh ["_law_hand_here","_law_part"] []
 jz:mg "_law_spoilt" = some (.ref t.gx)
 gC:j5 K "_law_no_set" "_law_no_set" cM t.gy t.gi
 jF:Binds K t.gi ["_law_thing"] []
 jA:mg "_law_no_set" = some (.ref t.gy)
 cx:j5 K "_law_no_number" "_law_no_number" bG t.ej t.d7
 di:Binds K t.d7 ["_law_thing"] []
 dg:mg "_law_no_number" = some (.ref t.ej)
 Jc:j5 K "law" "law" ky t.z6 t.zT
 QX:Binds K t.zT ["_law_script"] []
 O9:mg "law" = some (.ref t.z6)
 dI:mg "ValueError" = none
 vK:mg "abs" = none
 kh:mg "all" = none
 nP:mg "bool" = none
 nO:mg "int" = none
 aF:mg "isinstance" = none
 fN:mg "len" = none
 nM:mg "list" = none
 gY:mg "range" = none
 g7:mg "str" = none
 gX:mg "tuple" = none
 cW:mg "MOST_FIGURES" = some (.int 60 t.oE)
 dM:mg "NO_MEMBERS" = some (.str (Str.ofString "-") t.qY)
 kJ:mg "TruceError" = some (.ref t.aN)
 kj:XC K t.aN
 fY:PySem.W.keepIn K (.ref t.aN)=true
 fZ:PySem.W.findIn K (.ref t.aN) "__init__" = some (some (.builtin "ValueError.__init__"))
 dq:mg "NoText" = some (.ref t.av)
 bR:XC K t.av
 cu:PySem.W.keepIn K (.ref t.av)=true
 cv:PySem.W.findIn K (.ref t.av) "__init__" = some (some (.builtin "ValueError.__init__"))
 wt:mg "NoRow" = some (.ref t.bE)
 Jg:XC K t.bE
 oD:PySem.W.keepIn K (.ref t.bE)=true
 oH:PySem.W.findIn K (.ref t.bE) "__init__" = some (some (.builtin "ValueError.__init__"))
 bz:PySem.W.subIn K (.ref t.av) (.ref t.aN)=some true
 cq:PySem.W.kitOne K (.ref t.av) (.ref t.av)=some true
 cE:PySem.W.kitOne K (.ref t.av) (.ref t.bE)=some false
 gN:PySem.W.kitOne K (.ref t.av) (.type "ValueError")=some true
local macro_rules | `(tactic| walk_at "r") => `(tactic| repeat (walk_at "rl"))
local macro_rules | `(tactic| walk_at "s") => `(tactic| exact ⟨rfl,rfl,rfl,by decide +kernel,rfl,by decide +kernel,by decide +kernel⟩)
theorem jN:aY jQ ["thing"] (aj bD):=by walk_at "s"
theorem xJ:aY xS ["thing"] (aj gL):=by walk_at "s"
theorem sE:aY sW ["part"] (aj dW):=by walk_at "s"
theorem nX:aY oq ["family"] (aj cJ):=by walk_at "s"
theorem mC:aY sX ["text"] (aj dX):=by walk_at "s"
theorem nY:aY ou ["text"] (aj cK):=by walk_at "s"
theorem qH:aY qW ["_law_script"] (aj dB):=by walk_at "s"
theorem qG:aY qV ["_law_hand_here"] (aj dA):=by walk_at "s"
theorem gZ:aY qU ["_law_hand_here"] (aj dz):=by walk_at "s"
theorem df:aY qX ["_law_hand_here","_law_many"] (aj dC):=by walk_at "s"
theorem lI:aY lQ ["_law_thing"] (aj bQ):=by walk_at "s"
theorem nZ:aY oz ["_law_thing"] (aj cO):=by walk_at "s"
theorem lH:aY lP ["_law_part"] (aj bP):=by walk_at "s"
theorem qF:aY qT ["_law_told","_law_due"] (aj dy):=by walk_at "s"
theorem bC:aY kG ["_law_hand_here"] (aj bH):=by walk_at "s"
theorem aT:aY hV ["_law_hand_here","_law_part"] (aj bq):=by walk_at "s"
theorem ck:aY ow ["_law_hand_here","_law_part"] (aj cL):=by walk_at "s"
theorem iE:aY oy ["_law_thing"] (aj cM):=by walk_at "s"
theorem fO:aY kF ["_law_thing"] (aj bG):=by walk_at "s"
theorem fA:aY Fi ["_law_script"] (aj ky):=by walk_at "s"
theorem kZ:bootBuiltins "ValueError" = some (.type "ValueError"):=by decide +kernel
theorem I0:bootBuiltins "abs" = some (.builtin "abs"):=by decide +kernel
theorem qo:bootBuiltins "all" = some (.builtin "all"):=by decide +kernel
theorem z4:bootBuiltins "bool" = some (.type "bool"):=by decide +kernel
theorem wU:bootBuiltins "int" = some (.type "int"):=by decide +kernel
theorem aQ:bootBuiltins "isinstance" = some (.builtin "isinstance"):=by decide +kernel
theorem iS:bootBuiltins "len" = some (.builtin "len"):=by decide +kernel
theorem zY:bootBuiltins "list" = some (.type "list"):=by decide +kernel
theorem kX:bootBuiltins "str" = some (.type "str"):=by decide +kernel
theorem nv:bootBuiltins "tuple" = some (.type "tuple"):=by decide +kernel
def hv(l:Addr)(a b c d e:Int):HO:=.lst [.ref l,.int a,.int b,.int c,.int d,.int e]
def z8(l:Addr)(o:HO):Prop:=∃a b c d e,o=hv l a b c d e/\0<=a
def lG:Sp:=λvs H Q _=>∃h,vs=[.ref h]/\∃l a b c d e,H h=some (hv l a b c d e)/\Q (.int (d*48271%2147483647+e*40693%2147483399)) (upd H h (hv l a b c (d*48271%2147483647) (e*40693%2147483399)))
def yM:Sp:=λvs H Q _=>∃h,vs=[.ref h]/\∃l ns o,H h=some o/\z8 l o/\H l=some (.lst (List.map V.int ns))/\∀o',z8 l o'->Q .non (upd H h o')
def qE:Sp:=λvs H Q _=>∃h m,vs=[.ref h,.int m]/\1<=m/\m<2 ^ 300/\∃l ns o,H h=some o/\z8 l o/\H l=some (.lst (List.map V.int ns))/\∀r o',0<=r->r<m->z8 l o'->Q (.int r) (upd H h o')
local macro_rules | `(tactic| walk_at "rd") => `(tactic| walk_at "rc")
local macro_rules | `(tactic| walk_at "rl") => `(tactic| first | (refine eS fun R hR => ?_) | walk_at "ry" | (refine Nx.to (by assumption) _ _ ?_))
local macro_rules | `(tactic| walk_at "rc") => do
  let ids := ("L2.start tSeq nR uQ mB tB yo Jk sC tC mS bX yc xq vN pV pX pW xt Dn qB lE xu xl yq rI rU G9 G8 xI pY Gy xK y8 y9 y3 Bh sI sH oa qI kB qJ qN nh vW kE sL Bn sJ Bl Bk Bm za y4 Gu pT jf yV Gw Ap kA ng yW xA Gv xr pZ Am pU Jl List.map_cons List.map_nil List.cons_append List.nil_append List.append_nil List.length_cons List.length_nil List.replicate List.getElem?_cons_zero List.getElem?_cons_succ List.set_cons_zero List.set_cons_succ Nat.reduceAdd Nat.reduceSub Nat.reduceLeDiff Option.some.injEq V.int.injEq V.ref.injEq V.str.injEq V.bl.injEq V.ty.injEq List.cons.injEq HO.lst.injEq HO.tup.injEq HO.dK.injEq exists_eq_left exists_eq_left' exists_and_left and_true true_and and_assoc exists_const reduceCtorEq aq m5 decide_eq_true_eq List.length_map ite_true ite_false Bool.false_eq_true Bool.true_and Bool.and_true w5 wZ wY wX wW wV rj rh rg q0 qZ wQ wO wN wM rF rE rD rC rB aZ Option.join_some Option.join_none ko m9 qe qd wC vY qf xY m6 xk Int.zero_add Int.reduceMul Int.reduceAdd Int.reduceSub Int.reduceLT Int.reduceLE Int.reducePow Int.reduceToNat Int.reduceNeg gt_iff_lt ge_iff_le lG hv qM HO.ext.injEq uR qC lF je m8 vR vV xm Ends.DW lJ lK qK vQ vX HO.xd.injEq n8 Cr iB y7 xZ qL sG m7 qD Bi Bj nc".splitOn " ").toArray.map fun x => Lean.mkIdent x.toName
  `(tactic| simp only [$[$ids:ident],*])
local macro_rules | `(tactic| walk_at "ry") => do
  let ids := ("L2.start nR uQ mB tB yo Jk sC tC mS bX yc xq vN pV pX pW xt Dn qB lE xu xl yq rI rU G9 G8 xI pY Gy xK y8 y9 y3 Bh sI sH oa qI kB qJ qN nh vW kE sL Bn sJ Bl Bk Bm za y4 Gu pT jf yV Gw Ap kA ng yW xA Gv xr pZ Am pU Jl List.map_cons List.map_nil List.cons_append List.nil_append List.append_nil List.length_cons List.length_nil List.replicate List.getElem?_cons_zero List.getElem?_cons_succ List.set_cons_zero List.set_cons_succ Nat.reduceAdd Nat.reduceSub Nat.reduceLeDiff Option.some.injEq V.int.injEq V.ref.injEq V.str.injEq V.bl.injEq V.ty.injEq List.cons.injEq HO.lst.injEq HO.tup.injEq HO.dK.injEq exists_eq_left exists_eq_left' exists_and_left and_true true_and and_assoc exists_const reduceCtorEq aq m5 decide_eq_true_eq List.length_map ite_true ite_false Bool.false_eq_true Bool.true_and Bool.and_true w5 wZ wY wX wW wV rj rh rg q0 qZ wQ wO wN wM rF rE rD rC rB aZ Option.join_some Option.join_none ko m9 qe qd wC vY qf xY m6 xk Int.zero_add Int.reduceMul Int.reduceAdd Int.reduceSub Int.reduceLT Int.reduceLE Int.reducePow Int.reduceToNat Int.reduceNeg gt_iff_lt ge_iff_le lG hv qM HO.ext.injEq uR qC lF je m8 vR vV xm Ends.DW lJ lK qK vQ vX HO.xd.injEq n8 Cr iB y7 xZ qL sG m7 qD Bi Bj nc".splitOn " ").toArray.map fun x => Lean.mkIdent x.toName
  `(tactic| simp only [$[$ids:ident],*])
section
variable {P:Program}{w:World}{K:PySem.W.Frag}{mg:Str->Option Value}{base:Heap}{t:Ri}
theorem wm(T:Txt K mg t):dc P w K mg base jL 1 t.iW t.iN ["_law_hand_here"] lG:=by
 refine T.eQ.rL qG (λvs H Q E h=>?_) (λdh A outer s H vs Q E hr h hc hf=>?_)
 ·obtain⟨h,rfl,_⟩:=h;rfl
 obtain⟨h,rfl,l,a,b,c,d,e,hh,q⟩:=h
 refine⟨_,(by apply ai;exact(fL (ay iG (ay og (bu fD (ak hc 0) ah (λ_ _=>rfl)) ah) ah) (fM (ak hc 0) ah jy));apply ai;exact(fL (ay iG (ay og (bu fD (ak hc 0) ah (λ_ _=>rfl)) ah) ah) (fM (ak hc 0) ah jy));exact ao (aE (ay bM (bu fD (ak hc 0) ah (λ_ _=>rfl)) (bu fD (ak hc 0) ah (λ_ _=>rfl))))),?_⟩
 unfold hv at *
 walk_at "rd"
 simp only[hh]
 walk_at "rd"
 exact q
theorem BX(T:Txt K mg t):dc P w K mg base jL 2 t.iV t.iM ["_law_hand_here"] yM:=by
 have eN:=wm (P:=P) (w:=w) (base:=base) T
 refine T.mO.rL gZ (λvs H Q E h=>?_) (λdh A outer s H vs Q E hr h hc hf=>?_)
 ·obtain⟨h,rfl,_⟩:=h;rfl
 obtain⟨h,rfl,l,ns,o,hh,⟨a,b,c,d,e,rfl,ha⟩,hl,q⟩:=h
 refine⟨_,(by apply ai;exact(aO hc gZ.nd hf 1 (by decide +kernel) ah);apply ip;exact(aW (aM wc (bu fD (ak hc 0) ah (λ_ _=>rfl)) (az lX (aX hc) T.fN iS (ae (bu fD (ak hc 0) ah (λ_ _=>rfl)) ag)) (bf _)) (by exact ao (aO hc gZ.nd hf 1 (by decide +kernel) (az zV (aX hc) T.vK I0 (ae (bu fD (bu fD (ak hc 0) ah (λ_ _=>rfl)) (bu fD (ak hc 0) ah (λ_ _=>rfl)) (λ_ _=>rfl)) ag)))) aL);apply ai;exact(rY (ak hc 0) ah Dz ah zJ jy);apply ip;exact(aW (aM Hi (ak hc 1) (ay lN ah ah) (bf _)) (by exact ao (fL (ak hc 1) (fM (ak hc 0) ah jy))) (by exact ao (fL ah (fM (ak hc 0) ah jy))));apply ai;exact(fL (ay bM (ay iG (ay bM (bu fD (ak hc 0) ah (λ_ _=>rfl)) (ay iG (ak hc 1) ah)) ah) ah) (fM (ak hc 0) ah jy));apply ai;exact(fL (ay bM (ay iG (ay bM (ay og (bu fD (ak hc 0) ah (λ_ _=>rfl)) ah) (ay iG (ak hc 1) ah)) ah) ah) (fM (ak hc 0) ah jy));apply ai;exact(eJ (au eN hr.mono (aX hc) T.fQ T.eQ.kp T.fT .nil aS (ae (ak hc 0) ag)));exact ao (eJ (au eN hr.mono (aX hc) T.fQ T.eQ.kp T.fT .nil aS (ae (ak hc 0) ag)))),?_⟩
 unfold hv at *
 walk_at "rd"
 refine⟨λσ' H'=>∃z,σ'=[some (.ref h),some (.int z)]/\H'=H,?_,?_⟩
 ·repeat (first | walk_at "rd" | simp only[hh,hl])
  split
  ·rename_i lT
   obtain⟨v,Tf⟩:=z5 ha lT
   rw[Tf]
   walk_at "rd"
   exact⟨_,rfl⟩
  ·exact⟨_,rfl⟩
 ·rintro σ' H' ⟨z,e1,e2⟩
  subst e1 e2
  repeat (first | walk_at "rd" | simp only[hh,hl])
  refine⟨λσ' jl=>∃b' c',σ'=[some (.ref h),some (.int z)]/\jl=upd H' h (.lst [.ref l,.int (a+1),.int b',.int c',.int d,.int e]),?_,?_⟩
  ·repeat (first | walk_at "rd" | simp only[hh,hl])
   split
   ·exact⟨_,_,rfl⟩
   ·exact⟨_,_,rfl⟩
  ·rintro σ' jl ⟨b',c',e1,e2⟩
   subst e1 e2
   repeat (first | walk_at "rd" | simp only[hh,hl])
   exact q _ ⟨_,_,_,_,_,rfl,by omega⟩
theorem nj(T:Txt K mg t):dc P w K mg base jL 3 t.iY t.iP ["_law_hand_here","_law_many"] qE:=by
 have eN:=wm (P:=P) (w:=w) (base:=base) T
 have t6:=BX (P:=P) (w:=w) (base:=base) T
 refine T.aH.rL df (λvs H Q E h=>?_) (λdh A outer s H vs Q E hr h hc hf=>?_)
 ·obtain⟨h,m,rfl,_⟩:=h;rfl
 obtain⟨h,m,rfl,hm,Tx,l,ns,o,hh,⟨a,b,c,d,e,rfl,ha⟩,hl,q⟩:=h
 refine⟨_,(by apply ip;exact(aW (g8 (ke (aM eL (bu fD (ak hc 0) ah (λ_ _=>rfl)) ah (bf _)) (iu (aM eL (bu fD (ak hc 0) ah (λ_ _=>rfl)) ah (bf _))))) (by exact ao (eJ (au t6 hr.mono (aX hc) T.sY T.mO.kp T.tW .nil aS (ae (ak hc 0) ag)))) aL);apply ai;exact(aW (aM zt (bu fD (ak hc 0) ah (λ_ _=>rfl)) ah (bf _)) (by apply ai;exact(aO hc df.nd hf 2 (by decide +kernel) (ay iG (bu fD (ak hc 0) ah (λ_ _=>rfl)) (ak hc 1)));apply ai;exact(fL (ay sQ (bu fD (ak hc 0) ah (λ_ _=>rfl)) (ak hc 1)) (fM (ak hc 0) ah jy));exact ao (aE (ak hc 2))) aL);apply ai;exact(rY (ak hc 0) ah Dz ah Fw jy);apply ai;exact(aO hc df.nd hf 3 (by decide +kernel) (au eN hr.mono (aX hc) T.fQ T.eQ.kp T.fT .nil aS (ae (ak hc 0) ag)));apply ai;exact(aO hc df.nd hf 4 (by decide +kernel) ah);apply ai;exact(xc rP (aM wc (ak hc 4) (ak hc 1) (bf _)) (by apply ai;exact(aO hc df.nd hf 3 (by decide +kernel) (ay bM (ay og (ak hc 3) ah) (au eN hr.mono (aX hc) T.fQ T.eQ.kp T.fT .nil aS (ae (ak hc 0) ag))));exact ao (aO hc df.nd hf 4 (by decide +kernel) (ay og (ak hc 4) ah))));exact ao (aE (ay iG (ak hc 3) (ak hc 1)))),?_⟩
 unfold hv at *
 walk_at "rd"
 refine⟨λσ' H'=>∃a b c d e,σ'=[some (.ref h),some (.int m),none,none,none]/\H'=upd H h (hv l a b c d e)/\0<=a,?_,?_⟩
 ·have same:H=upd H h (hv l a b c d e):=by
   funext x;unfold upd;split
   ·rename_i e;rw[e,hh];rfl
   ·rfl
  repeat (first | walk_at "rd" | simp only[hh,hl])
  by_cases hb:b=0
  ·by_cases hc:c=0
   ·simp only[hb,hc,if_true]
    repeat (first | walk_at "rd" | simp only[hh,hl])
    refine⟨h,rfl,l,ns,_,hh,⟨a,b,c,d,e,by rw[hb,hc];rfl,ha⟩,hl,?_⟩
    rintro o' ⟨a',b',c',d',e',rfl,T8⟩
    exact⟨a',b',c',d',e',rfl,T8⟩
   ·simp only[hb,hc,if_true,if_false,Bool.false_eq_true]
    exact⟨a,b,c,d,e,same,ha⟩
  ·simp only[hb,if_false,Bool.false_eq_true]
   exact⟨a,b,c,d,e,same,ha⟩
 ·rintro σ' H' ⟨a,b,c,d,e,e1,e2,ha⟩
  subst e1 e2
  repeat (first | walk_at "rd" | simp only[hh,hl])
  split
  ·rename_i hb
   refine⟨by omega,⟨by omega,Tx⟩,q _ _ (Int.emod_nonneg _ (by omega)) (Int.emod_lt_of_pos _ (by omega)) ⟨_,_,_,_,_,rfl,ha⟩⟩
  ·rename_i hb
   obtain⟨W,hW⟩:∃W:Nat->St->Hp->Prop,∀μ σ' H',W μ σ' H'↔∃v z a b c d e:Int,μ=(m-z).toNat/\σ'=[some (.ref h),some (.int m),none,some (.int v),some (.int z)]/\H'=upd H h (hv l a b c d e)/\0<=a/\1<=z:=⟨_,λ_ _ _=>fc⟩
   refine⟨W,⟨_,(hW _ _ _).mpr ⟨_,_,_,_,_,_,_,rfl,rfl,rfl,ha,by omega⟩⟩,?_⟩
   intro μ σ' H' Te
   obtain⟨v,z,a,b,c,d,e,rfl,e1,e2,ha,hz⟩:=(hW _ _ _).mp Te
   subst e1 e2
   walk_at "rd"
   split
   ·rename_i lT
    obtain⟨N,hN⟩:∃N:St->Hp->Prop,∀σ' H',N σ' H'↔∃v z' a b c d e:Int,σ'=[some (.ref h),some (.int m),none,some (.int v),some (.int z')]/\H'=upd H h (hv l a b c d e)/\0<=a/\z'=z*4294967296:=⟨_,λ_ _=>fc⟩
    refine⟨N,λσ' H' hn=>?_,?_⟩
    ·obtain⟨v,z',a,b,c,d,e,e1,e2,ha,e3⟩:=(hN _ _).mp hn
     exact⟨(m-z').toNat,by omega,(hW _ _ _).mpr ⟨v,z',a,b,c,d,e,rfl,e1,e2,ha,by omega⟩⟩
    ·repeat (first | walk_at "rd" | simp only[hh,hl])
     exact(hN _ _).mpr ⟨_,_,_,_,_,_,_,rfl,rfl,ha,rfl⟩
   ·refine⟨by omega,q _ _ (Int.emod_nonneg _ (by omega)) (Int.emod_lt_of_pos _ (by omega)) ⟨_,_,_,_,_,rfl,ha⟩⟩
local macro_rules | `(tactic| walk_at "rd") => `(tactic| walk_at "rc")
local macro_rules | `(tactic| walk_at "rl") => `(tactic| first | (refine eS fun R hR => ?_) | walk_at "ry" | (refine Nx.to (by assumption) _ _ ?_))
local macro_rules | `(tactic| walk_at "rc") => do
  let ids := ("L2.start tSeq nR uQ mB tB yo Jk sC tC mS bX yc xq vN pV pX pW xt Dn qB y2 zb vP Dm vO Ck wz lE xu xl yq rI rU G9 G8 xI pY Gy xK y8 y9 y3 Bh sI sH oa qI kB qJ qN nh vW kE sL Bn sJ Bl Bk Bm za y4 Gu pT jf yV Gw Ap kA ng yW xA Gv xr pZ Am pU Jl List.map_cons List.map_nil List.cons_append List.nil_append List.append_nil List.length_cons List.length_nil List.replicate List.getElem?_cons_zero List.getElem?_cons_succ List.set_cons_zero List.set_cons_succ Nat.reduceAdd Nat.reduceSub Nat.reduceLeDiff Option.some.injEq V.int.injEq V.ref.injEq V.str.injEq V.bl.injEq V.ty.injEq List.cons.injEq HO.lst.injEq HO.tup.injEq HO.dK.injEq exists_eq_left exists_eq_left' exists_and_left and_true true_and and_assoc exists_const reduceCtorEq aq m5 decide_eq_true_eq List.length_map ite_true ite_false Bool.false_eq_true Bool.true_and Bool.and_true w5 wZ wY wX wW wV rj rh rg q0 qZ wQ wO wN wM rF rE rD rC rB aZ Option.join_some Option.join_none ko m9 qe qd wC vY qf xY m6 xk Int.zero_add Int.reduceMul Int.reduceAdd Int.reduceSub Int.reduceLT Int.reduceLE Int.reducePow Int.reduceToNat Int.reduceNeg gt_iff_lt ge_iff_le lG hv qM HO.ext.injEq uR qC lF je m8 vR vV xm Ends.DW lJ lK qK vQ vX HO.xd.injEq n8 Cr iB y7 xZ qL sG m7 qD Bi Bj nc".splitOn " ").toArray.map fun x => Lean.mkIdent x.toName
  `(tactic| simp only [$[$ids:ident],*])
local macro_rules | `(tactic| walk_at "ry") => do
  let ids := ("L2.start nR uQ mB tB yo Jk sC tC mS bX yc xq vN pV pX pW xt Dn qB y2 zb vP Dm vO Ck wz lE xu xl yq rI rU G9 G8 xI pY Gy xK y8 y9 y3 Bh sI sH oa qI kB qJ qN nh vW kE sL Bn sJ Bl Bk Bm za y4 Gu pT jf yV Gw Ap kA ng yW xA Gv xr pZ Am pU Jl List.map_cons List.map_nil List.cons_append List.nil_append List.append_nil List.length_cons List.length_nil List.replicate List.getElem?_cons_zero List.getElem?_cons_succ List.set_cons_zero List.set_cons_succ Nat.reduceAdd Nat.reduceSub Nat.reduceLeDiff Option.some.injEq V.int.injEq V.ref.injEq V.str.injEq V.bl.injEq V.ty.injEq List.cons.injEq HO.lst.injEq HO.tup.injEq HO.dK.injEq exists_eq_left exists_eq_left' exists_and_left and_true true_and and_assoc exists_const reduceCtorEq aq m5 decide_eq_true_eq List.length_map ite_true ite_false Bool.false_eq_true Bool.true_and Bool.and_true w5 wZ wY wX wW wV rj rh rg q0 qZ wQ wO wN wM rF rE rD rC rB aZ Option.join_some Option.join_none ko m9 qe qd wC vY qf xY m6 xk Int.zero_add Int.reduceMul Int.reduceAdd Int.reduceSub Int.reduceLT Int.reduceLE Int.reducePow Int.reduceToNat Int.reduceNeg gt_iff_lt ge_iff_le lG hv qM HO.ext.injEq uR qC lF je m8 vR vV xm Ends.DW lJ lK qK vQ vX HO.xd.injEq n8 Cr iB y7 xZ qL sG m7 qD Bi Bj nc".splitOn " ").toArray.map fun x => Lean.mkIdent x.toName
  `(tactic| simp only [$[$ids:ident],*])
def Hd(H:Hp)(h l:Addr):Prop:=∃ns o,H h=some o/\z8 l o/\H l=some (.lst (List.map V.int ns))
def bJ(H:Hp)(h:Addr):Prop:=∃l,Hd H h l
structure Dr(h:Addr)(H H':Hp):Prop where
 keep:∀b o,b≠h->H b=some o->H' b=some o
 hand:∀l,Hd H h l->Hd H' h l
theorem Dr.refl{h:Addr}{H:Hp}:Dr h H H:=⟨λ_ _ _ e=>e,λ_ x=>x⟩
theorem Dr.trans{h:Addr}{H H1 H2:Hp}(a:Dr h H H1)(b:Dr h H1 H2):Dr h H H2:=⟨λc o hc e=>b.keep c o hc (a.keep c o hc e),λl x=>b.hand l (a.hand l x)⟩
theorem Dr.cA{h:Addr}{H H1:Hp}(a:Dr h H H1)(x:bJ H h):bJ H1 h:=let ⟨l,y⟩:=x;⟨l,a.hand l y⟩
theorem Hd.apart{H:Hp}{h l:Addr}(x:Hd H h l):l≠h:=by
 obtain⟨ns,o,e1,⟨a,b,c,d,e,rfl,_⟩,e3⟩:=x
 intro z
 rw[z,e1]at e3
 have q:=dU e3
 unfold hv at q
 injection q with q
 match ns,q with
 | [],q=>cases q
 | n::_,q=>injection q with q1 _;cases q1
theorem Dr.new{h p:Addr}{H H1:Hp}{o:HO}(a:Dr h H H1)(hp:H1 p=none):Dr h H (upd H1 p o):=by
 refine⟨λc o' hc e=>?_,λl x=>?_⟩
 ·rw[aD (aG (a.keep c o' hc e) hp)];exact a.keep c o' hc e
 ·obtain⟨ns,oh,e1,e2,e3⟩:=a.hand l x
  exact⟨ns,oh,by rw[aD (aG e1 hp)];exact e1,e2,by rw[aD (aG e3 hp)];exact e3⟩
theorem Dr.put{h p:Addr}{H H1:Hp}{o':HO}(a:Dr h H H1)(hn:H p=none):Dr h H (upd H1 p o'):=by
 refine⟨λc o' hc e=>?_,λl x=>?_⟩
 ·rw[aD (aG e hn)];exact a.keep c o' hc e
 ·obtain⟨ns,oh,e1,e2,e3⟩:=a.hand l x
  obtain⟨_,_,f1,_,f3⟩:=x
  exact⟨ns,oh,by rw[aD (aG f1 hn)];exact e1,e2,by rw[aD (aG f3 hn)];exact e3⟩
theorem bJ.ne{h p:Addr}{H:Hp}(x:bJ H h)(hp:H p=none):p≠h:=by
 obtain⟨l,ns,oh,e1,_,_⟩:=x
 exact(aG e1 hp).symm
theorem Dr.free{h p:Addr}{H H1:Hp}(a:Dr h H H1)(x:bJ H h)(hp:H1 p=none):H p=none:=by
 cases e:H p with
 | none=>rfl
 | some o=>
  have n:=(a.cA x).ne hp
  have:=a.keep p o n e
  rw[hp]at this;cases this
theorem bx{h:Addr}{m:Int}{H0 H:Hp}{Q:VK}{E:XK}(hd:bJ H0 h)(d:Dr h H0 H)(h1:1<=m)(h2:m<2 ^ 300)(q:∀r H',0<=r->r<m->Dr h H0 H'->(∀b,b≠h->H' b=H b)->Q (.int r) H'):qE [.ref h,.int m] H Q E:=by
 obtain⟨l,x⟩:=hd
 have x':=d.hand l x
 have ap:=x'.apart
 obtain⟨ns,oh,e1,e2,e3⟩:=x'
 refine⟨h,m,rfl,h1,h2,l,ns,oh,e1,e2,e3,λr o' r0 r1 ho=>q r _ r0 r1 ⟨λc o hc e=>?_,λl' x'=>?_⟩ (λb hb=>aD hb)⟩
 ·rw[aD hc];exact d.keep c o hc e
 ·have y:=d.hand l' x'
  have Vo:=y.apart
  obtain⟨Sz,R4,f1,f2,f3⟩:=y
  have el:l'=l:=by
   obtain⟨a,b,c,d,e,rfl,_⟩:=e2
   obtain⟨a',b',c',d',e',rfl,_⟩:=f2
   rw[e1]at f1
   have:=dU f1
   unfold hv at this
   injection this with this
   injection this with this _
   exact(V.ref.inj this).symm
  subst el
  exact⟨ns,o',aq,ho,by rw[aD ap];exact e3⟩
theorem aB{H:Hp}{p:Addr}(h:H p=none)(o:HO):bA H (upd H p o):=λb u q=>by rw[aD (aG q h)];exact q
theorem oQ{α:Type}(f:α->V)(xs:List α)(lo hi:Option Int):kR (xs.map f) lo hi=((xs.drop (HT.eG xs.length 0 lo)).take (HT.eG xs.length xs.length hi-HT.eG xs.length 0 lo)).map f:=by
 unfold kR;rw[bB,pB,rO]
def yQ(K:PySem.W.Frag):Sp:=λvs H Q _=>∃a ns,vs=[.ref a]/\mh K H a (List.map V.int ns)/\∀h H',bA H H'->H h=none->bJ H' h->Q (.ref h) H'
theorem Ca(T:Txt K mg t):dc P w K mg base jL 1 t.iX t.iO ["_law_script"] (yQ K):=by
 refine T.mP.rL qH (λvs H Q E h=>?_) (λdh A outer s H vs Q E hr h hc hf=>?_)
 ·obtain⟨a,ns,rfl,_⟩:=h;rfl
 obtain⟨a,ns,rfl,hS,q⟩:=h
 refine⟨_,(by exact ao (aE (eD (ae (bI oU (aX hc) T.nM zY (ae (de vU (ak hc 0) dH (dG ah)) ag)) (ae ah (ae ah (ae ah (ae ah (ae ah ag))))))))),?_⟩
 walk_at "rd"
 refine⟨a,List.map V.int ns,rfl,hS,λp hp=>?_⟩
 rw[oQ]
 walk_at "rd"
 refine λl hl=>⟨by decide,λh hh=>?_⟩
 have s1:=aB hp (.lst (List.map V.int ((ns.drop (HT.eG ns.length 0 none)).take (HT.eG ns.length ns.length (some 63)-HT.eG ns.length 0 none))))
 have s2:=aB hl (.lst (List.map V.int ((ns.drop (HT.eG ns.length 0 none)).take (HT.eG ns.length ns.length (some 63)-HT.eG ns.length 0 none))))
 have s3:=aB hh (hv l 0 0 0 20011 40009)
 exact q h _ (s1.trans (s2.trans s3)) ((s1.trans s2).free hh) ⟨l,_,_,aq,⟨_,_,_,_,_,rfl,Int.le_refl 0⟩,s3 _ _ aq⟩
local macro_rules | `(tactic| walk_at "rd") => `(tactic| walk_at "rc")
local macro_rules | `(tactic| walk_at "rl") => `(tactic| first | (refine eS fun R hR => ?_) | walk_at "ry" | (refine Nx.to (by assumption) _ _ ?_))
def aR(n:Int):Str:=Str.ofString (toString n)
def cD(S:List Int):Str:=if S=[] then Str.ofString "-" else Txt.join (Str.ofString "+") (S.map aR)
theorem sV{n:Int}(h:n.natAbs<10 ^ 100):(aR n).length<=101:=by
 have:=int_text_length_le10 (k:=100) (by decide) h
 unfold aR
 rw[ofString_length]
 exact this
theorem jR{n:Int}(h:n.natAbs<10 ^ 100):n.natAbs.log2<1920:=by
 by_cases h0:n.natAbs=0
 ·rw[h0];decide
 ·exact(Nat.log2_lt h0).mpr (j9 h (by decide +kernel))
theorem CP{l:List Str}:∀{acc:Nat},(∀x∈l,x.length<=101)->l.foldl (λa x=>a+x.length+1) acc<=acc+l.length*102:=by
 induction l with
 | nil=>intro acc _;simp
 | cons x l ih=>
  intro acc h
  rw[nF]
  have h1:=h x (by simp)
  have h2:=ih (acc:=acc+x.length+1) λy hy=>h y (by simp[hy])
  rw[mn]
  omega
theorem wy{S:List Int}(l:S.length<=100)(h:∀z∈S,z.natAbs<10 ^ 100):JoinOk (Str.ofString "+") (S.map aR)=true:=by
 unfold JoinOk
 rw[List.foldl_toArray]
 have e:(Str.ofString "+").length=1:=by decide +kernel
 rw[e]
 have h1:=CP (l:=S.map aR) (acc:=0) λx hx=>by
  obtain⟨z,hz,rfl⟩:=pA.mp hx
  exact sV (h z hz)
 rw[bB]at h1
 have:¬(S.map aR).foldl (λa x=>a+x.length+1) 0 > sizeLine:=by rw[ly];omega
 simpa [Builtin.Str.tooLong]using this
def yO:Sp:=λvs H Q _=>∃p,vs=[.ref p]/\∃S:List Int,H p=some (.tup (List.map V.int S))/\S.length<=100/\(∀z∈S,z.natAbs<10 ^ 100)/\∀H',bA H H'->Q (.str (cD S)) H'
theorem wk(T:Txt K mg t):dc P w K mg base jL 1 t.jX t.jU ["part"] yO:=by
 refine T.j6.rL sE (λvs H Q E h=>?_) (λdh A outer s H vs Q E hr h hc hf=>?_)
 ·obtain⟨p,rfl,_⟩:=h;rfl
 obtain⟨p,rfl,S,hp,lS,hS,q⟩:=h
 have hu:=jC hr
 have Cw:=hr.fW
 refine⟨_,(by apply ai;exact(aW (aM (wg hu) (ak hc 0) (gV ag) (bf _)) (by exact ao (aE (eK (v:=.str (Str.ofString "-")) (aX hc) T.dM ⟨_,rfl⟩))) aL);exact ao (aE (gW pH rS rT iI aA (ae (cI hc ["member"] [] rfl (by decide +kernel) (jb (ak hc 0)) (λ_ hc=>mQ hc (by decide +kernel) 0 (by decide +kernel)) (λ_ _=>bN) (λ_ hc=>(bI gQ (aX hc) T.g7 kX (ae (ak hc 0) ag)))) ag)))),?_⟩
 walk_at "r"
 refine⟨by decide,λp1 tF=>?_⟩
 have s1:=aB tF (.tup [])
 refine⟨p,p1,rfl,rfl,S,[],s1 _ _ hp,aq,_,rfl,?_⟩
 have u6:=s1 _ _ hp
 generalize upd H p1 (.tup [])=H1 at s1 u6 ⊢
 by_cases e:S=[]
 ·subst e
  rw[aU (by decide)]
  have:=q _ s1
  rw[show cD []=Str.ofString "-" from aU rfl]at this
  exact this
 ·rw[aK (by simpa using e)]
  have es:cD S=Txt.join (Str.ofString "+") (S.map aR):=aK e
  rw[es]at q
  walk_at "r"
  refine⟨⟨_,cQ u6⟩,?_⟩
  refine lW (zs:=List.map V.int S) (λj=>S[j]?.map λz=>V.str (aR z)) (λ_=>yk) (λ_ _ _ _ _ _ r=>r) (λ_ _ _ _ _ _ _ r=>r) u6 (by rw[bB];omega) (λDD c H4 j z yes no hj s4 JL JK kM Jz=>?_) (λD H4 vs s4 hD Ig rl=>?_)
  ·obtain⟨n,en,rfl⟩:=int_at hj
   rw[en]at kM
   walk_at "rc"
   walk_at "r"
   exact⟨jR (hS n (gJ en)),kM _ rfl _ _ (λ_ _ e=>e) rfl⟩
  have ev:=kl rl
  rw[bB,oK (l:=S) (g:=λz=>V.str (aR z)) λk hk=>by rw[cT hk];rfl]at ev
  subst ev
  exact⟨D,rfl,S.map aR,by rw[Ig,nA];rfl,wy lS hS,q _ (s1.trans s4)⟩
theorem oi(T:Txt K mg t):dc P w K mg base jL 1 t.eV t.eT ["_law_part"] yO:=by
 refine T.cG.rL lH (λvs H Q E h=>?_) (λdh A outer s H vs Q E hr h hc hf=>?_)
 ·obtain⟨p,rfl,_⟩:=h;rfl
 obtain⟨p,rfl,S,hp,lS,hS,q⟩:=h
 have hu:=jC hr
 have Cw:=hr.fW
 refine⟨_,(by apply ai;exact(aW (aM (wg hu) (ak hc 0) (gV ag) (bf _)) (by exact ao (aE aA)) aL);exact ao (aE (gW pH rS rT iI aA (ae (cI hc ["_law_member"] [] rfl (by decide +kernel) (jb (ak hc 0)) (λ_ hc=>mQ hc (by decide +kernel) 0 (by decide +kernel)) (λ_ _=>bN) (λ_ hc=>(bI gQ (aX hc) T.g7 kX (ae (ak hc 0) ag)))) ag)))),?_⟩
 walk_at "r"
 refine⟨by decide,λp1 tF=>?_⟩
 have s1:=aB tF (.tup [])
 refine⟨p,p1,rfl,rfl,S,[],s1 _ _ hp,aq,_,rfl,?_⟩
 have u6:=s1 _ _ hp
 generalize upd H p1 (.tup [])=H1 at s1 u6 ⊢
 by_cases e:S=[]
 ·subst e
  rw[aU (by decide)]
  have:=q _ s1
  rw[show cD []=Str.ofString "-" from aU rfl]at this
  exact this
 ·rw[aK (by simpa using e)]
  have es:cD S=Txt.join (Str.ofString "+") (S.map aR):=aK e
  rw[es]at q
  walk_at "r"
  refine⟨⟨_,cQ u6⟩,?_⟩
  refine lW (zs:=List.map V.int S) (λj=>S[j]?.map λz=>V.str (aR z)) (λ_=>yk) (λ_ _ _ _ _ _ r=>r) (λ_ _ _ _ _ _ _ r=>r) u6 (by rw[bB];omega) (λDD c H4 j z yes no hj s4 JL JK kM Jz=>?_) (λD H4 vs s4 hD Ig rl=>?_)
  ·obtain⟨n,en,rfl⟩:=int_at hj
   rw[en]at kM
   walk_at "rc"
   walk_at "r"
   exact⟨jR (hS n (gJ en)),kM _ rfl _ _ (λ_ _ e=>e) rfl⟩
  have ev:=kl rl
  rw[bB,oK (l:=S) (g:=λz=>V.str (aR z)) λk hk=>by rw[cT hk];rfl]at ev
  subst ev
  exact⟨D,rfl,S.map aR,by rw[Ig,nA];rfl,wy lS hS,q _ (s1.trans s4)⟩
local macro_rules | `(tactic| walk_at "rd") => `(tactic| walk_at "rc")
local macro_rules | `(tactic| walk_at "rl") => `(tactic| first | (refine eS fun R hR => ?_) | walk_at "ry" | (refine Nx.to (by assumption) _ _ ?_))
def ye(x:Str):Bool:=x.cps.toList.all λc=>decide (48<=c)&&decide (c<=57)
def isNum(x:Str):Prop:=1<=x.length/\x.length<=60/\ye x=true/\(x.cps[0]?≠some 48\/x=Str.ofString "0")
theorem wj{a b:Nat}:(!decide ([a] < [b]))=decide (b<=a):=by
 rw[nD]
 simp only[uk,decide_eq_false_iff_not,uv,List.cons_lt_cons_iff]
 constructor
 ·intro z
  exact ui λy=>z (.inl y)
 ·rintro z (y | ⟨_,y⟩)
  ·omega
  ·exact absurd y (List.not_lt_nil _)
theorem oM{x:Str}(h:ye x=true):PySem.NumText.AllDigits x.cps.toList:=λc hc=>by
 have:=ka.mp h c hc
 rw[fJ,uv,uv]at this
 exact this
def xE(K:PySem.W.Frag)(cN:Addr):Sp:=λvs H Q E=>(∃x,vs=[.str x]/\x.length<=sizeLine/\∀H',bA H H'->(isNum x->∀n,intText? x=some n->Q (.int n) H')/\(¬isNum x->E (.ref cN) none H'))\/∃v ty,vs=[v]/\gR K H v ty/\PySem.W.kitOne K ty (.type "str")=some false/\E (.ref cN) none H
theorem jO(T:Txt K mg t):dc P w K mg base (ud P w) 2 t.gw t.gd ["text"] (xE K t.av):=by
 refine T.eI.O5 nY (λvs H Q E h=>?_) (λdh A outer s H vs Q E hr h hc hf L Mi=>?_)
 ·rcases h with ⟨x,rfl,_⟩ | ⟨v,ty,rfl,_⟩ <;> rfl
 have hu:=jC hr
 have Cw:=hr.fW
 rcases h with ⟨x,rfl,lx,q⟩ | ⟨v,ty,rfl,hty,hk,q⟩
 ·refine⟨_,(by apply ai;exact(aW (g8 (iq (bK (bZ (az cP (aX hc) T.aF aQ (ae (ak hc 0) (ae (cC (v:=V.ty "str") (aX hc) T.g7 kX rfl) ag))))) (gU (bK (pI wd wd ah (az fj (aX hc) T.fN iS (ae (ak hc 0) ag)) (eK (v:=.int 60) (aX hc) T.cW ⟨_,rfl⟩)))))) (by exact ao (cV (EH:=λ_=>E) T.bR T.cv T.cu (aX hc) T.dq rfl L (ae aA ag))) aL);apply ai;exact(aW (bK (bZ (az (fq hr.hd) (aX hc) T.kh qo (ae (cI hc ["sign"] [] rfl (by decide +kernel) (vJ (ak hc 0)) (λ_ hc=>mQ hc (by decide +kernel) 0 (by decide +kernel)) (λ_ _=>bN) (λ_ hc=>(pJ jg jg aA (ak hc 0) aA))) ag)))) (by exact ao (cV (EH:=λ_=>E) T.bR T.cv T.cu (aX hc) T.dq rfl L (ae aA ag))) aL);apply ai;exact(aW (g8 (ke (aM eL (bu Fv (ak hc 0) ah (λ_ _=>rfl)) aA (bf _)) (iu (aM zr (ak hc 0) aA (bf _))))) (by exact ao (cV (EH:=λ_=>E) T.bR T.cv T.cu (aX hc) T.dq rfl L (ae aA ag))) aL);exact ao (aE (bI qh (aX hc) T.nO wU (ae (ak hc 0) ag)))),?_⟩
  walk_at "r"
  refine⟨_,.str x,true,fC _ _,?_⟩
  walk_at "r"
  rw[aK (by decide)]
  refine⟨lx,?_⟩
  have no:∀{H':Hp},bA H H'->¬isNum x->1<=sizeLine/\E (.ref t.av) none H':=λs1 hn=>⟨by decide,(q _ s1).2 hn⟩
  by_cases h1:1<=(x.length:Int)
  ·rw[aU h1]
   by_cases h2:(x.length:Int)<=60
   ·rw[decide_eq_true h2,aK (by decide)]
    walk_at "r"
    obtain⟨Pc,ia⟩:∃Pc:Addr->Nat->List V->Hp->Prop,∀Z i ys H',Pc Z i ys H'↔∃bs:List Bool,ys=List.map V.bl bs/\bs=(x.cps.toList.take i).map (λc=>decide (48<=c)&&decide (c<=57))/\bA H H'/\H' Z=some (.lst ys):=⟨_,λ_ _ _ _=>fc⟩
    refine tU Pc (λZ hZ=>(ia _ _ _ _).mpr ⟨[],rfl,rfl,aB hZ _,aq⟩) (λZ hZ i c0 ys H' ec pv cb=>?_) (λZ hZ ys H' pv=>?_)
    ·obtain⟨bs,rfl,JF,sZ,Dx⟩:=(ia _ _ _ _).mp pv
     have hi:i<x.cps.size:=(jq.mp ec).1
     have hl:x.cps.size=x.length:=rfl
     have Ur:x.cps.toList[i]?=some c0:=by rw[vF];exact ec
     have lb:bs.length<=60:=by rw[JF,bB,dP];omega
     have step:bs++[decide (48<=c0)&&decide (c0<=57)]=(x.cps.toList.take (i+1)).map (λc=>decide (48<=c)&&decide (c<=57)):=by
      rw[vx,Ur,dw,JF];rfl
     walk_at "rc"
     repeat (walk_at "rd")
     have ea:(Str.ofString "0").cps.toList=[48]:=by decide +kernel
     have ez:(Str.ofString "9").cps.toList=[57]:=by decide +kernel
     rw[ea,ez,wj,wj]
     have fin:∀b:Bool,b=(decide (48<=c0)&&decide (c0<=57))->H' Z=some (.lst (List.map V.bl bs))/\bs.length<sizeLine/\Pc Z (i+1) (List.map V.bl bs++[V.bl b]) (upd H' Z (.lst (List.map V.bl bs++[V.bl b]))):=λb eb=>
      ⟨Dx,bO (by omega),(ia _ _ _ _).mpr ⟨bs++[b],by simp,by rw[eb];exact step,fo sZ hZ,aq⟩⟩
     by_cases JM:48<=c0
     ·rw[decide_eq_true JM,aU rfl]
      refine fin _ ?_
      rw[decide_eq_true JM];rfl
     ·rw[decide_eq_false JM,aK dn]
      refine fin _ ?_
      rw[decide_eq_false JM];rfl
    ·obtain⟨bs,rfl,JF,sZ,Dx⟩:=(ia _ _ _ _).mp pv
     refine⟨Z,rfl,bs,Dx,?_⟩
     have e:bs.all id=ye x:=by
      rw[JF,List.all_map,show x.cps.toList.take x.cps.size=x.cps.toList from rV (by simp)]
      rfl
     rw[e]
     by_cases h3:ye x=true
     ·rw[h3,aK (by decide)]
      walk_at "r"
      have h0:0<x.cps.size:=by have:x.cps.size=x.length:=rfl;omega
      have e0:x.cps[0]?=some x.cps[0]:=by simp[h0]
      have ne:x.cps.toList≠[]:=λz=>by have:=cR List.length z;simp at this;rw[this]at h0;exact absurd h0 (by simp)
      obtain⟨n,hn⟩:∃n,intText? x=some n:=⟨_,uD (oM h3) ne (by omega)⟩
      have ok:∀(R:St->Hp->Prop),isNum x->∃m,intText? x=some m/\x.length<=640/\Q (.int m) H':=λ_ i=>⟨n,hn,by omega,(q _ sZ).1 i n hn⟩
      have num:(x.cps[0]?≠some 48\/x=Str.ofString "0")->isNum x:=λi=>⟨by omega,by omega,h3,i⟩
      refine⟨lx,x.cps[0],cB (j:=0) (by rw[vF];exact e0),?_⟩
      by_cases h4:({ cps:=#[x.cps[0]] }:Str)=Str.ofString "0"
      ·rw[aU h4]
       have Vc:x.cps[0]=48:=by
        have e1:(Str.ofString "0").cps = #[48]:=by decide +kernel
        have:=cR Str.cps h4
        rw[e1]at this
        simpa using this
       by_cases h5:x=Str.ofString "0"
       ·rw[decide_eq_true h5,aK (by decide)]
        walk_at "r"
        exact ok (λ_ _=>True) (num (.inr h5))
       ·rw[decide_eq_false h5,aU (by decide)]
        exact no sZ λhn=>hn.2.2.2.elim (λz=>z (by rw[e0,Vc])) h5
      ·rw[aK h4]
       walk_at "r"
       refine ok (λ_ _=>True) (num (.inl λz=>h4 ?_))
       rw[e0]at z
       rw[dU z]
       decide +kernel
     ·rw[show ye x=false by simpa using h3,aU (by decide)]
      exact no sZ λhn=>h3 hn.2.2.1
   ·rw[decide_eq_false h2,aU (by decide)]
    exact no (bA.refl H) λhn=>by have:=hn.2.1;omega
  ·rw[aK h1,aU (by decide)]
   exact no (bA.refl H) λhn=>by have:=hn.1;omega
 ·refine⟨_,(by apply ai;exact(aW (g8 (iq (bK (bZ (az cP (aX hc) T.aF aQ (ae (ak hc 0) (ae (cC (v:=V.ty "str") (aX hc) T.g7 kX rfl) ag))))) (gU (bK (pI wd wd ah (az fj (aX hc) T.fN iS (ae (ak hc 0) ag)) (eK (v:=.int 60) (aX hc) T.cW ⟨_,rfl⟩)))))) (by exact ao (cV (EH:=λ_=>E) T.bR T.cv T.cu (aX hc) T.dq rfl L (ae aA ag))) aL);apply ai;exact(aW (bK (bZ (az (fq hr.hd) (aX hc) T.kh qo (ae (cI hc ["sign"] [] rfl (by decide +kernel) (vJ (ak hc 0)) (λ_ hc=>mQ hc (by decide +kernel) 0 (by decide +kernel)) (λ_ _=>bN) (λ_ hc=>(pJ jg jg aA (ak hc 0) aA))) ag)))) (by exact ao (cV (EH:=λ_=>E) T.bR T.cv T.cu (aX hc) T.dq rfl L (ae aA ag))) aL);apply ai;exact(aW (g8 (ke (aM eL (bu Fv (ak hc 0) ah (λ_ _=>rfl)) aA (bf _)) (iu (aM zr (ak hc 0) aA (bf _))))) (by exact ao (cV (EH:=λ_=>E) T.bR T.cv T.cu (aX hc) T.dq rfl L (ae aA ag))) aL);exact ao (aE (bI qh (aX hc) T.nO wU (ae (ak hc 0) ag)))),?_⟩
  walk_at "r"
  refine⟨_,hty,false,hk,?_⟩
  walk_at "r"
  exact⟨by decide,q⟩
local macro_rules | `(tactic| walk_at "rd") => `(tactic| walk_at "rc")
local macro_rules | `(tactic| walk_at "rl") => `(tactic| first | (refine eS fun R hR => ?_) | walk_at "ry" | (refine Nx.to (by assumption) _ _ ?_))
def Av(x:List Int)(i:Nat):Bool:=decide (x.getD i 0<x.getD (i+1) 0)
def p8(x:List Int):Bool:=((List.range (x.length-1)).map (Av x)).all id
theorem n6:∀{x:List Int},(∀i,i+1<x.length->Av x i=true)->gS x
 | [],_=>.nil
 | [a],_=>by simp[gS]
 | a::b::l,h=>by
  have hr:gS (b::l):=n6 λi hi=>by
   have:=h (i+1) (by simpa using hi)
   simpa [Av]using this
  have JG:a<b:=by simpa [Av]using h 0 (by simp)
  refine List.pairwise_cons.mpr ⟨λz hz=>?_,hr⟩
  rcases fH.mp hz with rfl | hz
  ·exact JG
  ·exact Int.lt_trans JG ((List.pairwise_cons.mp hr).1 z hz)
theorem p7{x:List Int}:p8 x=true↔gS x:=by
 unfold p8
 rw[List.all_map,ka]
 constructor
 ·exact λh=>n6 λi hi=>h i (qw.mpr (by omega))
 ·intro h i hi
  have j2:i+1<x.length:=by have:=qw.mp hi;omega
  have:=(yw.mp h) i (i+1) (by omega) j2 (by omega)
  show Av x i=true
  unfold Av
  rw[rW,rW,cT (by omega:i<x.length),cT j2]
  exact decide_eq_true this
def yP:Sp:=λvs H Q _=>∃a,vs=[.ref a]/\∃x:List Int,H a=some (.tup (List.map V.int x))/\x.length<=900/\∀H',bA H H'->Q (.bl (p8 x)) H'
theorem xO(T:Txt K mg t):dc P w K mg base jL 1 t.dO t.dN ["thing"] vS:=by
 refine T.fU.rL jN (λvs H Q E h=>?_) (λdh A outer s H vs Q E hr h hc hf=>?_)
 ·obtain⟨i,rfl,_⟩:=h;rfl
 obtain⟨i,rfl,q⟩:=h
 refine⟨_,(by exact ao (aE (eF (az cP (aX hc) T.aF aQ (ae (ak hc 0) (ae (cC (v:=V.ty "int") (aX hc) T.nO wU rfl) ag))) (jc (mZ (az cP (aX hc) T.aF aQ (ae (ak hc 0) (ae (cC (v:=V.ty "bool") (aX hc) T.nP z4 rfl) ag)))))))),?_⟩
 repeat (walk_at "rd")
 refine⟨_,.int i,true,fC _ _,?_⟩
 repeat (walk_at "rd")
 refine⟨_,.int i,false,iK (by decide) rfl,?_⟩
 repeat (walk_at "rd")
 exact q
theorem BZ(T:Txt K mg t):dc P w K mg base jL 2 t.oX t.oO ["thing"] yP:=by
 have lg:=xO (P:=P) (w:=w) (base:=base) T
 refine T.uc.rL xJ (λvs H Q E h=>?_) (λdh A outer s H vs Q E hr h hc hf=>?_)
 ·obtain⟨a,rfl,_⟩:=h;rfl
 obtain⟨a,rfl,x,ha,lx,q⟩:=h
 refine⟨_,(by apply ai;exact(aW (g8 (iq (bK (bZ (az cP (aX hc) T.aF aQ (ae (ak hc 0) (ae (cC (v:=V.ty "tuple") (aX hc) T.gX nv rfl) ag))))) (gU (bK (bZ (az (fq hr.hd) (aX hc) T.kh qo (ae (cI hc ["member"] [] rfl (by decide +kernel) (jb (ak hc 0)) (λ_ hc=>mQ hc (by decide +kernel) 0 (by decide +kernel)) (λ_ _=>bN) (λ_ hc=>(au lg hr.mono (aX hc) T.kI T.fU.kp T.kY .nil aS (ae (ak hc 0) ag)))) ag))))))) (by exact ao (aE fV)) aL);exact ao (aE (az (fq hr.hd) (aX hc) T.kh qo (ae (cI hc ["place"] [0] rfl (by decide +kernel) (uG (aX hc) T.gY (ae ah (ae (az jk (aX hc) T.fN iS (ae (ak hc 0) ag)) ag))) (λ_ hc=>mQ hc (by decide +kernel) 0 (by decide +kernel)) (λ_ _=>bN) (λ_ hc=>(nJ wc (bu Cm (ak hc 1) (ay qQ (ak hc 0) ah) (λ_ _=>rfl)) (bu Cm (ak hc 1) (ak hc 0) (λ_ _=>rfl)) (bf _)))) ag)))),?_⟩
 repeat (walk_at "rd")
 refine⟨_,.tup ha,true,fC _ _,?_⟩
 repeat (walk_at "rd")
 refine⟨⟨_,cQ ha⟩,?_⟩
 obtain⟨Pc,ia⟩:∃Pc:Addr->Nat->List V->Hp->Prop,∀Z i ys H',Pc Z i ys H'↔ys=List.map V.bl (List.replicate i true)/\bA H H'/\H' Z=some (.lst ys):=⟨_,λ_ _ _ _=>fc⟩
 refine iQ (zs:=List.map V.int x) Pc (λZ hZ=>(ia _ _ _ _).mpr ⟨rfl,aB hZ _,aq⟩) (λZ hZ i ys H' _ pv=>?_) (λZ hZ i z ys H' hz pv cb=>?_) (λZ hZ ys H' pv=>?_)
 ·obtain⟨_,s,_⟩:=(ia _ _ _ _).mp pv
  exact s _ _ ha
 ·obtain⟨rfl,s1,kP⟩:=(ia _ _ _ _).mp pv
  obtain⟨n,en,rfl⟩:=int_at hz
  have hi:i<x.length:=(fK.mp en).1
  walk_at "rc"
  repeat (walk_at "rd")
  refine⟨n,rfl,kP,by rw[il];exact bO (by omega),(ia _ _ _ _).mpr ⟨?_,fo s1 hZ,aq⟩⟩
  rw[uB,dw];rfl
 ·obtain⟨rfl,s1,kP⟩:=(ia _ _ _ _).mp pv
  refine⟨Z,rfl,_,kP,?_⟩
  rw[all_true]
  repeat (walk_at "rd")
  have Ia:=s1 _ _ ha
  repeat (first | walk_at "rd" | simp only[Ia])
  refine⟨by omega,by omega,?_⟩
  obtain⟨Pd,CG⟩:∃Pd:Addr->Nat->List V->Hp->Prop,∀Z2 i ys jl,Pd Z2 i ys jl↔ys=List.map V.bl ((List.range i).map (Av x))/\bA H' jl/\jl Z2=some (.lst ys):=⟨_,λ_ _ _ _=>fc⟩
  refine mH Pd (λZ2 zM=>(CG _ _ _ _).mpr ⟨rfl,aB zM _,aq⟩) (λZ2 zM i ys H2 hi pv cb=>?_) (λZ2 zM ys H2 pv=>?_)
  ·obtain⟨rfl,s2,tM⟩:=(CG _ _ _ _).mp pv
   have MT:=s2 _ _ Ia
   have j1:i<x.length:=by omega
   have j2:i+1<x.length:=by omega
   have e1:lZ (List.map V.int x) (1+(i:Int)-1)=some (.int x[i]):=by rw[show 1+(i:Int)-1=(i:Int) by omega];exact cB (by rw[dR,cT j1];rfl)
   have e2:lZ (List.map V.int x) (1+(i:Int))=some (.int x[i+1]):=by rw[show 1+(i:Int)=((i+1:Nat):Int) by omega];exact cB (by rw[dR,cT j2];rfl)
   walk_at "rc"
   repeat (first | walk_at "rd" | simp only[MT,e1,e2])
   have lt:decide (x[i]<x[i+1])=Av x i:=by
    unfold Av
    rw[rW,rW,cT j1,cT j2]
    rfl
   rw[lt]
   refine⟨tM,by rw[uo];exact bO (by omega),(CG _ _ _ _).mpr ⟨?_,fo s2 zM,aq⟩⟩
   rw[List.range_succ,dw,dw];rfl
  ·obtain⟨rfl,s2,tM⟩:=(CG _ _ _ _).mp pv
   refine⟨Z2,rfl,_,tM,?_⟩
   have:=q _ (s1.trans s2)
   unfold p8 at this
   rw[show((x.length:Int)-1).toNat=x.length-1 by omega]
   exact this
theorem sU(T:Txt K mg t):dc P w K mg base jL 1 t.eZ t.eU ["_law_thing"] vS:=by
 refine T.e8.rL lI (λvs H Q E h=>?_) (λdh A outer s H vs Q E hr h hc hf=>?_)
 ·obtain⟨i,rfl,_⟩:=h;rfl
 obtain⟨i,rfl,q⟩:=h
 refine⟨_,(by exact ao (aE (eF (az cP (aX hc) T.aF aQ (ae (ak hc 0) (ae (cC (v:=V.ty "int") (aX hc) T.nO wU rfl) ag))) (jc (mZ (az cP (aX hc) T.aF aQ (ae (ak hc 0) (ae (cC (v:=V.ty "bool") (aX hc) T.nP z4 rfl) ag)))))))),?_⟩
 repeat (walk_at "rd")
 refine⟨_,.int i,true,fC _ _,?_⟩
 repeat (walk_at "rd")
 refine⟨_,.int i,false,iK (by decide) rfl,?_⟩
 repeat (walk_at "rd")
 exact q
theorem zy(T:Txt K mg t):dc P w K mg base jL 2 t.gA t.gj ["_law_thing"] Ay:=by
 have e6:=sU (P:=P) (w:=w) (base:=base) T
 refine T.jK.rL nZ (λvs H Q E h=>?_) (λdh A outer s H vs Q E hr h hc hf=>?_)
 ·obtain⟨a,rfl,_⟩:=h;rfl
 obtain⟨a,rfl,x,ha,lx,rise,q⟩:=h
 refine⟨_,(by apply ai;exact(aW (g8 (iq (bK (bZ (az cP (aX hc) T.aF aQ (ae (ak hc 0) (ae (cC (v:=V.ty "tuple") (aX hc) T.gX nv rfl) ag))))) (gU (bK (bZ (az (fq hr.hd) (aX hc) T.kh qo (ae (cI hc ["_law_one"] [] rfl (by decide +kernel) (jb (ak hc 0)) (λ_ hc=>mQ hc (by decide +kernel) 0 (by decide +kernel)) (λ_ _=>bN) (λ_ hc=>(au e6 hr.mono (aX hc) T.g9 T.e8.kp T.hU .nil aS (ae (ak hc 0) ag)))) ag))))))) (by exact ao (aE fV)) aL);exact ao (aE (az (fq hr.hd) (aX hc) T.kh qo (ae (cI hc ["_law_k"] [0] rfl (by decide +kernel) (jM (aX hc) T.gY (ae (ay qQ (az jk (aX hc) T.fN iS (ae (ak hc 0) ag)) ah) ag)) (λ_ hc=>mQ hc (by decide +kernel) 0 (by decide +kernel)) (λ_ _=>bN) (λ_ hc=>(nJ wc (bu Cm (ak hc 1) (ak hc 0) (λ_ _=>rfl)) (bu Cm (ak hc 1) (ay bM (ak hc 0) ah) (λ_ _=>rfl)) (bf _)))) ag)))),?_⟩
 repeat (walk_at "rd")
 refine⟨_,.tup ha,true,fC _ _,?_⟩
 repeat (walk_at "rd")
 refine⟨⟨_,cQ ha⟩,?_⟩
 obtain⟨Pc,ia⟩:∃Pc:Addr->Nat->List V->Hp->Prop,∀Z i ys H',Pc Z i ys H'↔ys=List.map V.bl (List.replicate i true)/\bA H H'/\H' Z=some (.lst ys):=⟨_,λ_ _ _ _=>fc⟩
 refine iQ (zs:=List.map V.int x) Pc (λZ hZ=>(ia _ _ _ _).mpr ⟨rfl,aB hZ _,aq⟩) (λZ hZ i ys H' _ pv=>?_) (λZ hZ i z ys H' hz pv cb=>?_) (λZ hZ ys H' pv=>?_)
 ·obtain⟨_,s,_⟩:=(ia _ _ _ _).mp pv
  exact s _ _ ha
 ·obtain⟨rfl,s1,kP⟩:=(ia _ _ _ _).mp pv
  obtain⟨n,en,rfl⟩:=int_at hz
  have hi:i<x.length:=(fK.mp en).1
  walk_at "rc"
  repeat (walk_at "rd")
  refine⟨n,rfl,kP,by rw[il];exact bO (by omega),(ia _ _ _ _).mpr ⟨?_,fo s1 hZ,aq⟩⟩
  rw[uB,dw];rfl
 ·obtain⟨rfl,s1,kP⟩:=(ia _ _ _ _).mp pv
  refine⟨Z,rfl,_,kP,?_⟩
  rw[all_true]
  repeat (walk_at "rd")
  have Ia:=s1 _ _ ha
  repeat (first | walk_at "rd" | simp only[Ia])
  refine⟨by omega,by omega,?_⟩
  obtain⟨Pd,CG⟩:∃Pd:Addr->Nat->List V->Hp->Prop,∀Z2 i ys jl,Pd Z2 i ys jl↔ys=List.map V.bl (List.replicate i true)/\bA H' jl/\jl Z2=some (.lst ys):=⟨_,λ_ _ _ _=>fc⟩
  refine mH Pd (λZ2 zM=>(CG _ _ _ _).mpr ⟨rfl,aB zM _,aq⟩) (λZ2 zM i ys H2 hi pv cb=>?_) (λZ2 zM ys H2 pv=>?_)
  ·obtain⟨rfl,s2,tM⟩:=(CG _ _ _ _).mp pv
   have MT:=s2 _ _ Ia
   have j1:i<x.length:=by omega
   have j2:i+1<x.length:=by omega
   have e1:lZ (List.map V.int x) (i:Int)=some (.int x[i]):=cB (by rw[dR,cT j1];rfl)
   have e2:lZ (List.map V.int x) ((i:Int)+1)=some (.int x[i+1]):=cB (j:=i+1) (by rw[dR,cT j2];rfl)
   walk_at "rc"
   repeat (first | walk_at "rd" | simp only[MT,e1,e2])
   have lt:x[i]<x[i+1]:=(yw.mp rise) i (i+1) j1 j2 (by omega)
   rw[decide_eq_true lt]
   refine⟨tM,by rw[il];exact bO (by omega),(CG _ _ _ _).mpr ⟨?_,fo s2 zM,aq⟩⟩
   rw[uB,dw];rfl
  ·obtain⟨rfl,s2,tM⟩:=(CG _ _ _ _).mp pv
   refine⟨Z2,rfl,_,tM,?_⟩
   rw[all_true]
   exact q _ (s1.trans s2)
local macro_rules | `(tactic| walk_at "rd") => `(tactic| walk_at "rc")
local macro_rules | `(tactic| walk_at "rl") => `(tactic| first | (refine eS fun R hR => ?_) | walk_at "ry" | (refine Nx.to (by assumption) _ _ ?_))
theorem xG{S:List Int}(l:S.length<=100)(h:∀z∈S,z.natAbs<10 ^ 100):(cD S).length<=10300:=by
 unfold cD
 by_cases e:S=[]
 ·rw[aU e];decide +kernel
 ·rw[aK e]
  have h1:=StrLaws.join_length_le (Str.ofString "+") (S.map aR)
  rw[show(Str.ofString "+").length=1 by decide +kernel,bB,nA]at h1
  have h2:∀l:List Int,(∀z∈l,z.natAbs<10 ^ 100)->(l.map ((λx:Str=>x.length) ∘ aR)).sum<=l.length*101:=λl hl=>by
   induction l with
   | nil=>simp
   | cons a r ih=>
    rw[gE,List.sum_cons,mn]
    have:=sV (hl a (by simp))
    have:=ih λz hz=>hl z (by simp[hz])
    show(aR a).length+_<=_
    omega
  have h3:=h2 S h
  have h4:(Txt.join (Str.ofString "+") (S.map aR)).length<=(S.map ((λx:Str=>x.length) ∘ aR)).sum+S.length*1:=by
   show(Builtin.Str.glued (Str.ofString "+") (S.map aR)).length<=_
   rw[nI]
   exact h1
  omega
theorem zP{ss:List (List Int)}(l:ss.length<=50)(h:∀S∈ss,S.length<=100/\∀z∈S,z.natAbs<10 ^ 100):JoinOk (Str.ofString " ") (ss.map cD)=true:=by
 have e:∀(l:List (List Int)) (acc:Nat),(∀S∈l,S.length<=100/\∀z∈S,z.natAbs<10 ^ 100)->(l.map cD).foldl (λa x=>a+x.length+1) acc<=acc+l.length*10301:=λl=>by
  induction l with
  | nil=>intro acc _;simp
  | cons a r ih=>
   intro acc hl
   rw[gE,nF,mn]
   have h1:=xG (hl a (by simp)).1 (hl a (by simp)).2
   have h2:=ih (acc+(cD a).length+1) λz hz=>hl z (by simp[hz])
   omega
 unfold JoinOk
 rw[List.foldl_toArray,show(Str.ofString " ").length=1 by decide +kernel]
 have h1:=e ss 0 h
 have:¬(ss.map cD).foldl (λa x=>a+x.length+1) 0 > sizeLine:=by rw[ly];omega
 simpa [Builtin.Str.tooLong]using this
def xC:Sp:=λvs H Q _=>∃p,vs=[.ref p]/\∃(bs:List Addr) (ss:List (List Int)),H p=some (.lst (List.map V.ref bs))/\bF H bs ss/\ss.length<=50/\(∀S∈ss,S.length<=100/\∀z∈S,z.natAbs<10 ^ 100)/\∀H',bA H H'->Q (.str (Txt.join (Str.ofString " ") (ss.map cD))) H'
theorem Fg(T:Txt K mg t):dc P w K mg base jL 2 t.gu t.gb ["family"] xC:=by
 have j3:=wk (P:=P) (w:=w) (base:=base) T
 refine T.jJ.rL nX (λvs H Q E h=>?_) (λdh A outer s H vs Q E hr h hc hf=>?_)
 ·obtain⟨p,rfl,_⟩:=h;rfl
 obtain⟨p,rfl,bs,ss,hp,sb,ls,hS,q⟩:=h
 have hu:=jC hr
 have Cw:=hr.fW
 refine⟨_,(by exact ao (aE (gW pH rS rT iI aA (ae (cI hc ["part"] [] rfl (by decide +kernel) (kf (ak hc 0)) (λ_ hc=>mQ hc (by decide +kernel) 0 (by decide +kernel)) (λ_ _=>bN) (λ_ hc=>(au j3 hr.mono (aX hc) T.oA T.j6.kp T.oV .nil aS (ae (ak hc 0) ag)))) ag)))),?_⟩
 walk_at "r"
 refine⟨⟨_,cz hp⟩,?_⟩
 refine oS (zs:=List.map V.ref bs) (λj=>ss[j]?.map λs=>V.str (cD s)) (λ_=>yk) (λ_ _ _ _ _ _ r=>r) (λ_ _ _ _ _ _ _ r=>r) hp (by rw[bB,sb.1];omega) (λDD c H4 j z yes no hj s4 JL JK kM Jz=>?_) (λD H4 vs s4 hD Ig rl=>?_)
 ·obtain⟨b,eb,rfl⟩:=uU hj
  have P1:j<bs.length:=(fK.mp eb).1
  have es:ss[j]?=some (ss[j]'(by have:=sb.1;omega)):=cT _
  have MK:=s4 _ _ (sb.2 j b _ eb es)
  rw[es]at kM
  have hm:=hS _ (gJ es)
  walk_at "rc"
  walk_at "r"
  exact⟨b,rfl,_,MK,hm.1,hm.2,λH5 s5=>kM _ rfl _ _ s5 rfl⟩
 have ev:=kl rl
 rw[bB,sb.1,oK (l:=ss) (g:=λs=>V.str (cD s)) λk hk=>by rw[cT hk];rfl]at ev
 subst ev
 exact⟨D,rfl,ss.map cD,by rw[Ig,nA];rfl,zP ls hS,q _ s4⟩
local macro_rules | `(tactic| walk_at "rd") => `(tactic| walk_at "rc")
local macro_rules | `(tactic| walk_at "rl") => `(tactic| first | (refine eS fun R hR => ?_) | walk_at "ry" | (refine Nx.to (by assumption) _ _ ?_))
def gD:Str:=Str.ofString "+"
theorem Ce{x:Str}(h:isNum x):∃n,intText? x=some n:=by
 have ne:x.cps.toList≠[]:=λz=>by
  have e:x.length=0:=by
   have:=cR List.length z
   rw[nH]at this
   exact this
  have:=h.1
  omega
 exact⟨_,uD (oM h.2.2.1) ne (by have:=h.2.1;omega)⟩
theorem zh:gD=⟨#[43]⟩:=by decide +kernel
def wl(ws:List Str):Nat:=(ws.map λz=>z.length+1).sum
theorem nq:∀{ws:List Str},ws≠[]->(Str.join gD ws).length+1=wl ws
 | [],h=>absurd rfl h
 | [x],_=>rfl
 | x::y::r,_=>by
  have h:=nq (ws:=y::r) (by simp)
  have e:gD.length=1:=by decide +kernel
  show(x++gD++Str.join gD (y::r)).length+1=x.length+1+wl (y::r)
  rw[dQ,dQ,<-h,e]
  omega
theorem yL(z:Str):wl (Txt.split z gD)=z.length+1:=by
 rw[<-nq (nV z gD),StrLaws.join_split]
theorem uJ{x:Str}:∀{ws:List Str},x∈ws->x.length+1<=wl ws
 | y::r,h=>by
  show x.length+1<=y.length+1+wl r
  rcases fH.mp h with e | h
  ·rw[e];omega
  ·have:=uJ h;omega
theorem yE:∀{ws:List Str},ws.length<=wl ws
 | []=>cg _
 | y::r=>by
  show r.length+1<=y.length+1+wl r
  have:=yE (ws:=r);omega
def fG(x:Str)(ns:List Int):Prop:=(x=Str.ofString "-"/\ns=[])\/(x≠Str.ofString "-"/\(∀w∈Txt.split x gD,isNum w)/\(Txt.split x gD).map intText?=ns.map some/\gS ns)
def xD(K:PySem.W.Frag)(cN:Addr):Sp:=λvs H Q E=>∃v,vs=[v]/\((∃x,v=.str x/\x.length<=800/\∀H',bA H H'->(∀ns p,fG x ns->H' p=some (.tup (ns.map V.int))->Q (.ref p) H')/\((∀ns,¬fG x ns)->E (.ref cN) none H'))\/∃ty,gR K H v ty/\PySem.W.kitOne K ty (.type "str")=some false/\E (.ref cN) none H)
theorem BW(T:Txt K mg t):dc P w K mg base jL 1 t.iU t.iL ["_law_told","_law_due"] (λvs H Q _=>∃x y,vs=[.str x,.str y]/\Q (.bl (decide (x=y))) H):=by
 refine T.ja.rL qF (λvs H Q E h=>?_) (λdh A outer s H vs Q E hr h hc hf=>?_)
 ·obtain⟨x,y,rfl,_⟩:=h;rfl
 obtain⟨x,y,rfl,q⟩:=h
 refine⟨_,(by exact ao (aE (eF (az cP (aX hc) T.aF aQ (ae (ak hc 0) (ae (cC (v:=V.ty "str") (aX hc) T.g7 kX rfl) ag))) (jc (nJ eL (ak hc 0) (ak hc 1) (bf _)))))),?_⟩
 walk_at "r"
 refine⟨_,.str x,true,fC _ _,?_⟩
 walk_at "r"
 exact q
theorem oj(T:Txt K mg t):dc P w K mg base (ud P w) 3 t.jY t.jV ["text"] (xD K t.av):=by
 have dr:=jO (P:=P) (w:=w) (base:=base) T
 have z9:=BZ (P:=P) (w:=w) (base:=base) T
 refine T.j7.O5 mC (λvs H Q E h=>?_) (λdh A outer s H vs Q E hr h hc hf L Mi=>?_)
 ·obtain⟨v,rfl,_⟩:=h;rfl
 obtain⟨v,rfl,h⟩:=h
 have hu:=jC hr
 have Cw:=hr.fW
 refine⟨_,(by apply ai;exact(aW (bK (bZ (az cP (aX hc) T.aF aQ (ae (ak hc 0) (ae (cC (v:=V.ty "str") (aX hc) T.g7 kX rfl) ag))))) (by exact ao (cV (EH:=λ_=>E) T.bR T.cv T.cu (aX hc) T.dq rfl L (ae aA ag))) aL);apply ai;exact(aW (aM eL (ak hc 0) (eK (v:=.str (Str.ofString "-")) (aX hc) T.dM ⟨_,rfl⟩) (bf _)) (by exact ao (aE (gV ag))) aL);apply ai;exact(aO hc mC.nd hf 1 (by decide +kernel) (bI mJ (aX hc) T.gX nv (ae (uH xU rfl rfl hc ["word"] [] rfl (by decide +kernel) (kf (gW pH PySem.F.slot_str_split PySem.F.type_str_split zE (ak hc 0) (ae aA ag))) (λ_ _ hc=>mQ hc (by decide +kernel) 0 (by decide +kernel)) (λ_ _ _=>bN) (λ_ _ hc L=>(lB (EH:=λ_=>E) dr hr.mono (aX hc) T.fX T.eI.kp T.gq L (ae (ak hc 0) ag)))) ag)));apply ai;exact(aW (bK (bZ (au z9 hr.mono (aX hc) T.zF T.uc.kp T.zZ .nil aS (ae (ak hc 1) ag)))) (by exact ao (cV (EH:=λ_=>E) T.bR T.cv T.cu (aX hc) T.dq rfl L (ae aA ag))) aL);exact ao (aE (ak hc 1))),?_⟩
 rcases h with ⟨x,rfl,lx,q⟩ | ⟨ty,hty,hk,q⟩
 ·walk_at "r"
  refine⟨_,.str x,true,fC _ _,?_⟩
  walk_at "r"
  by_cases h1:x=Str.ofString "-"
  ·rw[aU h1]
   walk_at "r"
   exact⟨by decide,λp hp=>(q _ (aB hp (.tup []))).1 [] p (.inl ⟨h1,rfl⟩) aq⟩
  ·rw[aK h1]
   walk_at "r"
   refine⟨by decide +kernel,by omega,λp hp=>?_⟩
   obtain⟨ws,Cu⟩:∃ws,Txt.split x gD=ws:=⟨_,rfl⟩
   have wx:=yL x
   have L8:Txt.split x (Str.ofString "+")=ws:=Cu
   rw[L8]
   rw[Cu]at wx
   have SN:=yE (ws:=ws)
   have sT:∀ns,fG x ns↔(∀w∈ws,isNum w)/\ws.map intText?=ns.map some/\gS ns:=λns=>by
    unfold fG
    rw[Cu]
    exact⟨λz=>z.elim (λy=>absurd y.1 h1) λy=>y.2,λz=>.inr ⟨h1,z⟩⟩
   have sp:=aB hp (.lst (List.map V.str ws))
   have tF:=aq (H:=H) (a:=p) (o:=.lst (List.map V.str ws))
   generalize upd H p (.lst (List.map V.str ws))=H1 at sp tF ⊢
   refine⟨⟨_,cz tF⟩,?_⟩
   obtain⟨Pc,ia⟩:∃Pc:Addr->Nat->List V->Hp->Prop,∀Z i ys H',Pc Z i ys H'↔∃ms:List Int,ys=List.map V.int ms/\(∀w∈ws.take i,isNum w)/\(ws.take i).map intText?=ms.map some/\bA H1 H'/\H' Z=some (.lst ys):=⟨_,λ_ _ _ _=>fc⟩
   refine kS (zs:=List.map V.str ws) Pc (λZ hZ=>(ia _ _ _ _).mpr ⟨[],rfl,λw hw=>absurd hw (by simp),rfl,aB hZ _,aq⟩) (λZ hZ i ys H' _ pv=>?_) (λZ hZ i v ys H' ev pv cb=>?_) (λZ hZ ys H' pv=>?_)
   ·obtain⟨ms,rfl,hn,hm,s1,Dx⟩:=(ia _ _ _ _).mp pv
    exact s1 _ _ tF
   ·obtain⟨ms,rfl,hn,hm,s1,Dx⟩:=(ia _ _ _ _).mp pv
    obtain⟨z,ez,rfl⟩:∃z,ws[i]?=some z/\v=.str z:=by
     rw[dR]at ev
     cases e:ws[i]? with
     | none=>rw[e]at ev;cases ev
     | some z=>rw[e]at ev;cases ev;exact⟨z,rfl,rfl⟩
    have hi:i<ws.length:=(fK.mp ez).1
    have mz:=uJ (gJ ez)
    have lm:ms.length<=i:=by
     have:=cR List.length hm
     rw[bB,bB,dP]at this
     omega
    walk_at "rc"
    walk_at "r"
    refine .inl ⟨z,rfl,nB (bO (by omega)),λH2 s2=>⟨λiz n en=>?_,λiz=>?_⟩⟩
    ·refine⟨s2 _ _ Dx,bO (by omega),(ia _ _ _ _).mpr ⟨ms++[n],by simp,λw hw=>?_,?_,fo (s1.trans s2) hZ,aq⟩⟩
     ·rw[vx,ez]at hw
      rcases dm.mp hw with hw | hw
      ·exact hn w hw
      ·have:w=z:=by simpa using hw
       rw[this];exact iz
     ·rw[vx,ez,dw,dw,hm]
      show _++[intText? z]=_
      rw[en]
      rfl
    ·refine(q _ ((sp.trans s1).trans s2)).2 λns h=>?_
     exact iz (((sT ns).mp h).1 z (gJ ez))
   ·obtain⟨ms,rfl,hn,hm,s1,Dx⟩:=(ia _ _ _ _).mp pv
    rw[bB,vv]at hn hm
    have lm:ms.length<=801:=by
     have:=cR List.length hm
     rw[bB,bB]at this
     omega
    refine⟨Z,rfl,_,Dx,λl hl=>?_⟩
    have sl:=aB hl (.tup (List.map V.int ms))
    have Hy:=aq (H:=H') (a:=l) (o:=.tup (List.map V.int ms))
    generalize upd H' l (.tup (List.map V.int ms))=H2 at sl Hy ⊢
    walk_at "r"
    refine⟨l,rfl,ms,Hy,by omega,λH3 s3=>?_⟩
    have sa:=((sp.trans s1).trans sl).trans s3
    by_cases Jx:p8 ms=true
    ·rw[Jx]
     refine⟨true,rfl,?_⟩
     rw[aK (by decide)]
     walk_at "r"
     exact(q _ sa).1 ms l ((sT ms).mpr ⟨hn,hm,p7.mp Jx⟩) (s3 _ _ Hy)
    ·rw[show p8 ms=false by simpa using Jx]
     refine⟨false,rfl,?_⟩
     rw[aU (by decide)]
     refine⟨by decide,(q _ sa).2 λns h=>Jx (p7.mpr ?_)⟩
     have h:=(sT ns).mp h
     have:ms=ns:=by
      have e:=hm.symm.trans h.2.1
      exact(vA (λ_ _ z=>dU z)).mp e
     rw[this]
     exact h.2.2
 ·walk_at "r"
  refine⟨_,hty,false,hk,?_⟩
  walk_at "r"
  exact⟨by decide,q⟩
local macro_rules | `(tactic| walk_at "rd") => `(tactic| walk_at "rc")
local macro_rules | `(tactic| walk_at "rl") => `(tactic| first | (refine eS fun R hR => ?_) | walk_at "ry" | (refine Nx.to (by assumption) _ _ ?_))
theorem vd{m:Nat}(h:m<10 ^ 60):isNum (aR (m:Int))/\intText? (aR (m:Int))=some (m:Int):=by
 have ec:(aR (m:Int)).cps.toList=(Nat.toDigits 10 m).map Char.toNat:=PySem.W.KIN.signs_num m
 have l1:(aR (m:Int)).length=(Nat.toDigits 10 m).length:=by
  have:=cR List.length ec
  rw[bB,nH]at this
  exact this
 have ge:=toDigits_len_ge 10 m
 have le:=PySem.toDigits_len_pow (b:=10) (k:=60) (n:=m) (by decide) (by decide) h
 have hd:PySem.NumText.AllDigits (aR (m:Int)).cps.toList:=by
  intro c hc
  rw[ec]at hc
  obtain⟨ch,hX,e⟩:=pA.mp hc
  rw[<-e]
  exact PyProof.Rows.digit_range (Nat.isDigit_of_mem_toDigits (by decide) (by decide) hX)
 have ne:(aR (m:Int)).cps.toList≠[]:=λz=>by
  have:=cR List.length z
  rw[nH]at this
  have:(aR (m:Int)).length=0:=this
  omega
 have rd:intText? (aR (m:Int))=some (m:Int):=by
  have e:=uD hd ne (by omega)
  rw[ec,PySem.W.KIN.val_back]at e
  exact e
 refine⟨⟨by omega,by omega,?_,?_⟩,rd⟩
 ·unfold ye
  rw[ka]
  intro c hc
  have:=hd c hc
  simp[this.1,this.2]
 ·by_cases e0:(aR (m:Int)).cps[0]?=some 48
  ·refine .inr ?_
   rw[<-vF]at e0
   obtain⟨r,er⟩:∃r,(aR (m:Int)).cps.toList=48::r:=by
    cases e:(aR (m:Int)).cps.toList with
    | nil=>exact absurd e ne
    | cons c r=>rw[e]at e0;cases e0;exact⟨r,rfl⟩
   have e:=PySem.NumText.toDigits_all _ hd
   have l2:(48::r).length=(Nat.toDigits 10 m).length:=by rw[<-er,nH];exact l1
   rw[er]at e
   rw[show PySem.NumText.digitsVal (48::r)=m by rw[<-er,ec,PySem.W.KIN.val_back],List.dropWhile_cons,aU (by decide)]at e
   have lr:(r.dropWhile (· == 48)).length<=r.length:=(List.dropWhile_suffix _).length_le
   have l3:=cR List.length e
   have:r=[]:=by
    cases e4:r.dropWhile (· == 48) with
    | nil=>
     rw[e4]at l3
     have l3:(Nat.toDigits 10 m).length=1:=l3
     rw[mn]at l2
     exact yz (by omega)
    | cons c r'=>
     rw[e4]at l3 lr
     have l3:(Nat.toDigits 10 m).length=((c::r').map Char.ofNat).length:=l3
     rw[bB]at l3
     rw[mn]at l2
     omega
   rw[this]at er
   exact Str.ext' (lA (er.trans (by decide +kernel)))
  ·exact .inl e0
theorem jP{z:Int}(h0:0<=z)(h1:z<10 ^ 60):isNum (aR z)/\intText? (aR z)=some z:=by
 obtain⟨m,rfl⟩:=Int.eq_ofNat_of_zero_le h0
 exact vd (by omega)
theorem om{x:Str}(h:isNum x){c:Nat}(hc:c∈x.cps.toList):48<=c/\c<=57:=oM h.2.2.1 c hc
theorem dJ{x:Str}(h:isNum x):43∉x.cps.toList:=λhc=>by have:=om h hc;omega
theorem iD{ws:List Str}(h0:ws≠[])(h:∀w∈ws,43∉w.cps.toList):Txt.split (Txt.join gD ws) gD=ws:=by
 rw[zh]
 exact uS h0 h
theorem tE{S:List Int}(h:∀z∈S,0<=z/\z<10 ^ 60):(S.map aR).map intText?=S.map some:=by
 rw[nA]
 exact List.map_congr_left λz hz=>(jP (h z hz).1 (h z hz).2).2
theorem nk{S:List Int}(h:∀z∈S,0<=z/\z<10 ^ 60):∀w∈S.map aR,isNum w:=λw hw=>by
 obtain⟨z,hz,rfl⟩:=pA.mp hw
 exact(jP (h z hz).1 (h z hz).2).1
theorem join_one(x:Str):Txt.join gD [x]=x:=by
 show Builtin.Str.glued gD [x]=x
 rw[nI]
 rfl
theorem dash:(Str.ofString "-").cps.toList=[45]:=by decide +kernel
theorem rA:¬isNum (Str.ofString "-"):=λh=>by
 have:=om h (c:=45) (by rw[dash];simp)
 omega
theorem Ba{x:Str}{ns ms:List Int}(a:fG x ns)(b:fG x ms):ns=ms:=by
 rcases a with ⟨a,rfl⟩ | ⟨a,_,ha,_⟩
 ·rcases b with ⟨_,rfl⟩ | ⟨b,_⟩
  ·rfl
  ·exact absurd a b
 ·rcases b with ⟨b,_⟩ | ⟨_,_,hb,_⟩
  ·exact absurd b a
  ·exact(vA (λ_ _ z=>dU z)).mp (ha.symm.trans hb)
theorem zC{ws:List Str}(h0:ws≠[])(h:∀w∈ws,43∉w.cps.toList)(hm:ws≠[Str.ofString "-"])(bad:(∀w∈ws,isNum w)->∀ns,ws.map intText?=ns.map some->¬gS ns)(ns:List Int):¬fG (Txt.join gD ws) ns:=by
 have e:=iD h0 h
 rintro(⟨a,_⟩ | ⟨_,a,b,c⟩)
 ·rw[a]at e
  refine hm (e.symm.trans ?_)
  have:=iD (ws:=[Str.ofString "-"]) (by simp) (λw hw=>by rw[dE.mp hw,dash];simp)
  rw[join_one]at this
  exact this
 ·rw[e]at a b
  exact bad a ns b c
theorem bT{ws:List Str}{w:Str}(h:∀w∈ws,43∉w.cps.toList)(hm:ws≠[Str.ofString "-"])(hw:w∈ws)(hn:¬isNum w)(ns:List Int):¬fG (Txt.join gD ws) ns:=
 zC (λz=>by rw[z]at hw;cases hw) h hm (λa=>absurd (a w hw) hn) ns
theorem iH{S:List Int}(h:∀z∈S,0<=z/\z<10 ^ 60)(h0:S≠[])(nr:¬gS S)(ns:List Int):¬fG (Txt.join gD (S.map aR)) ns:=by
 have hn:=nk h
 refine zC (by simpa using h0) (λw hw=>dJ (hn w hw)) (λz=>?_) (λ_ ms hm hr=>nr ?_) ns
 ·exact rA (hn _ (by rw[z];simp))
 ·rw[tE h]at hm
  rw[(vA (λ_ _ z=>dU z)).mp hm]
  exact hr
theorem yU{S:List Int}(h:∀z∈S,0<=z/\z<10 ^ 60)(r:gS S):fG (cD S) S:=by
 unfold cD
 by_cases e:S=[]
 ·rw[aU e]
  exact .inl ⟨rfl,e⟩
 ·rw[aK e]
  have hn:=nk h
  have es:=iD (ws:=S.map aR) (by simpa using e) (λw hw=>dJ (hn w hw))
  have DK:Txt.split (Txt.join (Str.ofString "+") (S.map aR)) gD=S.map aR:=es
  refine .inr ⟨λz=>?_,?_⟩
  ·rw[z]at DK
   have e2:=iD (ws:=[Str.ofString "-"]) (by simp) (λw hw=>by rw[dE.mp hw,dash];simp)
   rw[join_one,DK]at e2
   exact rA (hn _ (by rw[e2];simp))
  ·rw[DK]
   exact⟨hn,tE h,r⟩
theorem oF{c:Nat}:∀{ls:List (List Nat)} {k:Nat},k∈hJ c ls->k=c\/∃l∈ls,k∈l
 | [],_,h=>by cases h
 | [l],k,h=>.inr ⟨l,by simp,h⟩
 | l::m::r,k,h=>by
  have h:k∈l++c::hJ c (m::r):=h
  rcases dm.mp h with h | h
  ·exact .inr ⟨l,by simp,h⟩
  ·rcases fH.mp h with h | h
   ·exact .inl h
   ·rcases oF h with h | ⟨l',hl,h⟩
    ·exact .inl h
    ·exact .inr ⟨l',by simp[hl],h⟩
theorem mE{x:Str}{c:Nat}(hc:c∈x.cps.toList)(JN:c≠43)(hd:¬(48<=c/\c<=57))(lx:x.length≠1)(ns:List Int):¬fG x ns:=by
 rintro(⟨a,_⟩ | ⟨_,a,_⟩)
 ·rw[a]at lx
  exact lx (by decide +kernel)
 ·rw[<-StrLaws.join_split x gD]at hc
  rw[zh]at hc a
  rw[kL]at hc
  rcases oF hc with h | ⟨l,hl,h⟩
  ·exact JN h
  ·obtain⟨w,hw,rfl⟩:=pA.mp hl
   exact hd (om (a w hw) h)
theorem zD{x:Str}(h:∀ns,¬fG x ns):¬isNum x:=λhn=>by
 obtain⟨n,en⟩:=Ce hn
 have e:=iD (ws:=[x]) (by simp) (λw hw=>by rw[dE.mp hw];exact dJ hn)
 rw[join_one]at e
 by_cases hx:x=Str.ofString "-"
 ·exact h [] (.inl ⟨hx,rfl⟩)
 ·refine h [n] (.inr ⟨hx,?_⟩)
  rw[e]
  exact⟨λw hw=>by rw[dE.mp hw];exact hn,by simp[en],by simp[gS]⟩
theorem wu{x:Str}(h:60<x.length):¬isNum x:=λz=>by have:=z.2.1;omega
theorem oN{x:Str}(h:x.length=0):¬isNum x:=λz=>by have:=z.1;omega
theorem t5{x:Str}(h:1<=x.length):¬isNum (Str.ofString "0" ++ x):=λz=>by
 have e0:(Str.ofString "0" ++ x).cps.toList=48::x.cps.toList:=by
  rw[cS]
  have:(Str.ofString "0").cps.toList=[48]:=by decide +kernel
  rw[this];rfl
 rcases z.2.2.2 with y | y
 ·apply y
  rw[<-vF,e0]
  rfl
 ·have:=cR Str.length y
  rw[dQ]at this
  have e1:(Str.ofString "0").length=1:=by decide +kernel
  omega
local macro_rules | `(tactic| walk_at "rd") => `(tactic| walk_at "rc")
local macro_rules | `(tactic| walk_at "rl") => `(tactic| first | (refine eS fun R hR => ?_) | walk_at "ry" | (refine Nx.to (by assumption) _ _ ?_))
structure Sx(S:List Int):Prop where
 len:S.length<=8
 rise:gS S
 mem:∀z∈S,0<=z/\z+1<10 ^ 60
def Az:Sp:=λvs H Q _=>∃h,vs=[.ref h]/\bJ H h/\∀p S H',Dr h H H'->H p=none->H' p=some (.tup (List.map V.int S))->Sx S->Q (.ref p) H'
theorem zA(T:Txt K mg t):dc P w K mg base jL 4 t.eo t.d8 ["_law_hand_here"] Az:=by
 have aC:=nj (P:=P) (w:=w) (base:=base) T
 refine T.gT.rL bC (λvs H Q E h=>?_) (λdh A outer s H vs Q E hr h hc hf=>?_)
 ·obtain⟨h,rfl,_⟩:=h;rfl
 obtain⟨h,rfl,hd,q⟩:=h
 refine⟨_,(by apply ai;exact(aO hc bC.nd hf 1 (by decide +kernel) (bu fD (eD (ae ah (ae ah (ae (ay lN ah ah) (ae (ay lN ah ah) ag))))) (au aC hr.mono (aX hc) T.aI T.aH.kp T.aJ .nil aS (ae (ak hc 0) (ae ah ag))) (λ_ _=>rfl)));apply ai;exact(aO hc bC.nd hf 2 (by decide +kernel) (eD ag));apply ai;exact(aO hc bC.nd hf 3 (by decide +kernel) (ay qQ (au aC hr.mono (aX hc) T.aI T.aH.kp T.aJ .nil aS (ae (ak hc 0) (ae ah ag))) ah));apply ai;exact(mY rP rfl (jM (aX hc) T.gY (ae (au aC hr.mono (aX hc) T.aI T.aH.kp T.aJ .nil aS (ae (ak hc 0) (ae ah ag))) ag)) (Ag hc bC.nd hf 4 (by decide +kernel)) (by apply ai;exact(yA hc bC.nd hf 3 (by decide +kernel) (ay bM ah (au aC hr.mono (aX hc) T.aI T.aH.kp T.aJ .nil aS (ae (ak hc 0) (ae (ay sQ (ak hc 1) ah) ag)))) zJ);exact ao (eJ (gW yv PySem.F.slot_list_append PySem.F.type_list_append ji (ak hc 2) (ae (ak hc 3) ag)))));exact ao (aE (bI mJ (aX hc) T.gX nv (ae (ak hc 2) ag)))),?_⟩
 walk_at "r"
 refine⟨⟨by decide,by decide,by decide⟩,by decide,λp hp=>?_⟩
 have Mj:p≠h:=hd.ne hp
 refine bx hd (Dr.refl.new hp) (by decide) (by decide) λi H1 i0 i1 d1 k1=>?_
 have tF:H1 p=some (.lst [V.int 9,V.int 40,V.int 1000000000000000000,V.int 1000000000000000000000000000000000000000000000000000000000000]):=by rw[k1 p Mj,aq]
 obtain⟨top,etop,t9,VJ⟩:∃top:Int,lZ [V.int 9,V.int 40,V.int 1000000000000000000,V.int 1000000000000000000000000000000000000000000000000000000000000] i=some (.int top)/\9<=top/\top<=10 ^ 60:=by
  have hi:i=0\/i=1\/i=2\/i=3:=by omega
  rcases hi with rfl | rfl | rfl | rfl
  ·exact⟨9,rfl,by decide,by decide⟩
  ·exact⟨40,rfl,by decide,by decide⟩
  ·exact⟨_,rfl,by decide,by decide⟩
  ·exact⟨_,rfl,by decide,by decide⟩
 refine⟨_,rfl,_,tF,_,etop,?_⟩
 obtain⟨g,eg,g1,g2⟩:∃g:Int,top / 9=g/\1<=g/\g*9<=10 ^ 60:=⟨_,rfl,by omega,by omega⟩
 have Nb:g<2 ^ 300:=Int.lt_of_le_of_lt (show g<=10 ^ 60 by omega) (by decide +kernel)
 walk_at "r"
 refine⟨by decide,λZ hZ=>?_⟩
 have Qd:H Z=none:=d1.free hd hZ
 have GF:Z≠h:=hd.ne Qd
 have dZ:=d1.new (o:=.lst []) hZ
 have kP:=aq (H:=H1) (a:=Z) (o:=.lst [])
 generalize upd H1 Z (.lst [])=H2 at dZ kP ⊢
 walk_at "r"
 refine bx hd dZ (by decide) (by decide) λb H3 b0 b1 d3 k3=>?_
 have tM:H3 Z=some (.lst []):=by rw[k3 Z GF];exact kP
 walk_at "r"
 refine bx hd d3 (by decide) (by decide) λn H4 n0 n1 d4 k4=>?_
 have T9:H4 Z=some (.lst []):=by rw[k4 Z GF];exact tM
 walk_at "r"
 refine⟨by omega,by omega,?_⟩
 obtain⟨Pv,Ae⟩:∃Pv:Nat->St->Hp->Prop,∀i σ' H',Pv i σ' H'↔∃(vm:Int) (ms:List Int) (x:Option V),σ'=[some (.ref h),some (.int top),some (.ref Z),some (.int vm),x]/\Dr h H H'/\H' Z=some (.lst (List.map V.int ms))/\ms.length=i/\-1<=vm/\vm<=i*g/\gS ms/\∀z∈ms,0<=z/\z<=vm:=⟨_,λ_ _ _=>fc⟩
 refine oI Pv ((Ae _ _ _).mpr ⟨b-1,[],none,rfl,d4,T9,rfl,by omega,by omega,.nil,by simp⟩) (λi σ' H5 hi pv=>?_) (λσ' H5 pv=>?_)
 ·obtain⟨vm,ms,x,rfl,d5,M0,lm,l1,l2,rm,mm⟩:=(Ae _ _ _).mp pv
  walk_at "r"
  refine⟨⟨by decide,by decide +kernel⟩,?_⟩
  rw[eg]
  refine bx hd d5 g1 Nb λc H6 c0 c1 d6 k6=>?_
  have Qc:H6 Z=some (.lst (List.map V.int ms)):=by rw[k6 Z GF];exact M0
  refine⟨_,rfl,?_⟩
  repeat (first | walk_at "rl" | simp only[Qc])
  refine⟨.inl ⟨rfl,_,cz Qc⟩,bO (by omega),(Ae _ _ _).mpr ⟨vm+(1+c),ms++[vm+(1+c)],_,rfl,d6.put Qd,by rw[aq,dw];rfl,by simp[lm],by omega,?_,?_,λz hz=>?_⟩⟩
  ·rw[show((i+1:Nat):Int)*g=i*g+g by push_cast;rw[Int.add_mul,Int.one_mul]]
   omega
  ·refine vE.mpr ⟨rm,by simp,λa ha z hz=>?_⟩
   rw[dE.mp hz]
   have:=(mm a ha).2
   omega
  ·rcases dm.mp hz with hz | hz
   ·have:=mm z hz;omega
   ·rw[dE.mp hz];omega
 ·obtain⟨vm,ms,x,rfl,d5,M0,lm,l1,l2,rm,mm⟩:=(Ae _ _ _).mp pv
  repeat (first | walk_at "rl" | simp only[M0])
  intro l hl
  have l3:(n.toNat:Int)*g<=8*g:=Int.mul_le_mul_of_nonneg_right (by omega) (by omega)
  exact q l ms _ (d5.new hl) (d5.free hd hl) aq ⟨by omega,rm,λz hz=>by have:=mm z hz;omega⟩
def Aw(K:PySem.W.Frag):Sp:=λvs H Q _=>∃v,vs=[v]/\((∃z:Str,v=.str z/\z.length<=800/\∀ns,¬fG z ns)\/∃ty,gR K H v ty/\PySem.W.kitOne K ty (.type "str")=some false)/\∀H',bA H H'->Q (.bl true) H'
def Ax(K:PySem.W.Frag):Sp:=λvs H Q _=>∃v,vs=[v]/\((∃z:Str,v=.str z/\z.length<=800/\¬isNum z)\/∃ty,gR K H v ty/\PySem.W.kitOne K ty (.type "str")=some false)/\∀H',bA H H'->Q (.bl true) H'
theorem zu(T:Txt K mg t):dc P w K mg base jL 4 t.gy t.gi ["_law_thing"] (Aw K):=by
 have j4:=oj (P:=P) (w:=w) (base:=base) T
 refine T.gC.rL iE (λvs H Q E h=>?_) (λdh A outer s H vs Q E hr h hc hf=>?_)
 ·obtain⟨v,rfl,_⟩:=h;rfl
 obtain⟨v,rfl,hv,q⟩:=h
 have hu:=jC hr
 have Cw:=hr.fW
 refine⟨_,(by apply ai;exact(rX hc iE.nd 1 (by decide +kernel) rfl rfl T.kj.is (aX hc) T.kJ (λEH xe pn L Mi=>(λhc hf=>(by exact ao (eJ (lB (EH:=EH) j4 hr.mono (aX hc) T.oB T.j7.kp T.oW L (ae (ak hc 0) ag))))) (P' (xe:=xe) (pn:=pn) hc) (P6 (xe:=xe) (pn:=pn) hf)) (λe=>(λhc hf=>(by exact ao (aE (eF (az (fS (K:=K) rfl) (aX hc) T.aF aQ (ae (ak hc 1) (ae (eK (v:=V.ref t.av) (aX hc) T.dq rfl) ag))) (eF (az (mK (K:=K) rfl) (aX hc) T.aF aQ (ae (ak hc 1) (ae (cC (v:=V.ty "ValueError") (aX hc) T.dI kZ rfl) ag))) (jc (mZ (az (fS (K:=K) rfl) (aX hc) T.aF aQ (ae (ak hc 1) (ae (eK (v:=V.ref t.bE) (aX hc) T.wt rfl) ag)))))))))) (Qa (e:=e) hc) (P7 (e:=e) hf)));exact ao (aE fV)),?_⟩
 walk_at "r"
 refine⟨λσ' C dx H'=>σ'=[some v,none]/\C=.ref t.av/\dx=none/\bA H H',?_,?_⟩
 ·walk_at "r"
  refine⟨v,rfl,?_⟩
  rcases hv with ⟨z,rfl,lz,no⟩ | ⟨ty,h1,h2⟩
  ·exact .inl ⟨z,rfl,lz,λH' s'=>⟨λns p hs=>absurd hs (no ns),λ_=>⟨rfl,rfl,s'⟩⟩⟩
  ·exact .inr ⟨ty,h1,h2,rfl,rfl,bA.refl H⟩
 ·rintro σ' C dx H1 ⟨rfl,eC,rfl,s1⟩
  cases eC
  refine⟨T.bz,λe he=>?_⟩
  walk_at "r"
  have s2:=s1.trans (aB he (.ext (rJ e t.av none)))
  have uh:upd H1 e (.ext (rJ e t.av none)) e=some (.ext (rJ e t.av none)):=aq
  generalize upd H1 e (.ext (rJ e t.av none))=H2 at s2 uh ⊢
  have xd:∀{H':Hp},qq H' none:=λd' e'=>nomatch e'
  refine⟨t.av,none,rfl,xd,T.bR,true,T.cq,?_⟩
  repeat (first | walk_at "rl" | simp only[uh])
  refine⟨t.av,none,rfl,xd,T.bR,true,T.gN,?_⟩
  repeat (first | walk_at "rl" | simp only[uh])
  refine⟨t.av,none,rfl,xd,T.bR,false,T.cE,?_⟩
  exact q _ s2
theorem zx(T:Txt K mg t):dc P w K mg base jL 3 t.ej t.d7 ["_law_thing"] (Ax K):=by
 have dr:=jO (P:=P) (w:=w) (base:=base) T
 refine T.cx.rL fO (λvs H Q E h=>?_) (λdh A outer s H vs Q E hr h hc hf=>?_)
 ·obtain⟨v,rfl,_⟩:=h;rfl
 obtain⟨v,rfl,hv,q⟩:=h
 have hu:=jC hr
 have Cw:=hr.fW
 refine⟨_,(by apply ai;exact(rX hc fO.nd 1 (by decide +kernel) rfl rfl T.kj.is (aX hc) T.kJ (λEH xe pn L Mi=>(λhc hf=>(by exact ao (eJ (lB (EH:=EH) dr hr.mono (aX hc) T.fX T.eI.kp T.gq L (ae (ak hc 0) ag))))) (P' (xe:=xe) (pn:=pn) hc) (P6 (xe:=xe) (pn:=pn) hf)) (λe=>(λhc hf=>(by exact ao (aE (eF (az (fS (K:=K) rfl) (aX hc) T.aF aQ (ae (ak hc 1) (ae (eK (v:=V.ref t.av) (aX hc) T.dq rfl) ag))) (eF (az (mK (K:=K) rfl) (aX hc) T.aF aQ (ae (ak hc 1) (ae (cC (v:=V.ty "ValueError") (aX hc) T.dI kZ rfl) ag))) (jc (mZ (az (fS (K:=K) rfl) (aX hc) T.aF aQ (ae (ak hc 1) (ae (eK (v:=V.ref t.bE) (aX hc) T.wt rfl) ag)))))))))) (Qa (e:=e) hc) (P7 (e:=e) hf)));exact ao (aE fV)),?_⟩
 walk_at "r"
 refine⟨λσ' C dx H'=>σ'=[some v,none]/\C=.ref t.av/\dx=none/\bA H H',?_,?_⟩
 ·walk_at "r"
  rcases hv with ⟨z,rfl,lz,no⟩ | ⟨ty,h1,h2⟩
  ·exact .inl ⟨z,rfl,nB (bO (by omega)),λH' s'=>⟨λi=>absurd i no,λ_=>⟨rfl,rfl,s'⟩⟩⟩
  ·exact .inr ⟨v,ty,rfl,h1,h2,rfl,rfl,bA.refl H⟩
 ·rintro σ' C dx H1 ⟨rfl,eC,rfl,s1⟩
  cases eC
  refine⟨T.bz,λe he=>?_⟩
  walk_at "r"
  have s2:=s1.trans (aB he (.ext (rJ e t.av none)))
  have uh:upd H1 e (.ext (rJ e t.av none)) e=some (.ext (rJ e t.av none)):=aq
  generalize upd H1 e (.ext (rJ e t.av none))=H2 at s2 uh ⊢
  have xd:∀{H':Hp},qq H' none:=λd' e'=>nomatch e'
  refine⟨t.av,none,rfl,xd,T.bR,true,T.cq,?_⟩
  repeat (first | walk_at "rl" | simp only[uh])
  refine⟨t.av,none,rfl,xd,T.bR,true,T.gN,?_⟩
  repeat (first | walk_at "rl" | simp only[uh])
  refine⟨t.av,none,rfl,xd,T.bR,false,T.cE,?_⟩
  exact q _ s2
local macro_rules | `(tactic| walk_at "rd") => `(tactic| walk_at "rc")
local macro_rules | `(tactic| walk_at "rl") => `(tactic| first | (refine eS fun R hR => ?_) | walk_at "ry" | (refine Nx.to (by assumption) _ _ ?_))
theorem J4(a b:List Str):wl (a++b)=wl a+wl b:=by unfold wl;rw[dw,List.sum_append]
theorem pR{n:Nat}:∀{ws:List Str},(∀w∈ws,w.length<=n)->wl ws<=ws.length*(n+1)
 | [],_=>jn _
 | y::r,h=>by
  have h1:=h y (by simp)
  have h2:=pR (ws:=r) λw hw=>h w (by simp[hw])
  show y.length+1+wl r<=(r.length+1)*(n+1)
  rw[Nat.add_mul,Nat.one_mul]
  omega
theorem join_le(ws:List Str):(Txt.join gD ws).length<=wl ws:=by
 show(Builtin.Str.glued gD ws).length<=_
 rw[nI]
 cases ws with
 | nil=>exact cg _
 | cons z r=>have:=nq (ws:=z::r) (by simp);omega
theorem xV{ws:List Str}(h:wl ws<=1000000):JoinOk gD ws=true:=by
 have e:ws.toArray.foldl (λa x=>a+x.length+gD.length) 0=wl ws:=by
  rw[StrLaws.joinTotal,show gD.length=1 by decide +kernel,Nat.mul_one]
  unfold wl
  clear h
  induction ws with
  | nil=>rfl
  | cons z r ih=>simp only[gE,List.sum_cons,mn];omega
 unfold JoinOk
 rw[e]
 have:¬(wl ws > sizeLine):=by rw[ly];omega
 unfold Builtin.Str.tooLong
 rw[decide_eq_false this];rfl
theorem g5(ws:List Str){k:Int}(h:0<=k):kR (List.map V.str ws) none (some k)=List.map V.str (ws.take k.toNat):=by rw[CT _ h,pB]
theorem fE(ws:List Str){k:Int}(h:0<=k):kR (List.map V.str ws) (some k) none=List.map V.str (ws.drop k.toNat):=by
 rw[oQ]
 have e:HT.eG ws.length 0 (some k)=min k.toNat ws.length:=by
  show(if k<0 then _ else min k.toNat ws.length)=_
  rw[aK (by omega)]
 have e0:HT.eG ws.length ws.length none=ws.length:=rfl
 rw[e,e0]
 congr 1
 by_cases hv:k.toNat<=ws.length
 ·rw[qA hv,rV (by rw[gH];omega)]
 ·rw[uj (by omega),Nat.sub_self,List.take_zero,List.drop_eq_nil_of_le (by omega)]
theorem d0{c:Prop} [Decidable c] {X Y:Prop} (h1:c->X) (h2:¬c->Y):if c then X else Y:=by
 split
 ·exact h1 ‹_›
 ·exact h2 ‹_›
theorem Dr.same{h:Addr}{H H1 H2:Hp}(d:Dr h H H1)(s:bA H1 H2):Dr h H H2:=⟨λb o hb e=>s _ _ (d.keep b o hb e),λl x=>by
 obtain⟨ns,o,e1,e2,e3⟩:=d.hand l x
 exact⟨ns,o,s _ _ e1,e2,s _ _ e3⟩⟩
theorem lD{us:List Str}(h:2<=us.length):us≠[Str.ofString "-"]:=λz=>by rw[z]at h;exact absurd h (by decide)
theorem yF{S:List Int}{k:Nat}(h:k<S.length):¬gS (S.take (k+1)++S.drop k):=λr=>by
 have:=(vE.mp r).2.2 S[k] (by rw[List.mem_take_iff_getElem];exact⟨k,by omega,rfl⟩) S[k] (by rw[List.drop_eq_getElem_cons h];exact fw)
 omega
theorem Aq{S:List Int}{k:Nat}(r:gS S)(h:k+1<S.length):¬gS (S.take k++[S[k+1],S[k]]++S.drop (k+2)):=λr'=>by
 have h1:=(vE.mp (vE.mp r').1).2.1
 have h2:S[k+1]<S[k]:=by simpa using h1
 have h3:=(yw.mp r) k (k+1) (by omega) h (by omega)
 omega
structure Sy(S:List Int):Prop where
 len:S.length<=8
 rise:gS S
 mem:∀z∈S,0<=z/\z<10 ^ 60
def yR:Sp:=λvs H Q _=>∃h p,vs=[.ref h,.ref p]/\∃S:List Int,bJ H h/\H p=some (.tup (List.map V.int S))/\Sy S/\2<=S.length/\∀u H',Dr h H H'->u.length<=800->(∀ns,¬fG u ns)->Q (.str u) H'
theorem xQ(T:Txt K mg t):dc P w K mg base jL 4 t.cY t.cX ["_law_hand_here","_law_part"] yR:=by
 have aC:=nj (P:=P) (w:=w) (base:=base) T
 refine T.eO.rL aT (λvs H Q E h=>?_) (λdh A outer s H vs Q E hr h hc hf=>?_)
 ·obtain⟨h,p,rfl,_⟩:=h;rfl
 obtain⟨h,p,rfl,S,hd,hp,sy,l2,q⟩:=h
 have hu:=jC hr
 have Cw:=hr.fW
 have lS:=sy.len
 refine⟨_,(by apply ai;exact(xf hc aT.nd 2 (by decide +kernel) ["_law_one"] [] rfl (by decide +kernel) (jb (ak hc 1)) (λ_ hc=>mQ hc (by decide +kernel) 0 (by decide +kernel)) (λ_ _=>bN) (λ_ hc=>(bI gQ (aX hc) T.g7 kX (ae (ak hc 0) ag))) (by rfl));apply ai;exact(aO hc aT.nd hf 3 (by decide +kernel) (au aC hr.mono (aX hc) T.aI T.aH.kp T.aJ .nil aS (ae (ak hc 0) (ae (ay qQ (az jk (aX hc) T.fN iS (ae (ak hc 1) ag)) ah) ag))));apply ai;exact(aO hc aT.nd hf 4 (by decide +kernel) (au aC hr.mono (aX hc) T.aI T.aH.kp T.aJ .nil aS (ae (ak hc 0) (ae ah ag))));apply ip;exact(aW (aM eL (ak hc 4) ah (bf _)) (by exact ao (aO hc aT.nd hf 2 (by decide +kernel) (ay lO (de xF (ak hc 2) dH (dG (ay bM (ak hc 3) ah))) (de xF (ak hc 2) (dG (ak hc 3)) dH)))) (by exact ao (aW (aM eL (ak hc 4) ah (bf _)) (by exact ao (aO hc aT.nd hf 2 (by decide +kernel) (ay lO (ay lO (de xF (ak hc 2) dH (dG (ak hc 3))) (eD (ae (bu fD (ak hc 2) (ay bM (ak hc 3) ah) (λ_ _=>rfl)) (ae (bu fD (ak hc 2) (ak hc 3) (λ_ _=>rfl)) ag)))) (de xF (ak hc 2) (dG (ay bM (ak hc 3) ah)) dH)))) (by exact ao (aW (aM eL (ak hc 4) ah (bf _)) (by exact ao (fL (ay bV aA (bu fD (ak hc 2) (ay bM (ak hc 3) ah) (λ_ _=>rfl))) (fM (ak hc 2) (ay bM (ak hc 3) ah) jy))) (by exact ao (aO hc aT.nd hf 2 (by decide +kernel) (ay lO (ay lO (de xF (ak hc 2) dH (dG (ay bM (ak hc 3) ah))) (eD (ae (ay bV aA (ay qR aA ah)) ag))) (de xF (ak hc 2) (dG (ay bM (ak hc 3) ah)) dH)))))))));exact ao (aE (gW pH rS rT iI aA (ae (ak hc 2) ag)))),?_⟩
 walk_at "r"
 refine⟨⟨_,cQ hp⟩,?_⟩
 refine lW (zs:=List.map V.int S) (λj=>S[j]?.map λz=>V.str (aR z)) (λ_=>yk) (λ_ _ _ _ _ _ r=>r) (λ_ _ _ _ _ _ _ r=>r) hp (by rw[bB];omega) (λDD c H4 j z yes no hj s4 JL JK kM Jz=>?_) (λZ H1 vs s1 hZ kP rl=>?_)
 ·obtain⟨n,en,rfl⟩:=int_at hj
  rw[en]at kM
  have hn:=sy.mem n (gJ en)
  walk_at "rc"
  walk_at "r"
  exact⟨jR (j9 (show n.natAbs<10 ^ 60 by omega) (by decide +kernel)),kM _ rfl _ _ (λ_ _ e=>e) rfl⟩
 have ev:=kl rl
 rw[bB,oK (l:=S) (g:=λz=>V.str (aR z)) λk hk=>by rw[cT hk];rfl]at ev
 subst ev
 have kP:H1 Z=some (.lst (List.map V.str (S.map aR))):=by rw[kP,nA];rfl
 obtain⟨ws,Cu⟩:∃ws,S.map aR=ws:=⟨_,rfl⟩
 have SN:ws.length=S.length:=by rw[<-Cu,bB]
 have Js:∀w∈ws,isNum w:=by rw[<-Cu];exact nk sy.mem
 rw[Cu]at kP
 have tF:=s1 _ _ hp
 have Ut:Dr h H H1:=Dr.refl.same s1
 have GF:Z≠h:=hd.ne hZ
 repeat (first | walk_at "rl" | simp only[tF])
 refine bx hd Ut (by omega) (by omega) λsp H2 Rp VM d2 k2=>?_
 have zM:H2 Z=some (.lst (List.map V.str ws)):=by rw[k2 Z GF];exact kP
 walk_at "r"
 refine bx hd d2 (by decide) (by decide) λway H3 w0 w1 d3 k3=>?_
 have tM:H3 Z=some (.lst (List.map V.str ws)):=by rw[k3 Z GF];exact zM
 repeat (first | walk_at "rl" | simp only[tM])
 obtain⟨N,hN⟩:∃N:St->Hp->Prop,∀σ' H',N σ' H'↔∃(Z':Addr) (us:List Str),σ'=[some (.ref h),some (.ref p),some (.ref Z'),some (.int sp),some (.int way)]/\Dr h H H'/\H' Z'=some (.lst (List.map V.str us))/\wl us<=800/\∀ns,¬fG (Txt.join gD us) ns:=⟨_,λ_ _=>fc⟩
 unfold yH
 refine⟨N,?_,λσ' H' hn=>?_⟩
 rotate_left
 ·obtain⟨Z',us,rfl,d',Ua,lu,no⟩:=(hN _ _).mp hn
  repeat (first | walk_at "rl" | simp only[Ua])
  exact⟨us,rfl,xV (by omega),q _ _ d' (by have:=join_le us;exact dD this lu) no⟩
 have k1:sp.toNat+1<S.length:=by omega
 have Fm:∀w∈ws,w.length<=60:=λw hw=>(Js w hw).2.1
 have sz:∀n:Nat,n<=1000->n<=sizeLine:=λn hn=>by rw[ly];omega
 have at_:∀j:Nat,∀i:Int,i=(j:Int)->∀hj:j<ws.length,lZ (List.map V.str ws) i=some (.str ws[j]):=λj i e hj=>by
  rw[e]
  exact cB (by rw[dR,cT hj];rfl)
 repeat (first | walk_at "rl" | simp only[tM])
 refine d0 (λ_=>?_) λ_=>?_
 ·intro p1 h1
  rw[g5 ws (by omega),show(sp+1).toNat=sp.toNat+1 by omega]
  have t1:=aB h1 (.lst (List.map V.str (ws.take (sp.toNat+1))))
  have e1:=aq (H:=H3) (a:=p1) (o:=.lst (List.map V.str (ws.take (sp.toNat+1))))
  generalize upd H3 p1 (.lst (List.map V.str (ws.take (sp.toNat+1))))=H4 at t1 e1 ⊢
  refine⟨_,t1 _ _ tM,λp2 h2=>?_⟩
  rw[fE ws Rp]at *
  have t2:=aB h2 (.lst (List.map V.str (ws.drop sp.toNat)))
  generalize upd H4 p2 (.lst (List.map V.str (ws.drop sp.toNat)))=H5 at t2 ⊢
  refine⟨_,t2 _ _ e1,?_,λp3 h3=>?_⟩
  ·rw[bB,bB,dP,gH]
   exact sz _ (by omega)
  refine(hN _ _).mpr ⟨p3,ws.take (sp.toNat+1)++ws.drop sp.toNat,rfl,(d3.same (t1.trans t2)).new h3,by rw[aq,dw],?_,λns=>?_⟩
  ·have:=pR (n:=60) (ws:=ws.take (sp.toNat+1)++ws.drop sp.toNat) λw hw=>(dm.mp hw).elim (λy=>Fm w (pG y)) λy=>Fm w (pF y)
   rw[ft,dP,gH]at this
   omega
  ·rw[<-Cu,<-pB,<-rO,<-dw]
   refine iH (λz hz=>sy.mem z ((dm.mp hz).elim pG pF)) (λz=>?_) (yF (by omega)) ns
   have:=cR List.length z
   rw[ft,dP,gH,List.length_nil]at this
   omega
 refine d0 (λ_=>?_) λ_=>?_
 ·intro p1 h1
  rw[g5 ws (by omega)]
  have t1:=aB h1 (.lst (List.map V.str (ws.take sp.toNat)))
  have e1:=aq (H:=H3) (a:=p1) (o:=.lst (List.map V.str (ws.take sp.toNat)))
  generalize upd H3 p1 (.lst (List.map V.str (ws.take sp.toNat)))=H4 at t1 e1 ⊢
  refine⟨_,t1 _ _ tM,_,at_ (sp.toNat+1) _ (by omega) (by omega),_,t1 _ _ tM,_,at_ sp.toNat _ (by omega) (by omega),by decide,λp2 h2=>?_⟩
  have t2:=aB h2 (.lst [V.str ws[sp.toNat+1],V.str ws[sp.toNat]])
  generalize upd H4 p2 (.lst [V.str ws[sp.toNat+1],V.str ws[sp.toNat]])=H5 at t2 ⊢
  refine⟨_,t2 _ _ e1,sz _ (by rw[bB,dP];omega),λp3 h3=>?_⟩
  have t3:=aB h3 (.lst (List.map V.str (ws.take sp.toNat)++[V.str ws[sp.toNat+1],V.str ws[sp.toNat]]))
  have e3:=aq (H:=H5) (a:=p3) (o:=.lst (List.map V.str (ws.take sp.toNat)++[V.str ws[sp.toNat+1],V.str ws[sp.toNat]]))
  generalize upd H5 p3 (.lst (List.map V.str (ws.take sp.toNat)++[V.str ws[sp.toNat+1],V.str ws[sp.toNat]]))=H6 at t3 e3 ⊢
  refine⟨_,t3 _ _ (t2 _ _ (t1 _ _ tM)),λp4 h4=>?_⟩
  rw[fE ws (by omega),show(sp+2).toNat=sp.toNat+2 by omega]at *
  have t4:=aB h4 (.lst (List.map V.str (ws.drop (sp.toNat+2))))
  generalize upd H6 p4 (.lst (List.map V.str (ws.drop (sp.toNat+2))))=H7 at t4 ⊢
  refine⟨_,t4 _ _ e3,?_,λp5 h5=>?_⟩
  ·rw[ft,bB,bB,dP,gH]
   show _+2+_<=_
   exact sz _ (by omega)
  refine(hN _ _).mpr ⟨p5,ws.take sp.toNat++[ws[sp.toNat+1],ws[sp.toNat]]++ws.drop (sp.toNat+2),rfl,(d3.same (((t1.trans t2).trans t3).trans t4)).new h5,by rw[aq,dw,dw];rfl,?_,λns=>?_⟩
  ·have:=pR (n:=60) (ws:=ws.take sp.toNat++[ws[sp.toNat+1],ws[sp.toNat]]++ws.drop (sp.toNat+2)) λw hw=>by
    rcases dm.mp hw with hw | hw
    ·rcases dm.mp hw with hw | hw
     ·exact Fm w (pG hw)
     ·have:w=ws[sp.toNat+1]\/w=ws[sp.toNat]:=by simpa using hw
      rcases this with rfl | rfl <;> exact Fm _ (vt _)
    ·exact Fm w (pF hw)
   rw[ft,ft,dP,gH]at this
   have e2:[ws[sp.toNat+1],ws[sp.toNat]].length=2:=rfl
   omega
  ·have e:ws.take sp.toNat++[ws[sp.toNat+1],ws[sp.toNat]]++ws.drop (sp.toNat+2)=(S.take sp.toNat++[S[sp.toNat+1],S[sp.toNat]]++S.drop (sp.toNat+2)).map aR:=by
    subst Cu
    simp only[dw,pB,rO,gE,List.map_nil,List.getElem_map]
   rw[e]
   refine iH (λz hz=>sy.mem z ?_) (by simp) (Aq sy.rise k1) ns
   rcases dm.mp hz with hz | hz
   ·rcases dm.mp hz with hz | hz
    ·exact pG hz
    ·have:z=S[sp.toNat+1]\/z=S[sp.toNat]:=by simpa using hz
     rcases this with rfl | rfl <;> exact vt _
   ·exact pF hz
 refine d0 (λ_=>?_) λ_=>?_
 ·have L5:sp.toNat+1<ws.length:=by omega
  have Cv:=Js _ (vt L5)
  have Ls:(Str.ofString "0").length=1:=by decide +kernel
  refine⟨_,at_ (sp.toNat+1) _ (by omega) L5,_,rfl,sz _ (by rw[Ls];have:=Cv.2.1;omega),sp.toNat+1,?_,?_⟩
  ·unfold wB
   rw[aU (by omega),aU (by omega),show(sp+1).toNat=sp.toNat+1 by omega]
  generalize ws[sp.toNat+1]=w1 at Cv
  have bad:¬isNum (Str.ofString "0" ++ w1):=t5 Cv.1
  have mem:∀w∈ws.set (sp.toNat+1) (Str.ofString "0" ++ w1),w∈ws\/w=Str.ofString "0" ++ w1:=λw hw=>(List.mem_or_eq_of_mem_set hw)
  refine(hN _ _).mpr ⟨Z,ws.set (sp.toNat+1) (Str.ofString "0" ++ w1),rfl,d3.put hZ,by rw[aq,List.map_set],?_,λns=>?_⟩
  ·have:=pR (n:=61) (ws:=ws.set (sp.toNat+1) (Str.ofString "0" ++ w1)) λw hw=>by
    rcases mem w hw with hw | rfl
    ·have:=Fm w hw;omega
    ·rw[dQ,Ls];have:=Cv.2.1;omega
   rw[qy]at this
   omega
  ·refine bT (λw hw=>?_) (lD (by rw[qy];omega)) (List.mem_set L5 _) bad ns
   rcases mem w hw with hw | rfl
   ·exact dJ (Js w hw)
   ·rw[cS]
    intro z
    rcases dm.mp z with z | z
    ·rw[show(Str.ofString "0").cps.toList=[48] by decide +kernel]at z
     simp at z
    ·exact dJ Cv z
 ·intro p1 h1
  rw[g5 ws (by omega),show(sp+1).toNat=sp.toNat+1 by omega]
  have t1:=aB h1 (.lst (List.map V.str (ws.take (sp.toNat+1))))
  have e1:=aq (H:=H3) (a:=p1) (o:=.lst (List.map V.str (ws.take (sp.toNat+1))))
  generalize upd H3 p1 (.lst (List.map V.str (ws.take (sp.toNat+1))))=H4 at t1 e1 ⊢
  have e0:(Str.ofString "0").cps.toList=[48]:=by decide +kernel
  have JS:(Str.ofString "1").cps.toList=[49]:=by decide +kernel
  refine⟨by decide +kernel,by decide +kernel,λu hu=>?_⟩
  have hu:u.cps.toList=List.replicate 60 48:=by rw[hu,e0];rfl
  have lu:u.length=60:=by rw[<-eH,hu,il]
  have Gx:(Str.ofString "1").length=1:=by decide +kernel
  obtain⟨w1,Cv⟩:∃w1,Str.ofString "1" ++ u=w1:=⟨_,rfl⟩
  have VR:w1.length=61:=by rw[<-Cv,dQ,Gx,lu]
  have Sw:43∉w1.cps.toList:=by
   rw[<-Cv,cS,JS,hu]
   simp
  rw[Cv]
  refine⟨sz _ (by rw[Gx,lu];omega),by decide,λp2 h2=>?_⟩
  have t2:=aB h2 (.lst [V.str w1])
  generalize upd H4 p2 (.lst [V.str w1])=H5 at t2 ⊢
  refine⟨_,t2 _ _ e1,sz _ (by rw[bB,dP];omega),λp3 h3=>?_⟩
  have t3:=aB h3 (.lst (List.map V.str (ws.take (sp.toNat+1))++[V.str w1]))
  have e3:=aq (H:=H5) (a:=p3) (o:=.lst (List.map V.str (ws.take (sp.toNat+1))++[V.str w1]))
  generalize upd H5 p3 (.lst (List.map V.str (ws.take (sp.toNat+1))++[V.str w1]))=H6 at t3 e3 ⊢
  refine⟨_,t3 _ _ (t2 _ _ (t1 _ _ tM)),λp4 h4=>?_⟩
  rw[fE ws (by omega),show(sp+1).toNat=sp.toNat+1 by omega]at *
  have t4:=aB h4 (.lst (List.map V.str (ws.drop (sp.toNat+1))))
  generalize upd H6 p4 (.lst (List.map V.str (ws.drop (sp.toNat+1))))=H7 at t4 ⊢
  refine⟨_,t4 _ _ e3,?_,λp5 h5=>?_⟩
  ·rw[ft,bB,bB,dP,gH]
   show _+1+_<=_
   exact sz _ (by omega)
  have mem:∀w∈ws.take (sp.toNat+1)++[w1]++ws.drop (sp.toNat+1),w∈ws\/w=w1:=λw hw=>by
   rcases dm.mp hw with hw | hw
   ·rcases dm.mp hw with hw | hw
    ·exact .inl (pG hw)
    ·exact .inr (dE.mp hw)
   ·exact .inl (pF hw)
  have ll:(ws.take (sp.toNat+1)++[w1]++ws.drop (sp.toNat+1)).length=ws.length+1:=by
   rw[ft,ft,dP,gH,rR]
   omega
  refine(hN _ _).mpr ⟨p5,ws.take (sp.toNat+1)++[w1]++ws.drop (sp.toNat+1),rfl,(d3.same (((t1.trans t2).trans t3).trans t4)).new h5,by rw[aq,dw,dw];rfl,?_,λns=>?_⟩
  ·have:=pR (n:=61) (ws:=ws.take (sp.toNat+1)++[w1]++ws.drop (sp.toNat+1)) λw hw=>by
    rcases mem w hw with hw | rfl
    ·have:=Fm w hw;omega
    ·omega
   rw[ll]at this
   omega
  ·refine bT (λw hw=>?_) (lD (by rw[ll];omega)) (w:=w1) (by simp) (wu (by omega)) ns
   rcases mem w hw with hw | rfl
   ·exact dJ (Js w hw)
   ·exact Sw
theorem tu(a b:Str):Txt.join gD [a,b]=a++gD++b:=by
 show Builtin.Str.glued gD [a,b]=_
 rw[nI]
 rfl
theorem nW{S:List Int}(sy:Sy S):∃us,cD S=Txt.join gD us/\us≠[]/\(∀w∈us,43∉w.cps.toList)/\wl us<=500/\1<=(cD S).length:=by
 have lS:=sy.len
 unfold cD
 by_cases e:S=[]
 ·rw[aU e]
  exact⟨[Str.ofString "-"],(join_one _).symm,by simp,λw hw=>by rw[dE.mp hw,dash];simp,by decide +kernel,by decide +kernel⟩
 ·rw[aK e]
  have hn:=nk sy.mem
  refine⟨S.map aR,rfl,by simpa using e,λw hw=>dJ (hn w hw),?_,?_⟩
  ·have:=pR (n:=60) (ws:=S.map aR) λw hw=>(hn w hw).2.1
   rw[bB]at this
   omega
  ·have h1:(Builtin.Str.glued gD (S.map aR)).length+1=wl (S.map aR):=by rw[nI];exact nq (ws:=S.map aR) (by simpa using e)
   have h1:(Txt.join (Str.ofString "+") (S.map aR)).length+1=wl (S.map aR):=h1
   obtain⟨z,r,rfl⟩:=List.exists_cons_of_ne_nil e
   have h2:=uJ (x:=aR z) (ws:=(z::r).map aR) (by simp)
   have h3:=(hn (aR z) (by simp)).1
   omega
theorem Gk(x y z:Str):x++y++z=x++(y++z):=by
 cases x;cases y;cases z
 show(⟨_++_++_⟩:Str)=⟨_++(_++_)⟩
 rw[uw]
theorem rH(x:Str):x++Str.ofString "" = x:=Str.ext' (lA (by
 show(x++Str.ofString "").cps.toList=_
 rw[cS,show(Str.ofString "").cps.toList=[] by decide +kernel,nE]))
theorem wo(x:Str):Str.ofString "" ++ x=x:=Str.ext' (lA (by
 show(Str.ofString "" ++ x).cps.toList=_
 rw[cS,show(Str.ofString "").cps.toList=[] by decide +kernel,List.nil_append]))
theorem Dw{x:Str}{c:Nat}{r:List Nat}(h:x.cps.toList=c::r)(hc:c≠45):[x]≠[Str.ofString "-"]:=λz=>by
 have:x=Str.ofString "-":=by simpa using z
 rw[this,dash]at h
 injection h with h
 exact hc h.symm
theorem tO{a b:Int}{Qp:Str->Prop}(a0:0<=a)(a1:a<10 ^ 60)(b0:0<=b)(b1:b<10 ^ 60)(h:¬a<b)(q:∀u:Str,u.length<=800->(∀ns,¬fG u ns)->Qp u) :
  a.natAbs.log2<1920/\(Str.empty++aR a).length<=sizeLine/\(Str.empty++aR a++gD).length<=sizeLine/\b.natAbs.log2<1920/\(Str.empty++aR a++gD++aR b).length<=sizeLine/\(Str.empty++aR a++gD++aR b).length<=sizeLine/\Qp (Str.empty++aR a++gD++aR b):=by
 have e:Str.empty++aR a=aR a:=Str.ext' (lA (by
  show(Str.empty++aR a).cps.toList=_
  rw[cS]
  rfl))
 have na:=(jP a0 a1).1.2.1
 have nb:=(jP b0 b1).1.2.1
 have lp:gD.length=1:=by decide +kernel
 have big:1000<=sizeLine:=by decide
 rw[e]
 have l2:(aR a++gD).length<=61:=by rw[dQ];omega
 have l3:(aR a++gD++aR b).length<=121:=by rw[dQ];omega
 refine⟨jR (j9 (show a.natAbs<10 ^ 60 by omega) (by decide +kernel)),by omega,by omega,jR (j9 (show b.natAbs<10 ^ 60 by omega) (by decide +kernel)),by omega,by omega,q _ (by omega) ?_⟩
 rw[<-tu]
 refine iH (S:=[a,b]) (λz hz=>?_) (by simp) (λr=>h ?_)
 ·have:z=a\/z=b:=by simpa using hz
  rcases this with rfl | rfl
  ·exact⟨a0,a1⟩
  ·exact⟨b0,b1⟩
 ·simpa [gS]using r
def yN:Sp:=λvs H Q _=>∃h p,vs=[.ref h,.ref p]/\∃S:List Int,bJ H h/\H p=some (.tup (List.map V.int S))/\Sy S/\∀u H',Dr h H H'->u.length<=800->(∀ns,¬fG u ns)->Q (.str u) H'
theorem xP(T:Txt K mg t):dc P w K mg base jL 5 t.gx t.gh ["_law_hand_here","_law_part"] yN:=by
 have aC:=nj (P:=P) (w:=w) (base:=base) T
 have iZ:=xQ (P:=P) (w:=w) (base:=base) T
 have cF:=oi (P:=P) (w:=w) (base:=base) T
 refine T.gB.rL ck (λvs H Q E h=>?_) (λdh A outer s H vs Q E hr h hc hf=>?_)
 ·obtain⟨h,p,rfl,_⟩:=h;rfl
 obtain⟨h,p,rfl,S,hd,hp,sy,q⟩:=h
 have hu:=jC hr
 have Cw:=hr.fW
 have lS:=sy.len
 have Mj:p≠h:=by
  rintro rfl
  obtain⟨l,ns,o,e1,⟨a,b,c,d,e,rfl,_⟩,_⟩:=hd
  rw[hp]at e1
  cases e1
 refine⟨_,(by apply ai;exact(aW (g8 (ke (aM zt (az jk (aX hc) T.fN iS (ae (ak hc 1) ag)) ah (bf _)) (iu (aM eL (au aC hr.mono (aX hc) T.aI T.aH.kp T.aJ .nil aS (ae (ak hc 0) (ae ah ag))) ah (bf _))))) (by exact ao (aE (au iZ hr.mono (aX hc) T.iJ T.eO.kp T.iT .nil aS (ae (ak hc 0) (ae (ak hc 1) ag))))) aL);apply ai;exact(aO hc ck.nd hf 2 (by decide +kernel) (au cF hr.mono (aX hc) T.du T.cG.kp T.dv .nil aS (ae (ak hc 1) ag)));apply ai;exact(aO hc ck.nd hf 3 (by decide +kernel) (au aC hr.mono (aX hc) T.aI T.aH.kp T.aJ .nil aS (ae (ak hc 0) (ae (ay bM (az fj (aX hc) T.fN iS (ae (ak hc 2) ag)) ah) ag))));apply ai;exact(aO hc ck.nd hf 4 (by decide +kernel) (au aC hr.mono (aX hc) T.aI T.aH.kp T.aJ .nil aS (ae (ak hc 0) (ae ah ag))));apply ai;exact(aW (aM eL (ak hc 4) ah (bf _)) (by exact ao (aE (ay bV (ak hc 2) aA))) aL);apply ai;exact(aW (aM eL (ak hc 4) ah (bf _)) (by exact ao (aE (ay bV aA (ak hc 2)))) aL);apply ai;exact(aW (aM eL (ak hc 4) ah (bf _)) (by apply ai;exact(aO hc ck.nd hf 5 (by decide +kernel) aA);exact ao (aE (ay bV (ay bV (de yS (ak hc 2) dH (dG (ak hc 3))) (bu Fv (ak hc 5) (au aC hr.mono (aX hc) T.aI T.aH.kp T.aJ .nil aS (ae (ak hc 0) (ae (az fj (aX hc) T.fN iS (ae (ak hc 5) ag)) ag))) (λ_ _=>rfl))) (de yS (ak hc 2) (dG (ak hc 3)) dH)))) aL);apply ai;exact(aW (aM eL (ak hc 4) ah (bf _)) (by exact ao (aE (ay bV (ay bV aA (bI gQ (aX hc) T.g7 kX (ae (ay bM ah (au aC hr.mono (aX hc) T.aI T.aH.kp T.aJ .nil aS (ae (ak hc 0) (ae (ay lN ah ah) ag)))) ag))) (bu fD (eD (ae aA (ae (ay bV aA (ay qR aA ah)) ag))) (au aC hr.mono (aX hc) T.aI T.aH.kp T.aJ .nil aS (ae (ak hc 0) (ae ah ag))) (λ_ _=>rfl))))) aL);apply ai;exact(aW (aM eL (ak hc 4) ah (bf _)) (by exact ao (aE (ay bV aA (ay qR aA (ay bM ah (au aC hr.mono (aX hc) T.aI T.aH.kp T.aJ .nil aS (ae (ak hc 0) (ae ah ag)))))))) aL);apply ai;exact(aO hc ck.nd hf 6 (by decide +kernel) (au aC hr.mono (aX hc) T.aI T.aH.kp T.aJ .nil aS (ae (ak hc 0) (ae (ay lN ah ah) ag))));apply ai;exact(aW (aM eL (ak hc 4) ah (bf _)) (by exact ao (aE (rZ (gK (kg (ak hc 6)) (gK aA (gK (kg (ak hc 6)) vI)))))) aL);exact ao (aE (rZ (gK (kg (ay bM (ay bM (ak hc 6) ah) (au aC hr.mono (aX hc) T.aI T.aH.kp T.aJ .nil aS (ae (ak hc 0) (ae (ay lN ah ah) ag))))) (gK aA (gK (kg (ak hc 6)) vI)))))),?_⟩
 repeat (first | walk_at "rl" | simp only[hp])
 rename_i R hR
 have SJ:∀z∈S,z.natAbs<10 ^ 100:=λz hz=>by
  have:=sy.mem z hz
  exact j9 (show z.natAbs<10 ^ 60 by omega) (by decide +kernel)
 have rest:∀H1,Dr h H H1->H1 p=some (.tup (List.map V.int S))->R [some (.ref h),some (.ref p),none,none,none,none,none] H1:=λH1 d1 tF=>by
  walk_at "r"
  refine⟨p,rfl,S,tF,by omega,SJ,λH2 s2=>?_⟩
  have d2:=d1.same s2
  have V5:=s2 _ _ tF
  obtain⟨tx,Ql⟩:∃tx,cD S=tx:=⟨_,rfl⟩
  rw[Ql]
  walk_at "r"
  obtain⟨us,JP,J7,JN,SX,l1⟩:=nW sy
  rw[Ql]at JP l1
  have V0:tx.length<=500:=by rw[JP];exact dD (join_le us) SX
  have sz:∀n:Nat,n<=5000->n<=sizeLine:=λn hn=>by rw[ly];omega
  refine⟨sz _ (by omega),bx hd d2 (by omega) (by omega) λvm H3 a0 a1 d3 k3=>?_⟩
  walk_at "r"
  refine bx hd d3 (by decide) (by decide) λway H4 w0 w1 d4 k4=>?_
  have lp:(Str.ofString "+").length=1:=by decide +kernel
  have V7:Str.ofString "+" = gD:=rfl
  have ep:([]:List Nat)=Str.empty.cps.toList:=rfl
  walk_at "r"
  have Qm:(Str.ofString "").cps.toList=[]:=by decide +kernel
  have Lr:(Str.ofString "").length=0:=by decide +kernel
  have Rk:∀w∈us++[Str.ofString ""],43∉w.cps.toList:=λw hw=>by
   rcases dm.mp hw with hw | hw
   ·exact JN w hw
   ·rw[dE.mp hw,Qm];simp
  have J5:∀w∈[Str.ofString ""]++us,43∉w.cps.toList:=λw hw=>by
   rcases dm.mp hw with hw | hw
   ·rw[dE.mp hw,Qm];simp
   ·exact JN w hw
  have S2:1<=us.length:=List.length_pos_iff.mpr J7
  have e0:(Str.ofString "0").cps.toList=[48]:=by decide +kernel
  have e1:(Str.ofString "1").cps.toList=[49]:=by decide +kernel
  have Ls:(Str.ofString "0").length=1:=by decide +kernel
  have Gx:(Str.ofString "1").length=1:=by decide +kernel
  refine d0 (λ_=>?_) λ_=>?_
  ·refine⟨sz _ (by omega),q _ _ d4 (by rw[dQ];omega) ?_⟩
   have e:tx++Str.ofString "+" = Txt.join gD (us++[Str.ofString ""]):=by
    rw[tq J7 (by simp),<-JP,join_one,tu,rH]
    rfl
   rw[e]
   exact bT Rk (lD (by rw[ft,rR];omega)) (w:=Str.ofString "") (by simp) (oN Lr)
  walk_at "r"
  refine d0 (λ_=>?_) λ_=>?_
  ·refine⟨sz _ (by omega),q _ _ d4 (by rw[dQ];omega) ?_⟩
   have e:Str.ofString "+" ++ tx=Txt.join gD ([Str.ofString ""]++us):=by
    rw[tq (by simp) J7,<-JP,join_one,tu,wo]
    rfl
   rw[e]
   exact bT J5 (lD (by rw[ft,rR];omega)) (w:=Str.ofString "") (by simp) (oN Lr)
  walk_at "r"
  refine d0 (λ_=>?_) λ_=>?_
  ·obtain⟨G4,Mg⟩:∃G4,Str.ofString " !\"#$&'()*,-./:;<=>?@ABCDEFGHIJKLMNOPQRSTUVWXYZ[\\]^_`abcdefghijklmnopqrstuvwxyz{|}~" = G4:=⟨_,rfl⟩
   have Rz:∀c∈G4.cps.toList,c≠43/\¬(48<=c/\c<=57):=by rw[<-Mg];decide +kernel
   have VN:G4.length=83:=by rw[<-Mg];decide +kernel
   rw[Mg]
   walk_at "r"
   refine⟨sz _ (by omega),sz _ (by omega),bx hd d4 (by omega) (by omega) λx H5 x0 x1 d5 k5=>⟨x,rfl,sz _ (by omega),?_⟩⟩
   obtain⟨c,ec,Uq⟩:=Gj (xs:=G4.cps.toList) x0 (by rw[eH];omega)
   have hc:=Rz c (gJ Uq)
   have V3:(oR tx none (some vm)).length<=tx.length:=by
    rw[<-eH,<-eH,wJ tx a0,dP];omega
   have V2:(oR tx (some vm) none).length=tx.length-vm.toNat:=by
    rw[<-eH,<-eH,yf tx a0,gH]
   have V1:(oR tx none (some vm)).length=min vm.toNat tx.length:=by
    rw[<-eH,<-eH,wJ tx a0,dP]
   have lc:(⟨#[c]⟩:Str).length=1:=rfl
   refine⟨c,ec,sz _ (by rw[lc];omega),sz _ (by omega),sz _ (by rw[dQ,lc];omega),q _ _ d5 (by rw[dQ,dQ,lc];omega) ?_⟩
   refine mE (c:=c) ?_ hc.1 hc.2 (by rw[dQ,dQ,lc];omega)
   rw[cS,cS]
   exact pE _ (fe _ (by simp))
  walk_at "r"
  refine d0 (λ_=>?_) λ_=>?_
  ·refine⟨⟨by decide,by decide,by decide⟩,bx hd d4 (by decide) (by decide) λx H5 x0 x1 d5 k5=>⟨x,rfl,?_⟩⟩
   have hx:=jP (z:=1+x) (by omega) (by omega)
   have lx:=hx.1.2.1
   have SM:=hx.1.1
   have nb:¬isNum (Str.ofString "0" ++ aR (1+x)):=t5 SM
   have n43:43∉(Str.ofString "0" ++ aR (1+x)).cps.toList:=by
    rw[cS,e0]
    intro z
    rcases dm.mp z with z | z
    ·simp at z
    ·exact dJ hx.1 z
   have Tt:[Str.ofString "0" ++ aR (1+x)]≠[Str.ofString "-"]:=Dw (by rw[cS,e0];rfl) (by decide)
   refine⟨jR (j9 (show(1+x).natAbs<10 ^ 60 by omega) (by decide +kernel)),?_⟩
   show(Str.ofString "0").length+(aR (1+x)).length<=sizeLine/\_
   refine⟨sz _ (by omega),by decide +kernel,by decide +kernel,λu hu=>?_⟩
   have e9:(Str.ofString "9").cps.toList=[57]:=by decide +kernel
   have hu:u.cps.toList=List.replicate 60 57:=by rw[hu,e9];rfl
   have lu:u.length=60:=by rw[<-eH,hu,il]
   have nu:43∉u.cps.toList:=by rw[hu];simp
   refine⟨sz _ (by omega),by decide,λp1 h1=>?_⟩
   have Mk:p1≠h:=(d5.cA hd).ne h1
   refine bx hd (d5.new h1) (by decide) (by decide) λi H6 i0 i1 d6 k6=>⟨i,rfl,_,by rw[k6 p1 Mk,aq],?_⟩
   have lz:(Str.ofString "0" ++ aR (1+x)).length<=61:=by rw[dQ];omega
   have hi:i=0\/i=1:=by omega
   rcases hi with rfl | rfl
   ·refine⟨_,rfl,_,rfl,sz _ (by rw[Lr];show(Str.ofString "0" ++ aR (1+x)).length+0<=_;omega),?_⟩
    rw[rH]
    show Q (.str (Str.ofString "0" ++ aR (1+x))) H6
    refine q _ _ d6 (by omega) ?_
    rw[<-join_one (Str.ofString "0" ++ aR (1+x))]
    exact bT (λw hw=>by rw[dE.mp hw];exact n43) Tt (w:=Str.ofString "0" ++ aR (1+x)) (by simp) nb
   ·refine⟨_,rfl,_,rfl,sz _ (by show(Str.ofString "0" ++ aR (1+x)).length+_<=_;rw[show(Str.ofString "+" ++ u).length=61 by rw[dQ,lp,lu]];omega),?_⟩
    show Q (.str (Str.ofString "0" ++ aR (1+x)++(gD++u))) H6
    rw[<-Gk,<-tu]
    refine q _ _ d6 ?_ ?_
    ·refine dD (join_le _) ?_
     show(Str.ofString "0" ++ aR (1+x)).length+1+(u.length+1+0)<=800
     omega
    ·refine bT (λw hw=>?_) (lD (cg 2)) (w:=Str.ofString "0" ++ aR (1+x)) (by simp) nb
     have:w=Str.ofString "0" ++ aR (1+x)\/w=u:=by simpa using hw
     rcases this with rfl | rfl
     ·exact n43
     ·exact nu
  walk_at "r"
  refine d0 (λ_=>?_) λ_=>?_
  ·refine bx hd d4 (by decide) (by decide) λx H5 x0 x1 d5 k5=>⟨x,rfl,by omega,by omega,by decide +kernel,by decide +kernel,λu hu=>?_⟩
   have hu:u.cps.toList=List.replicate (60+x).toNat 48:=by
    rw[hu,e0]
    generalize (60+x).toNat=n
    induction n with
    | zero=>rfl
    | succ n ih=>rw[vC,List.flatten_cons,ih];rfl
   have lu:u.length=(60+x).toNat:=by rw[<-eH,hu,il]
   refine⟨sz _ (by omega),q _ _ d5 (by rw[dQ];omega) ?_⟩
   rw[<-join_one (Str.ofString "1" ++ u)]
   refine bT (λw hw=>?_) (Dw (c:=49) (r:=u.cps.toList) (by rw[cS,e1];rfl) (by decide)) (w:=Str.ofString "1" ++ u) (by simp) (wu (by rw[dQ];omega))
   rw[dE.mp hw,cS,e1,hu]
   simp
  walk_at "r"
  refine⟨⟨by decide,by decide,by decide⟩,bx hd d4 (by decide) (by decide) λlow H5 o0 o1 d5 k5=>?_⟩
  have Tz:=jP (z:=low) (by omega) (by omega)
  walk_at "r"
  refine d0 (λ_=>?_) λ_=>?_
  ·exact tO (Qp:=λu=>Q (.str u) H5) (a:=low) (b:=low) (by omega) (by omega) (by omega) (by omega) (by omega) λu lu no=>q u _ d5 lu no
  walk_at "r"
  refine⟨⟨by decide,by decide,by decide⟩,bx hd d5 (by decide) (by decide) λx H6 x0 x1 d6 k6=>⟨x,rfl,?_⟩⟩
  exact tO (Qp:=λu=>Q (.str u) H6) (a:=low+1+x) (b:=low) (by omega) (by omega) (by omega) (by omega) (by omega) λu lu no=>q u _ d6 lu no
 refine d0 (λh1=>?_) λ_=>rest H Dr.refl hp
 refine bx hd Dr.refl (by decide) (by decide) λb H1 b0 b1 d1 k1=>?_
 have tF:H1 p=some (.tup (List.map V.int S)):=by rw[k1 p Mj];exact hp
 refine⟨rfl,d0 (λ_=>?_) λ_=>rest H1 d1 tF⟩
 exact⟨h,p,rfl,S,d1.cA hd,tF,sy,by omega,λu H' d' lu no=>q u H' (d1.trans d') lu no⟩
local macro_rules | `(tactic| walk_at "rd") => `(tactic| walk_at "rc")
local macro_rules | `(tactic| walk_at "rl") => `(tactic| first | (refine eS fun R hR => ?_) | walk_at "ry" | (refine Nx.to (by assumption) _ _ ?_))
theorem bJ.uW{H:Hp}{h b:Addr}{xs:List V}(x:bJ H h)(e:H b=some (.tup xs)):b≠h:=by
 rintro rfl
 obtain⟨l,ns,o,e1,⟨a,b,c,d,f,rfl,_⟩,_⟩:=x
 rw[e]at e1
 cases e1
theorem Dr.tups{h:Addr}{H H':Hp}(d:Dr h H H')(x:bJ H h):∀b xs,H b=some (.tup xs)->H' b=some (.tup xs):=λb xs e=>d.keep b _ (x.uW e) e
theorem fi{H H':Hp}(s:bA H H'):∀b xs,H b=some (.tup xs)->H' b=some (.tup xs):=λb xs e=>s _ _ e
theorem sA{H:Hp}{F:Addr}{ys zs:List V}(hF:H F=some (.lst ys)):∀b xs,H b=some (.tup xs)->upd H F (.lst zs) b=some (.tup xs):=λb xs e=>by
 rw[aD]
 ·exact e
 ·rintro rfl
  rw[hF]at e
  cases e
theorem Sx.sy{S:List Int}(x:Sx S):Sy S:=⟨x.len,x.rise,λz hz=>by have:=x.mem z hz;omega⟩
def vT(K:PySem.W.Frag):Sp:=λvs H Q _=>∃(a:Addr) (ns:List Int),vs=[.ref a]/\mh K H a (List.map V.int ns)/\ns.length<=63/\∀H',Q (.bl true) H'
theorem Ff(T:Txt K mg t):dc P w K mg base jL 10 t.z6 t.zT ["_law_script"] (vT K):=by
 have aC:=nj (P:=P) (w:=w) (base:=base) T
 have ua:=Ca (P:=P) (w:=w) (base:=base) T
 have mj:=zA (P:=P) (w:=w) (base:=base) T
 have jH:=xP (P:=P) (w:=w) (base:=base) T
 have mM:=BW (P:=P) (w:=w) (base:=base) T
 have cF:=oi (P:=P) (w:=w) (base:=base) T
 have pw:=zy (P:=P) (w:=w) (base:=base) T
 have e6:=sU (P:=P) (w:=w) (base:=base) T
 have jI:=zu (P:=P) (w:=w) (base:=base) T
 have dj:=zx (P:=P) (w:=w) (base:=base) T
 have pq:=Fg (P:=P) (w:=w) (base:=base) T
 have j3:=wk (P:=P) (w:=w) (base:=base) T
 have j4:=oj (P:=P) (w:=w) (base:=base) T
 have dr:=jO (P:=P) (w:=w) (base:=base) T
 refine T.Jc.rL fA (λvs H Q E h=>?_) (λdh A outer s H vs Q E hr h hc hf=>?_)
 ·obtain⟨a,ns,rfl,_⟩:=h;rfl
 obtain⟨a,ns,rfl,hS,V9,q⟩:=h
 have hu:=jC hr
 have Cw:=hr.fW
 refine⟨_,(by apply ai;exact(aO hc fA.nd hf 1 (by decide +kernel) (au ua hr.mono (aX hc) T.tf T.mP.kp T.tX .nil aS (ae (ak hc 0) ag)));apply ai;exact(aO hc fA.nd hf 2 (by decide +kernel) (eD ag));apply ai;exact(mY rP rfl (jM (aX hc) T.gY (ae (au aC hr.mono (aX hc) T.aI T.aH.kp T.aJ .nil aS (ae (ak hc 1) (ae ah ag))) ag)) (Ag hc fA.nd hf 3 (by decide +kernel)) (by exact ao (eJ (gW yv PySem.F.slot_list_insert PySem.F.type_list_insert xT (ak hc 2) (ae (au aC hr.mono (aX hc) T.aI T.aH.kp T.aJ .nil aS (ae (ak hc 1) (ae (ay bM (ak hc 3) ah) ag))) (ae (au mj hr.mono (aX hc) T.lR T.gT.kp T.lY .nil aS (ae (ak hc 1) ag)) ag))))));apply ip;exact(aW (g8 (ke (aM zt (az lX (aX hc) T.fN iS (ae (ak hc 2) ag)) ah (bf _)) (iu (aM eL (au aC hr.mono (aX hc) T.aI T.aH.kp T.aJ .nil aS (ae (ak hc 1) (ae ah ag))) ah (bf _))))) (by exact ao (eJ (gW yv PySem.F.slot_list_append PySem.F.type_list_append ji (ak hc 2) (ae (bu fD (ak hc 2) (au aC hr.mono (aX hc) T.aI T.aH.kp T.aJ .nil aS (ae (ak hc 1) (ae (az lX (aX hc) T.fN iS (ae (ak hc 2) ag)) ag))) (λ_ _=>rfl)) ag)))) aL);apply ai;exact(aO hc fA.nd hf 4 (by decide +kernel) (bI oU (aX hc) T.nM zY (ae (ak hc 2) ag)));apply ai;exact(aW (g8 (iq (bK (bZ (au mM hr.mono (aX hc) T.mF T.ja.kp T.mL .nil aS (ae (au pq hr.mono (aX hc) T.o6 T.jJ.kp T.pe .nil aS (ae (ak hc 4) ag)) (ae (gW pH rS rT iI aA (ae (cI hc ["_law_part"] [] rfl (by decide +kernel) (kf (ak hc 2)) (λ_ hc=>mQ hc (by decide +kernel) 0 (by decide +kernel)) (λ_ _=>bN) (λ_ hc=>(au cF hr.mono (aX hc) T.du T.cG.kp T.dv .nil aS (ae (ak hc 0) ag)))) ag)) ag))))) (gU (aM (BR hu) (ak hc 4) (ak hc 2) (bf _))))) (by exact ao (aE fV)) aL);apply ai;exact(mY rP rfl (kf (ay lO (ak hc 2) (eD (ae (gV ag) (ae (gV (ae ah ag)) ag))))) (Ag hc fA.nd hf 5 (by decide +kernel)) (by apply ai;exact(aW (bK (bZ (au mM hr.mono (aX hc) T.mF T.ja.kp T.mL .nil aS (ae (au j3 hr.mono (aX hc) T.oA T.j6.kp T.oV .nil aS (ae (ak hc 5) ag)) (ae (au cF hr.mono (aX hc) T.du T.cG.kp T.dv .nil aS (ae (ak hc 5) ag)) ag))))) (by exact ao (aE fV)) aL);apply ai;exact(aO hc fA.nd hf 6 (by decide +kernel) (au j4 hr.mono (aX hc) T.oB T.j7.kp T.oW .nil Dt (ae (au cF hr.mono (aX hc) T.du T.cG.kp T.dv .nil aS (ae (ak hc 5) ag)) ag)));apply ai;exact(aW (g8 (iq (bK (bZ (au pw hr.mono (aX hc) T.o7 T.jK.kp T.ph .nil aS (ae (ak hc 6) ag)))) (iq (aM (BP hu) (ak hc 6) (ak hc 5) (bf _)) (gU (bK (bZ (au jI hr.mono (aX hc) T.jA T.gC.kp T.jF .nil aS (ae (au jH hr.mono (aX hc) T.jz T.gB.kp T.jE .nil aS (ae (ak hc 1) (ae (ak hc 5) ag))) ag)))))))) (by exact ao (aE fV)) aL);exact ao (mY rP rfl (jb (ak hc 5)) (Ag hc fA.nd hf 7 (by decide +kernel)) (by apply ai;exact(aO hc fA.nd hf 8 (by decide +kernel) (au dr hr.mono (aX hc) T.fX T.eI.kp T.gq .nil Dt (ae (bI gQ (aX hc) T.g7 kX (ae (ak hc 7) ag)) ag)));apply ai;exact(aW (g8 (iq (bK (bZ (au e6 hr.mono (aX hc) T.g9 T.e8.kp T.hU .nil aS (ae (ak hc 8) ag)))) (gU (aM zr (ak hc 8) (ak hc 7) (bf _))))) (by exact ao (aE fV)) aL);exact ao (aW (bK (bZ (au dj hr.mono (aX hc) T.dg T.cx.kp T.di .nil aS (ae (au jH hr.mono (aX hc) T.jz T.gB.kp T.jE .nil aS (ae (ak hc 1) (ae (gV (ae (ak hc 7) (ae (ay bM (ak hc 7) ah) ag))) ag))) ag)))) (by exact ao (aE fV)) aL)))));apply ai;exact(aO hc fA.nd hf 9 (by decide +kernel) (eD (ae aA (ae aA (ae aA (ae aA (ae aA (ae aA (ae Ah (ae ah (ae fV (ae (eD (ae aA ag)) (ae (gV (ae aA ag)) (ae xg ag))))))))))))));apply ai;exact(aO hc fA.nd hf 10 (by decide +kernel) (bu fD (ak hc 9) (au aC hr.mono (aX hc) T.aI T.aH.kp T.aJ .nil aS (ae (ak hc 1) (ae ah ag))) (λ_ _=>rfl)));exact ao (aE (eF (au jI hr.mono (aX hc) T.jA T.gC.kp T.jF .nil aS (ae (ak hc 10) ag)) (eF (au dj hr.mono (aX hc) T.dg T.cx.kp T.di .nil aS (ae (ak hc 10) ag)) (eF (au dj hr.mono (aX hc) T.dg T.cx.kp T.di .nil aS (ae aA ag)) (jc (au dj hr.mono (aX hc) T.dg T.cx.kp T.di .nil aS (ae aA ag)))))))),?_⟩
 walk_at "r"
 refine⟨a,ns,rfl,hS,λh H1 s1 h0 hd=>?_⟩
 walk_at "r"
 refine⟨by decide,λF hF=>?_⟩
 have M9:H1 F=none:=hF
 have Ie:F≠h:=hd.ne M9
 have dF:=(Dr.refl (h:=h) (H:=H1)).new (o:=.lst []) hF
 have Qh:=aq (H:=H1) (a:=F) (o:=.lst [])
 generalize upd H1 F (.lst [])=H2 at dF Qh ⊢
 walk_at "r"
 refine bx hd dF (by decide) (by decide) λn H3 n0 n1 d3 k3=>?_
 have Uh:H3 F=some (.lst []):=by rw[k3 F Ie];exact Qh
 walk_at "r"
 refine⟨by omega,by omega,?_⟩
 obtain⟨Pv,Ae⟩:∃Pv:Nat->St->Hp->Prop,∀i σ' H',Pv i σ' H'↔∃(x3:Option V) (bs:List Addr) (ss:List (List Int)),σ'=[some (.ref a),some (.ref h),some (.ref F),x3,none,none,none,none,none,none,none]/\Dr h H1 H'/\H' F=some (.lst (List.map V.ref bs))/\bF H' bs ss/\ss.length=i/\∀S∈ss,Sx S:=⟨_,λ_ _ _=>fc⟩
 refine oI Pv ((Ae _ _ _).mpr ⟨none,[],[],rfl,d3,Uh,⟨rfl,λi b t e=>by cases e⟩,rfl,by simp⟩) (λi σ' H4 hi pv=>?_) (λσ' H4 pv=>?_)
 ·obtain⟨x3,bs,ss,rfl,d4,FZ,sa,ls,sx⟩:=(Ae _ _ _).mp pv
  walk_at "r"
  refine⟨.inl ⟨rfl,_,cz FZ⟩,bx hd d4 (by omega) (by omega) λc H5 c0 c1 d5 k5=>?_⟩
  have CJ:H5 F=some (.lst (List.map V.ref bs)):=by rw[k5 F Ie];exact FZ
  have Mz:=d4.cA hd
  have HJ:=d5.cA hd
  have Jp:bF H5 bs ss:=sa.mono λb xs e=>by rw[k5 b (Mz.uW e)];exact e
  refine⟨h,rfl,HJ,λp S H6 d6 V6 Tr sS=>?_⟩
  have Dy:H6 F=some (.lst (List.map V.ref bs)):=d6.keep _ _ Ie CJ
  have Ec:=Jp.mono (d6.tups HJ)
  have lb:=sa.1
  refine⟨F,c,.ref p,rfl,rfl,_,Dy,c0,by rw[bB];omega,by rw[bB];omega,(Ae _ _ _).mpr ⟨_,bs.take c.toNat++p::bs.drop c.toNat,ss.take c.toNat++S::ss.drop c.toNat,rfl,(d5.trans d6).put M9,?_,(Ec.put Tr c.toNat).mono (sA Dy),?_,λS' Uc=>?_⟩⟩
  ·rw[aq,dw,gE,pB,rO]
  ·rw[ft,mn,dP,gH];omega
  ·rcases dm.mp Uc with h1 | h1
   ·exact sx S' (pG h1)
   ·rcases fH.mp h1 with rfl | h1
    ·exact sS
    ·exact sx S' (pF h1)
 obtain⟨x3,bs,ss,rfl,d4,FZ,sa,ls,sx⟩:=(Ae _ _ _).mp pv
 clear Ae
 have lb:=sa.1
 have Mz:=d4.cA hd
 obtain⟨N,hN⟩:∃N:St->Hp->Prop,∀σ' H',N σ' H'↔∃(bs:List Addr) (ss:List (List Int)),σ'=[some (.ref a),some (.ref h),some (.ref F),x3,none,none,none,none,none,none,none]/\Dr h H1 H'/\H' F=some (.lst (List.map V.ref bs))/\bF H' bs ss/\ss.length<=6/\∀S∈ss,Sx S:=⟨_,λ_ _=>fc⟩
 repeat (first | walk_at "rl" | simp only[FZ])
 unfold yH
 refine⟨N,?_,λσ' H5 hn=>?_⟩
 ·repeat (first | walk_at "rl" | simp only[FZ])
  refine d0 (λh1=>?_) λ_=>(hN _ _).mpr ⟨bs,ss,rfl,d4,FZ,sa,by omega,sx⟩
  refine bx hd d4 (by decide) (by decide) λc H5 c0 c1 d5 k5=>?_
  have CJ:H5 F=some (.lst (List.map V.ref bs)):=by rw[k5 F Ie];exact FZ
  have Jp:bF H5 bs ss:=sa.mono λb xs e=>by rw[k5 b (Mz.uW e)];exact e
  refine⟨rfl,d0 (λ_=>?_) λ_=>(hN _ _).mpr ⟨bs,ss,rfl,d5,CJ,Jp,by omega,sx⟩⟩
  repeat (first | walk_at "rl" | simp only[CJ])
  have HJ:=d5.cA hd
  refine⟨.inl ⟨rfl,_,cz CJ⟩,bx hd d5 (by omega) (by omega) λj H6 j0 j1 d6 k6=>⟨j,rfl,?_⟩⟩
  have Dy:H6 F=some (.lst (List.map V.ref bs)):=by rw[k6 F Ie];exact CJ
  have Ec:bF H6 bs ss:=Jp.mono λb xs e=>by rw[k6 b (HJ.uW e)];exact e
  have hj:j.toNat<bs.length:=by omega
  have P4:j.toNat<ss.length:=by omega
  refine⟨_,Dy,.ref bs[j.toNat],?_,_,Dy,by rw[bB];exact bO (by omega),(hN _ _).mpr ⟨bs++[bs[j.toNat]],ss++[ss[j.toNat]],rfl,d6.put M9,by rw[aq,dw];rfl,(Ec.snoc (Ec.2 j.toNat _ _ (cT hj) (cT P4))).mono (sA Dy),by rw[ft,rR];omega,λS hS=>?_⟩⟩
  ·have:=cB (xs:=List.map V.ref bs) (j:=j.toNat) (v:=.ref bs[j.toNat]) (by rw[dR,cT hj];rfl)
   rw[Int.toNat_of_nonneg j0]at this
   exact this
  ·rcases dm.mp hS with h1 | h1
   ·exact sx S h1
   ·rw[dE.mp h1];exact sx _ (vt P4)
 obtain⟨bs,ss,rfl,d5,CJ,sa,ls,sx⟩:=(hN _ _).mp hn
 clear hN
 have lb:=sa.1
 have HJ:=d5.cA hd
 repeat (first | walk_at "rl" | simp only[CJ])
 intro L hL
 have tL:=aB hL (.lst (List.map V.ref bs))
 have JH:=aq (H:=H5) (a:=L) (o:=.lst (List.map V.ref bs))
 generalize upd H5 L (.lst (List.map V.ref bs))=H6 at tL JH ⊢
 have Dy:=tL _ _ CJ
 have Ec:=sa.mono (fi tL)
 have Eg:∀S∈ss,S.length<=100/\∀z∈S,z.natAbs<10 ^ 100:=λS hS=>by
  have x:=sx S hS
  have:=x.len
  refine⟨by omega,λz hz=>?_⟩
  have:=x.mem z hz
  exact j9 (show z.natAbs<10 ^ 60 by omega) (by decide +kernel)
 repeat (first | walk_at "rl" | simp only[JH])
 refine⟨L,rfl,bs,ss,JH,Ec,by omega,Eg,λH7 t7=>?_⟩
 have M8:=t7 _ _ Dy
 have Ug:=t7 _ _ JH
 have O2:=Ec.mono (fi t7)
 walk_at "r"
 refine⟨⟨_,cz M8⟩,?_⟩
 refine oS (zs:=List.map V.ref bs) (λj=>ss[j]?.map λs=>V.str (cD s)) (λ_=>yk) (λ_ _ _ _ _ _ r=>r) (λ_ _ _ _ _ _ _ r=>r) M8 (by rw[bB,lb];omega) (λDD c H4 j z yes no hj s4 JL JK kM Jz=>?_) (λD H8 vs t8 hD Uj rl=>?_)
 ·obtain⟨b,eb,rfl⟩:=uU hj
  have P1:j<bs.length:=(fK.mp eb).1
  have es:ss[j]?=some (ss[j]'(by omega)):=cT _
  have MK:=s4 _ _ (O2.2 j b _ eb es)
  rw[es]at kM
  have hm:=Eg _ (gJ es)
  walk_at "rc"
  walk_at "r"
  exact⟨b,rfl,_,MK,hm.1,hm.2,λH5 s5=>kM _ rfl _ _ s5 rfl⟩
 have ev:=kl rl
 rw[bB,lb,oK (l:=ss) (g:=λs=>V.str (cD s)) λk hk=>by rw[cT hk];rfl]at ev
 subst ev
 have M7:=t8 _ _ M8
 have Ue:=t8 _ _ Ug
 have Km:=O2.mono (fi t8)
 refine⟨D,rfl,ss.map cD,by rw[Uj,nA];rfl,zP (by omega) Eg,?_⟩
 rw[decide_eq_true rfl,aK (by decide)]
 refine⟨L,F,rfl,rfl,bs,bs,ss,ss,Ue,M7,Km,Km,?_⟩
 rw[aU rfl,decide_eq_true rfl]
 refine⟨false,rfl,?_⟩
 rw[aK (by decide)]
 repeat (first | walk_at "rl" | simp only[M7])
 refine⟨by decide,λp0 Um=>⟨by decide,λp1 h1=>?_⟩⟩
 have u0:=aB Um (.tup [])
 have e0:=aq (H:=H8) (a:=p0) (o:=.tup [])
 generalize upd H8 p0 (.tup [])=H9 at u0 e0 h1 ⊢
 have u1:=aB h1 (.tup [V.int 0])
 have e1:=aq (H:=H9) (a:=p1) (o:=.tup [V.int 0])
 generalize upd H9 p1 (.tup [V.int 0])=Gs at u1 e1 ⊢
 refine⟨by decide,λp2 h2=>?_⟩
 have u2:=aB h2 (.lst [V.ref p0,V.ref p1])
 generalize upd Gs p2 (.lst [V.ref p0,V.ref p1])=J2 at u2 ⊢
 refine⟨_,u2 _ _ (u1 _ _ (u0 _ _ M7)),by rw[bB];exact nB (bO (by omega)),λM hM=>?_⟩
 have Ee:bF J2 (bs++[p0,p1]) (ss++[[],[0]]):=by
  have x:=((Km.mono (fi ((u0.trans u1).trans u2))).snoc (b:=p0) (t:=[]) (u2 _ _ (u1 _ _ e0))).snoc (b:=p1) (t:=[0]) (u2 _ _ e1)
  rw[um,um]at x
  exact x
 have eb:List.map V.ref bs++[V.ref p0,V.ref p1]=List.map V.ref (bs++[p0,p1]):=by rw[dw];rfl
 have sx:∀S∈ss++[[],[0]],Sx S:=λS hS=>by
  rcases dm.mp hS with hS | hS
  ·exact sx S hS
  ·have:S=[]\/S=[0]:=by simpa using hS
   rcases this with rfl | rfl
   ·exact⟨by decide,.nil,by simp⟩
   ·exact⟨by decide,by simp[gS],by simp⟩
 have S0:(ss++[[],[0]]).length<=8:=by rw[ft];show ss.length+2<=8;omega
 rw[eb]
 generalize bs++[p0,p1]=bs at Ee ⊢
 generalize ss++[[],[0]]=ss at Ee sx S0 ⊢
 have uM:=aB hM (.lst (List.map V.ref bs))
 have FW:=aq (H:=J2) (a:=M) (o:=.lst (List.map V.ref bs))
 have Qu:Dr h H1 (upd J2 M (.lst (List.map V.ref bs))):=d5.same (((((tL.trans t7).trans t8).trans u0).trans u1).trans (u2.trans uM))
 have Qe:M≠h:=(d5.same (((((tL.trans t7).trans t8).trans u0).trans u1).trans u2)).cA hd |>.ne hM
 have G5:=Ee.mono (fi uM)
 generalize upd J2 M (.lst (List.map V.ref bs))=Wf at uM FW Qu G5 ⊢
 refine⟨⟨_,cz FW⟩,?_⟩
 obtain⟨Pw,GJ⟩:∃Pw:Nat->St->Hp->Prop,∀i σ' H',Pw i σ' H'↔∃(x5 x6 x7 x8:Option V),σ'=[some (.ref a),some (.ref h),some (.ref F),x3,some (.ref L),x5,x6,x7,x8,none,none]/\Dr h H1 H'/\H' M=some (.lst (List.map V.ref bs))/\bF H' bs ss:=⟨_,λ_ _ _=>fc⟩
 refine tP (xs:=List.map V.ref bs) Pw ((GJ _ _ _).mpr ⟨none,none,none,none,rfl,Qu,FW,G5⟩) (λi σ' H' _ pv=>?_) (λi v σ' Ou ev pv=>?_) (λσ' Ou pv=>?_)
 ·obtain⟨x5,x6,x7,x8,rfl,_,Ud,_⟩:=(GJ _ _ _).mp pv
  exact Ud
 ·obtain⟨x5,x6,x7,x8,rfl,Ip,Ic,Bb⟩:=(GJ _ _ _).mp pv
  obtain⟨b,eb,rfl⟩:=uU ev
  have P1:i<bs.length:=(fK.mp eb).1
  have lb:=Bb.1
  have es:ss[i]?=some (ss[i]'(by omega)):=cT _
  have FQ:=Bb.2 i b _ eb es
  have sS:=sx _ (gJ es)
  generalize ss[i]'(by omega)=S at FQ sS
  have T3:=Ip.cA hd
  have Ci:∀z∈S,z.natAbs<10 ^ 100:=λz hz=>by
   have:=sS.mem z hz
   exact j9 (show z.natAbs<10 ^ 60 by omega) (by decide +kernel)
  have l8:=sS.len
  have sy:=sS.sy
  walk_at "r"
  refine⟨b,rfl,S,FQ,by omega,Ci,λOt O0=>?_⟩
  have HY:=O0 _ _ FQ
  walk_at "r"
  refine⟨b,rfl,S,HY,by omega,Ci,λOq OJ=>?_⟩
  have HX:=OJ _ _ HY
  refine⟨_,rfl,?_⟩
  rw[decide_eq_true rfl,aK (by decide)]
  walk_at "r"
  refine⟨b,rfl,S,HX,by omega,Ci,λOo OD=>?_⟩
  have MP:=OD _ _ HX
  have PK:=yU sy.mem sy.rise
  have S1:(cD S).length<=800:=by
   obtain⟨us,e,_,_,l,_⟩:=nW sy
   rw[e]
   have:=join_le us
   omega
  walk_at "r"
  refine⟨_,rfl,.inl ⟨_,rfl,S1,λVG Oz=>⟨λns q' Jy PX=>?_,λno=>absurd PK (no S)⟩⟩⟩
  obtain rfl:=Ba Jy PK
  have MN:=Oz _ _ MP
  walk_at "r"
  refine⟨q',rfl,ns,PX,by omega,sy.rise,λGr J9=>?_⟩
  have FP:=J9 _ _ MN
  have Mh:=J9 _ _ PX
  refine⟨true,rfl,?_⟩
  rw[aK (by decide)]
  refine⟨q',b,rfl,rfl,ns,ns,Mh,FP,?_⟩
  rw[aU rfl,decide_eq_true rfl]
  refine⟨false,rfl,?_⟩
  rw[aK (by decide)]
  have tt:=(((O0.trans OJ).trans OD).trans Oz).trans J9
  have NQ:=Ip.same tt
  have FH:=NQ.cA hd
  have M6:=tt _ _ Ic
  have Ko:=Bb.mono (fi tt)
  refine⟨h,b,rfl,ns,FH,FP,sy,λu VF JW lu no=>?_⟩
  refine⟨_,rfl,.inl ⟨u,rfl,lu,no⟩,λVD GX=>⟨true,rfl,?_⟩⟩
  rw[aK (by decide)]
  have UW:=(NQ.trans JW).same GX
  have HW:=GX _ _ (JW.tups FH _ _ FP)
  have M5:=GX _ _ (JW.keep _ _ Qe M6)
  have Kn:=(Ko.mono (JW.tups FH)).mono (fi GX)
  walk_at "r"
  refine⟨⟨_,cQ HW⟩,?_⟩
  obtain⟨Pu,Ib⟩:∃Pu:Nat->St->Hp->Prop,∀i σ' H',Pu i σ' H'↔∃(x7 x8:Option V),σ'=[some (.ref a),some (.ref h),some (.ref F),x3,some (.ref L),some (.ref b),some (.ref q'),x7,x8,none,none]/\Dr h H1 H'/\H' M=some (.lst (List.map V.ref bs))/\bF H' bs ss/\H' b=some (.tup (List.map V.int ns)):=⟨_,λ_ _ _=>fc⟩
  refine vb (xs:=List.map V.int ns) Pu ((Ib _ _ _).mpr ⟨x7,x8,rfl,UW,M5,Kn,HW⟩) (λi σ' H' _ pv=>?_) (λi v σ' Rg ev pv=>?_) (λσ' Rg pv=>?_)
  ·obtain⟨x7,x8,rfl,_,_,_,T6⟩:=(Ib _ _ _).mp pv
   exact T6
  ·obtain⟨x7,x8,rfl,JV,FV,Ed,HS⟩:=(Ib _ _ _).mp pv
   obtain⟨z,ez,rfl⟩:=int_at ev
   have hz:=sS.mem z (gJ ez)
   have nz:=jP (z:=z) (by omega) (by omega)
   have TY:=JV.cA hd
   walk_at "r"
   refine⟨jR (Ci z (gJ ez)),.inl ⟨aR z,rfl,nB (bO (by have:=nz.1.2.1;omega)),λJ1 Oy=>⟨λ_ n en=>?_,λno=>absurd nz.1 no⟩⟩⟩
   obtain rfl:n=z:=by
    have:=en.symm.trans nz.2
    exact dU this
   walk_at "r"
   refine⟨n,rfl,true,rfl,?_⟩
   rw[aK (by decide),aK (by decide)]
   walk_at "r"
   refine⟨by decide,λp3 h3=>?_⟩
   have Ox:=aB h3 (.tup [V.int n,V.int (n+1)])
   have Qo:=aq (H:=J1) (a:=p3) (o:=.tup [V.int n,V.int (n+1)])
   generalize upd J1 p3 (.tup [V.int n,V.int (n+1)])=Wd at Ox Qo ⊢
   have tt:=Oy.trans Ox
   have Qq:=JV.same tt
   have FG:=Qq.cA hd
   have Ro:Sy [n,n+1]:=⟨by show 2<=8;decide,by simp[gS];omega,λz hz=>by
    have:z=n\/z=n+1:=by simpa using hz
    omega⟩
   refine⟨h,p3,rfl,[n,n+1],FG,Qo,Ro,λu Wc JT lu no=>?_⟩
   refine⟨_,rfl,.inl ⟨u,rfl,lu,zD no⟩,λWb Jm=>⟨true,rfl,?_⟩⟩
   rw[aK (by decide)]
   exact(Ib _ _ _).mpr ⟨_,_,rfl,(Qq.trans JT).same Jm,Jm _ _ (JT.keep _ _ Qe (tt _ _ FV)),((Ed.mono (fi tt)).mono (JT.tups FG)).mono (fi Jm),Jm _ _ (JT.tups FG _ _ (tt _ _ HS))⟩
  ·obtain⟨x7,x8,rfl,JV,FV,Ed,HS⟩:=(Ib _ _ _).mp pv
   exact(GJ _ _ _).mpr ⟨_,_,_,_,rfl,JV,FV,Ed⟩
 obtain⟨x5,x6,x7,x8,rfl,Ip,Ic,Bb⟩:=(GJ _ _ _).mp pv
 clear GJ
 walk_at "r"
 refine⟨by decide,λp1 h1=>⟨by decide,λp2 h2 p3 h3=>⟨by decide,λp4 h4=>?_⟩⟩⟩
 have t1:=aB h1 (.lst [V.str (Str.ofString "1")])
 have e1:=aq (H:=Ou) (a:=p1) (o:=.lst [V.str (Str.ofString "1")])
 have ne1:=(Ip.cA hd).ne h1
 generalize upd Ou p1 (.lst [V.str (Str.ofString "1")])=Ot at t1 e1 h2 h3 h4 ⊢
 have Qt:=Ip.same t1
 have t2:=aB h2 (.tup [V.str (Str.ofString "1")])
 have e2:=aq (H:=Ot) (a:=p2) (o:=.tup [V.str (Str.ofString "1")])
 have ne2:=(Qt.cA hd).ne h2
 generalize upd Ot p2 (.tup [V.str (Str.ofString "1")])=Oq at t2 e2 h3 h4 ⊢
 have Qs:=Qt.same t2
 have t3:=aB h3 (.dK [])
 have e3:=aq (H:=Oq) (a:=p3) (o:=.dK [])
 have ne3:=(Qs.cA hd).ne h3
 generalize upd Oq p3 (.dK [])=Oo at t3 e3 h4 ⊢
 have Qr:=Qs.same t3
 have t4:=aB h4 (.lst [V.str (Str.ofString ""),V.str (Str.ofString "+"),V.str (Str.ofString "--"),V.str (Str.ofString "-1"),V.str (Str.ofString "1+-"),V.str (Str.ofString "- "),V.non,V.int 7,V.bl true,V.ref p1,V.ref p2,V.ref p3])
 have e4:=aq (H:=Oo) (a:=p4) (o:=.lst [V.str (Str.ofString ""),V.str (Str.ofString "+"),V.str (Str.ofString "--"),V.str (Str.ofString "-1"),V.str (Str.ofString "1+-"),V.str (Str.ofString "- "),V.non,V.int 7,V.bl true,V.ref p1,V.ref p2,V.ref p3])
 have ne4:=(Qr.cA hd).ne h4
 generalize upd Oo p4 (.lst [V.str (Str.ofString ""),V.str (Str.ofString "+"),V.str (Str.ofString "--"),V.str (Str.ofString "-1"),V.str (Str.ofString "1+-"),V.str (Str.ofString "- "),V.non,V.int 7,V.bl true,V.ref p1,V.ref p2,V.ref p3])=VG at t4 e4 ⊢
 have U0:=Qr.same t4
 walk_at "r"
 refine bx hd U0 (by decide) (by decide) λi Gr i0 i1 NQ Fs=>⟨i,rfl,?_⟩
 have Us:Gr p4=some (.lst [V.str (Str.ofString ""),V.str (Str.ofString "+"),V.str (Str.ofString "--"),V.str (Str.ofString "-1"),V.str (Str.ofString "1+-"),V.str (Str.ofString "- "),V.non,V.int 7,V.bl true,V.ref p1,V.ref p2,V.ref p3]):=by rw[Fs p4 ne4];exact e4
 have g1:Gr p1=some (.lst [V.str (Str.ofString "1")]):=by rw[Fs p1 ne1];exact t4 _ _ (t3 _ _ (t2 _ _ e1))
 have g2:Gr p2=some (.tup [V.str (Str.ofString "1")]):=by rw[Fs p2 ne2];exact t4 _ _ (t3 _ _ e2)
 have g3:Gr p3=some (.dK []):=by rw[Fs p3 ne3];exact t4 _ _ e3
 have sg:∀z:Str,45∈z.cps.toList->z.length<=800->z.length≠1->∃y:Str,V.str z=.str y/\y.length<=800/\∀ns,¬fG y ns:=λz Uk lz l1=>⟨z,rfl,lz,mE Uk (by decide) (by decide) l1⟩
 obtain⟨v,ev,kd⟩:∃v,lZ [V.str (Str.ofString ""),V.str (Str.ofString "+"),V.str (Str.ofString "--"),V.str (Str.ofString "-1"),V.str (Str.ofString "1+-"),V.str (Str.ofString "- "),V.non,V.int 7,V.bl true,V.ref p1,V.ref p2,V.ref p3] i=some v/\((∃y:Str,v=.str y/\y.length<=800/\∀ns,¬fG y ns)\/∀H',bA Gr H'->∃ty,gR K H' v ty/\PySem.W.kitOne K ty (.type "str")=some false):=by
  have hi:i=0\/i=1\/i=2\/i=3\/i=4\/i=5\/i=6\/i=7\/i=8\/i=9\/i=10\/i=11:=by omega
  have em:¬isNum (Str.ofString ""):=oN (by decide +kernel)
  have Im:43∉(Str.ofString "").cps.toList:=by decide +kernel
  rcases hi with rfl | rfl | rfl | rfl | rfl | rfl | rfl | rfl | rfl | rfl | rfl | rfl
  ·refine⟨_,rfl,.inl ⟨_,rfl,by decide +kernel,?_⟩⟩
   rw[<-join_one (Str.ofString "")]
   exact bT (λw hw=>by rw[dE.mp hw];exact Im) (by decide +kernel) (w:=Str.ofString "") (by simp) em
  ·refine⟨_,rfl,.inl ⟨_,rfl,by decide +kernel,?_⟩⟩
   have e:Str.ofString "+" = Txt.join gD [Str.ofString "",Str.ofString ""]:=by rw[tu,rH,wo];rfl
   rw[e]
   exact bT (λw hw=>by
    have:w=Str.ofString "":=by simpa using hw
    rw[this];exact Im) (lD (cg 2)) (w:=Str.ofString "") (by simp) em
  ·exact⟨_,rfl,.inl (sg _ (by decide +kernel) (by decide +kernel) (by decide +kernel))⟩
  ·exact⟨_,rfl,.inl (sg _ (by decide +kernel) (by decide +kernel) (by decide +kernel))⟩
  ·exact⟨_,rfl,.inl (sg _ (by decide +kernel) (by decide +kernel) (by decide +kernel))⟩
  ·exact⟨_,rfl,.inl (sg _ (by decide +kernel) (by decide +kernel) (by decide +kernel))⟩
  ·exact⟨_,rfl,.inr λH' k=>⟨_,.non,iK (by decide) rfl⟩⟩
  ·exact⟨_,rfl,.inr λH' k=>⟨_,.int _,iK (by decide) rfl⟩⟩
  ·exact⟨_,rfl,.inr λH' k=>⟨_,.bl _,iK (by decide) rfl⟩⟩
  ·exact⟨_,rfl,.inr λH' k=>⟨_,.lst (k _ _ g1),iK (by decide) rfl⟩⟩
  ·exact⟨_,rfl,.inr λH' k=>⟨_,.tup (k _ _ g2),iK (by decide) rfl⟩⟩
  ·exact⟨_,rfl,.inr λH' k=>⟨_,.dK (k _ _ g3),iK (by decide) rfl⟩⟩
 refine⟨_,Us,v,ev,?_⟩
 walk_at "r"
 have SF:¬isNum (Str.ofString "1+2"):=λz=>dJ z (by decide +kernel)
 have ks:∀H',bA Gr H'->(∃y:Str,v=.str y/\y.length<=800/\∀ns,¬fG y ns)\/∃ty,gR K H' v ty/\PySem.W.kitOne K ty (.type "str")=some false:=λH' k=>kd.imp id λx=>x H' k
 refine⟨v,rfl,ks _ (bA.refl _),λVF Rn=>⟨true,rfl,?_⟩⟩
 rw[aU rfl]
 refine⟨v,rfl,(ks _ Rn).imp (λ⟨y,e,l,no⟩=>⟨y,e,l,zD no⟩) id,λVD GX=>⟨true,rfl,?_⟩⟩
 rw[aU rfl]
 refine⟨_,rfl,.inl ⟨_,rfl,by decide +kernel,rA⟩,λRg VL=>⟨true,rfl,?_⟩⟩
 rw[aU rfl]
 exact⟨_,rfl,.inl ⟨_,rfl,by decide +kernel,SF⟩,λJ1 Oy=>q J1⟩
local macro_rules | `(tactic| walk_at "rd") => `(tactic| walk_at "rc")
local macro_rules | `(tactic| walk_at "rl") => `(tactic| first | (refine eS fun R hR => ?_) | walk_at "ry" | (refine Nx.to (by assumption) _ _ ?_))
theorem all_mk{l:PySem.W.OpenLaw}{w:World}{K:PySem.W.Frag}{h:Heap}{mg:Str->Option Value}{fa f0 f1 f2 f3 f4 f5 f6 f7 f8 f9 Nr Nq Np Nn Nm Nk Nj Ni Nh Ng:Addr}(X:K.In h)(G:h.Ns mainGlobals mg)(hfa:mg "law" = some (.ref fa))
  {Sf Vy Se Vx Sd Vw Sb Vv R' Vu R9 Vt R8 Vs R7 Vr R6 Vq R5 Vp K7 Oe K6 Od K5 Oc K4 Ob K3 Oa K1 N9 K0 N8 KZ N7 KY N6 KS Ja:Option Addr} {Ry Rx yT Ka Rw Rv Ru Rt Rr Rq Kk Kj Ki Kh Kg Kf Ke Kd Kc Kb:Array (Option Value)} {Sv Td UT RW QH Vb Ss Tc UL RV QG Va Sr Tb UJ RT QF U9 Sq Ta UG RQ QD U8 Sn S9 Uz RP QC U7 Sl S8 Uy RN QB U6 Sj S7 Ux RM Qz U5 Si S6 Uw RL Qy U4 Sh S5 Uv RK Qx U3 Sg S4 Uu RJ Qw U1 Lh L0 NP KQ IW N4 Lg LW NK KN IV N3 Lf LR NC KJ IK N2 Le LQ NB KH Iz N1 Ld LK Nz KD Iy N0 Lc LC Ny KC Iw NZ Lb Lz Nw Kz Iv NX La Ly Nv Ky Iu NT K9 Lx Nu Kx Ir NR K8 Hs Io He Gg Iq:Value}
  (a0:PySem.W.nsIn K mainGlobals "is_whole_number" = some (some (.ref f0))) (l0:K.lookup f0=some ⟨Sv,Sf,.func (PySem.W.fnOf "is_whole_number" "is_whole_number" (bj bD) (aV bD) (aj bD) .none Td UT RW Vy QH Vb),Ry⟩) (c0:PySem.W.codeIn K QH "is_whole_number" = true) (k0:PySem.W.keepIn K (.ref f0)=true)
  (a1:PySem.W.nsIn K mainGlobals "is_set" = some (some (.ref f1))) (l1:K.lookup f1=some ⟨Ss,Se,.func (PySem.W.fnOf "is_set" "is_set" (bj gL) (aV gL) (aj gL) .none Tc UL RV Vx QG Va),Rx⟩) (c1:PySem.W.codeIn K QG "is_set" = true) (k1:PySem.W.keepIn K (.ref f1)=true)
  (a2:PySem.W.nsIn K mainGlobals "show_set" = some (some (.ref f2))) (l2:K.lookup f2=some ⟨Sr,Sd,.func (PySem.W.fnOf "show_set" "show_set" (bj dW) (aV dW) (aj dW) .none Tb UJ RT Vw QF U9),yT⟩) (c2:PySem.W.codeIn K QF "show_set" = true) (k2:PySem.W.keepIn K (.ref f2)=true)
  (a3:PySem.W.nsIn K mainGlobals "show_family" = some (some (.ref f3))) (l3:K.lookup f3=some ⟨Sq,Sb,.func (PySem.W.fnOf "show_family" "show_family" (bj cJ) (aV cJ) (aj cJ) .none Ta UG RQ Vv QD U8),Ka⟩) (c3:PySem.W.codeIn K QD "show_family" = true) (k3:PySem.W.keepIn K (.ref f3)=true)
  (a4:PySem.W.nsIn K mainGlobals "read_set" = some (some (.ref f4))) (l4:K.lookup f4=some ⟨Sn,R',.func (PySem.W.fnOf "read_set" "read_set" (bj dX) (aV dX) (aj dX) .none S9 Uz RP Vu QC U7),Rw⟩) (c4:PySem.W.codeIn K QC "read_set" = true) (k4:PySem.W.keepIn K (.ref f4)=true)
  (a5:PySem.W.nsIn K mainGlobals "read_number" = some (some (.ref f5))) (l5:K.lookup f5=some ⟨Sl,R9,.func (PySem.W.fnOf "read_number" "read_number" (bj cK) (aV cK) (aj cK) .none S8 Uy RN Vt QB U6),Rv⟩) (c5:PySem.W.codeIn K QB "read_number" = true) (k5:PySem.W.keepIn K (.ref f5)=true)
  (a6:PySem.W.nsIn K mainGlobals "_law_hand" = some (some (.ref f6))) (l6:K.lookup f6=some ⟨Sj,R8,.func (PySem.W.fnOf "_law_hand" "_law_hand" (bj dB) (aV dB) (aj dB) .none S7 Ux RM Vs Qz U5),Ru⟩) (c6:PySem.W.codeIn K Qz "_law_hand" = true) (k6:PySem.W.keepIn K (.ref f6)=true)
  (a7:PySem.W.nsIn K mainGlobals "_law_next" = some (some (.ref f7))) (l7:K.lookup f7=some ⟨Si,R7,.func (PySem.W.fnOf "_law_next" "_law_next" (bj dA) (aV dA) (aj dA) .none S6 Uw RL Vr Qy U4),Rt⟩) (c7:PySem.W.codeIn K Qy "_law_next" = true) (k7:PySem.W.keepIn K (.ref f7)=true)
  (a8:PySem.W.nsIn K mainGlobals "_law_take" = some (some (.ref f8))) (l8:K.lookup f8=some ⟨Sh,R6,.func (PySem.W.fnOf "_law_take" "_law_take" (bj dz) (aV dz) (aj dz) .none S5 Uv RK Vq Qx U3),Rr⟩) (c8:PySem.W.codeIn K Qx "_law_take" = true) (k8:PySem.W.keepIn K (.ref f8)=true)
  (a9:PySem.W.nsIn K mainGlobals "_law_draw" = some (some (.ref f9))) (l9:K.lookup f9=some ⟨Sg,R5,.func (PySem.W.fnOf "_law_draw" "_law_draw" (bj dC) (aV dC) (aj dC) .none S4 Uu RJ Vp Qw U1),Rq⟩) (c9:PySem.W.codeIn K Qw "_law_draw" = true) (k9:PySem.W.keepIn K (.ref f9)=true)
  (Rb:PySem.W.nsIn K mainGlobals "_law_is_whole" = some (some (.ref Nr))) (l10:K.lookup Nr=some ⟨Lh,K7,.func (PySem.W.fnOf "_law_is_whole" "_law_is_whole" (bj bQ) (aV bQ) (aj bQ) .none L0 NP KQ Oe IW N4),Kk⟩) (QW:PySem.W.codeIn K IW "_law_is_whole" = true) (PB:PySem.W.keepIn K (.ref Nr)=true)
  (Ra:PySem.W.nsIn K mainGlobals "_law_is_set" = some (some (.ref Nq))) (Gx:K.lookup Nq=some ⟨Lg,K6,.func (PySem.W.fnOf "_law_is_set" "_law_is_set" (bj cO) (aV cO) (aj cO) .none LW NK KN Od IV N3),Kj⟩) (QV:PySem.W.codeIn K IV "_law_is_set" = true) (Pz:PySem.W.keepIn K (.ref Nq)=true)
  (Q9:PySem.W.nsIn K mainGlobals "_law_set_text" = some (some (.ref Np))) (Pm:K.lookup Np=some ⟨Lf,K5,.func (PySem.W.fnOf "_law_set_text" "_law_set_text" (bj bP) (aV bP) (aj bP) .none LR NC KJ Oc IK N2),Ki⟩) (QT:PySem.W.codeIn K IK "_law_set_text" = true) (Py:PySem.W.keepIn K (.ref Np)=true)
  (Q8:PySem.W.nsIn K mainGlobals "_law_text" = some (some (.ref Nn))) (Pl:K.lookup Nn=some ⟨Le,K4,.func (PySem.W.fnOf "_law_text" "_law_text" (bj dy) (aV dy) (aj dy) .none LQ NB KH Ob Iz N1),Kh⟩) (QS:PySem.W.codeIn K Iz "_law_text" = true) (Px:PySem.W.keepIn K (.ref Nn)=true)
  (Q7:PySem.W.nsIn K mainGlobals "_law_drawn_set" = some (some (.ref Nm))) (Pk:K.lookup Nm=some ⟨Ld,K3,.func (PySem.W.fnOf "_law_drawn_set" "_law_drawn_set" (bj bH) (aV bH) (aj bH) .none LK Nz KD Oa Iy N0),Kg⟩) (QR:PySem.W.codeIn K Iy "_law_drawn_set" = true) (Pt:PySem.W.keepIn K (.ref Nm)=true)
  (Q6:PySem.W.nsIn K mainGlobals "_law_spoilt_behind" = some (some (.ref Nk))) (Pj:K.lookup Nk=some ⟨Lc,K1,.func (PySem.W.fnOf "_law_spoilt_behind" "_law_spoilt_behind" (bj bq) (aV bq) (aj bq) .none LC Ny KC N9 Iw NZ),Kf⟩) (QM:PySem.W.codeIn K Iw "_law_spoilt_behind" = true) (Pr:PySem.W.keepIn K (.ref Nk)=true)
  (Q5:PySem.W.nsIn K mainGlobals "_law_spoilt" = some (some (.ref Nj))) (Ph:K.lookup Nj=some ⟨Lb,K0,.func (PySem.W.fnOf "_law_spoilt" "_law_spoilt" (bj cL) (aV cL) (aj cL) .none Lz Nw Kz N8 Iv NX),Ke⟩) (c16:PySem.W.codeIn K Iv "_law_spoilt" = true) (Pq:PySem.W.keepIn K (.ref Nj)=true)
  (Q0:PySem.W.nsIn K mainGlobals "_law_no_set" = some (some (.ref Ni))) (Pg:K.lookup Ni=some ⟨La,KZ,.func (PySem.W.fnOf "_law_no_set" "_law_no_set" (bj cM) (aV cM) (aj cM) .none Ly Nv Ky N7 Iu NT),Kd⟩) (QL:PySem.W.codeIn K Iu "_law_no_set" = true) (Pp:PySem.W.keepIn K (.ref Ni)=true)
  (QZ:PySem.W.nsIn K mainGlobals "_law_no_number" = some (some (.ref Nh))) (Pb:K.lookup Nh=some ⟨K9,KY,.func (PySem.W.fnOf "_law_no_number" "_law_no_number" (bj bG) (aV bG) (aj bG) .none Lx Nu Kx N6 Ir NR),Kc⟩) (QK:PySem.W.codeIn K Ir "_law_no_number" = true) (Fs:PySem.W.keepIn K (.ref Nh)=true)
  (Oh:PySem.W.nsIn K mainGlobals "law" = some (some (.ref Ng))) (Pa:K.lookup Ng=some ⟨K8,KS,.func (PySem.W.fnOf "law" "law" (bj ky) (aV ky) (aj ky) .none Hs Io He Ja Gg Iq),Kb⟩) (QJ:PySem.W.codeIn K Gg "law" = true) (Pn:PySem.W.keepIn K (.ref Ng)=true)
  (dI:PySem.W.nsIn K mainGlobals "ValueError" = some none)
  (vK:PySem.W.nsIn K mainGlobals "abs" = some none)
  (kh:PySem.W.nsIn K mainGlobals "all" = some none)
  (nP:PySem.W.nsIn K mainGlobals "bool" = some none)
  (nO:PySem.W.nsIn K mainGlobals "int" = some none)
  (aF:PySem.W.nsIn K mainGlobals "isinstance" = some none)
  (fN:PySem.W.nsIn K mainGlobals "len" = some none)
  (nM:PySem.W.nsIn K mainGlobals "list" = some none)
  (gY:PySem.W.nsIn K mainGlobals "range" = some none)
  (g7:PySem.W.nsIn K mainGlobals "str" = some none)
  (gX:PySem.W.nsIn K mainGlobals "tuple" = some none)
  {mU:Tok} (cW:PySem.W.nsIn K mainGlobals "MOST_FIGURES" = some (some (.int 60 mU)))
  {o8:Tok} (dM:PySem.W.nsIn K mainGlobals "NO_MEMBERS" = some (some (.str (Str.ofString "-") o8)))
  (JZ:PySem.W.specialIn K (.builtin "object.__class__") "__get__" = some (some (.builtin "getset_descriptor.__get__"))) (JX:PySem.W.takesIn K (.builtin "object.__class__")=some true)
  {aN av bE:Addr}
  (jG:PySem.W.nsIn K mainGlobals "TruceError" = some (some (.ref aN))) (jx:lC K aN=true) (jw:PySem.W.hasDictIn K aN=true) (jv:PySem.W.findIn K (.ref aN) "__setattr__" = some (some (.builtin "object.__setattr__"))) (ju:PySem.W.findIn K (.ref aN) "__getattribute__" = some (some (.builtin "BaseException.__getattribute__"))) (jt:PySem.W.findIn K (.ref aN) "__getattr__" = some none) (js:PySem.W.findIn K (.ref aN) "__class__" = some (some (.builtin "object.__class__"))) (jr:PySem.W.mroIn K aN (.type "object")=some true)
  (qp:PySem.W.nsIn K mainGlobals "NoText" = some (some (.ref av))) (pQ:lC K av=true) (pP:PySem.W.hasDictIn K av=true) (pO:PySem.W.findIn K (.ref av) "__setattr__" = some (some (.builtin "object.__setattr__"))) (pN:PySem.W.findIn K (.ref av) "__getattribute__" = some (some (.builtin "BaseException.__getattribute__"))) (pM:PySem.W.findIn K (.ref av) "__getattr__" = some none) (pL:PySem.W.findIn K (.ref av) "__class__" = some (some (.builtin "object.__class__"))) (pK:PySem.W.mroIn K av (.type "object")=some true)
  (tZ:PySem.W.nsIn K mainGlobals "NoRow" = some (some (.ref bE))) (su:lC K bE=true) (sq:PySem.W.hasDictIn K bE=true) (sm:PySem.W.findIn K (.ref bE) "__setattr__" = some (some (.builtin "object.__setattr__"))) (sj:PySem.W.findIn K (.ref bE) "__getattribute__" = some (some (.builtin "BaseException.__getattribute__"))) (si:PySem.W.findIn K (.ref bE) "__getattr__" = some none) (sf:PySem.W.findIn K (.ref bE) "__class__" = some (some (.builtin "object.__class__"))) (se:PySem.W.mroIn K bE (.type "object")=some true)
  (fY:PySem.W.keepIn K (.ref aN)=true)
  (fZ:PySem.W.findIn K (.ref aN) "__init__" = some (some (.builtin "ValueError.__init__")))
  (cu:PySem.W.keepIn K (.ref av)=true)
  (cv:PySem.W.findIn K (.ref av) "__init__" = some (some (.builtin "ValueError.__init__")))
  (oD:PySem.W.keepIn K (.ref bE)=true)
  (oH:PySem.W.findIn K (.ref bE) "__init__" = some (some (.builtin "ValueError.__init__")))
  (bz:PySem.W.subIn K (.ref av) (.ref aN)=some true)
  (cq:PySem.W.kitOne K (.ref av) (.ref av)=some true)
  (cE:PySem.W.kitOne K (.ref av) (.ref bE)=some false)
  (gN:PySem.W.kitOne K (.ref av) (.type "ValueError")=some true)
  : ∃fd:FuncData,(∀(s:Shared) (v:Value),BindsTo s fd ⟨[v],[]⟩ [("_law_script",v)])/\∀base:Heap,K.In base->base.Ns mainGlobals mg->dc l.prog w K mg base jL 10 fa fd ["_law_script"] (vT K):=by
 have e:=hfa.symm.trans (cy X G Oh)
 cases e
 have F0:=cw (st:=bD) l0 c0 k0
 have b0:=F0.binds (ps:=["thing"]) λ_ _ _ _ _ _=>uf λ_=>rfl
 have F1:=cw (st:=gL) l1 c1 k1
 have b1:=F1.binds (ps:=["thing"]) λ_ _ _ _ _ _=>uf λ_=>rfl
 have F2:=cw (st:=dW) l2 c2 k2
 have b2:=F2.binds (ps:=["part"]) λ_ _ _ _ _ _=>uf λ_=>rfl
 have F3:=cw (st:=cJ) l3 c3 k3
 have b3:=F3.binds (ps:=["family"]) λ_ _ _ _ _ _=>uf λ_=>rfl
 have F4:=cw (st:=dX) l4 c4 k4
 have b4:=F4.binds (ps:=["text"]) λ_ _ _ _ _ _=>uf λ_=>rfl
 have F5:=cw (st:=cK) l5 c5 k5
 have b5:=F5.binds (ps:=["text"]) λ_ _ _ _ _ _=>uf λ_=>rfl
 have F6:=cw (st:=dB) l6 c6 k6
 have b6:=F6.binds (ps:=["_law_script"]) λ_ _ _ _ _ _=>uf λ_=>rfl
 have F7:=cw (st:=dA) l7 c7 k7
 have b7:=F7.binds (ps:=["_law_hand_here"]) λ_ _ _ _ _ _=>uf λ_=>rfl
 have F8:=cw (st:=dz) l8 c8 k8
 have b8:=F8.binds (ps:=["_law_hand_here"]) λ_ _ _ _ _ _=>uf λ_=>rfl
 have F9:=cw (st:=dC) l9 c9 k9
 have b9:=F9.binds (ps:=["_law_hand_here","_law_many"]) λ_ _ _ _ _ _=>of2 λ_ _=>rfl
 have F10:=cw (st:=bQ) l10 QW PB
 have Vn:=F10.binds (ps:=["_law_thing"]) λ_ _ _ _ _ _=>uf λ_=>rfl
 have F11:=cw (st:=cO) Gx QV Pz
 have Vm:=F11.binds (ps:=["_law_thing"]) λ_ _ _ _ _ _=>uf λ_=>rfl
 have F12:=cw (st:=bP) Pm QT Py
 have Vl:=F12.binds (ps:=["_law_part"]) λ_ _ _ _ _ _=>uf λ_=>rfl
 have F13:=cw (st:=dy) Pl QS Px
 have Vk:=F13.binds (ps:=["_law_told","_law_due"]) λ_ _ _ _ _ _=>of2 λ_ _=>rfl
 have F14:=cw (st:=bH) Pk QR Pt
 have Vj:=F14.binds (ps:=["_law_hand_here"]) λ_ _ _ _ _ _=>uf λ_=>rfl
 have F15:=cw (st:=bq) Pj QM Pr
 have Vi:=F15.binds (ps:=["_law_hand_here","_law_part"]) λ_ _ _ _ _ _=>of2 λ_ _=>rfl
 have F16:=cw (st:=cL) Ph c16 Pq
 have Vh:=F16.binds (ps:=["_law_hand_here","_law_part"]) λ_ _ _ _ _ _=>of2 λ_ _=>rfl
 have F17:=cw (st:=cM) Pg QL Pp
 have Vg:=F17.binds (ps:=["_law_thing"]) λ_ _ _ _ _ _=>uf λ_=>rfl
 have F18:=cw (st:=bG) Pb QK Fs
 have Vf:=F18.binds (ps:=["_law_thing"]) λ_ _ _ _ _ _=>uf λ_=>rfl
 have F19:=cw (st:=ky) Pa QJ Pn
 have Ve:=F19.binds (ps:=["_law_script"]) λ_ _ _ _ _ _=>uf λ_=>rfl
 have T:Txt K mg ⟨_,_,_,_,_,_,_,_,_,_,_,_,_,_,_,_,_,_,_,_,_,_,_,_,_,_,_,_,_,_,_,_,_,_,_,_,_,_,_,_,_,_,_,_,_⟩:=⟨F0,b0,cy X G a0,F1,b1,cy X G a1,F2,b2,cy X G a2,F3,b3,cy X G a3,F4,b4,cy X G a4,F5,b5,cy X G a5,F6,b6,cy X G a6,F7,b7,cy X G a7,F8,b8,cy X G a8,F9,b9,cy X G a9,F10,Vn,cy X G Rb,F11,Vm,cy X G Ra,F12,Vl,cy X G Q9,F13,Vk,cy X G Q8,F14,Vj,cy X G Q7,F15,Vi,cy X G Q6,F16,Vh,cy X G Q5,F17,Vg,cy X G Q0,F18,Vf,cy X G QZ,F19,Ve,cy X G Oh,ig X G dI,ig X G vK,ig X G kh,ig X G nP,ig X G nO,ig X G aF,ig X G fN,ig X G nM,ig X G gY,ig X G g7,ig X G gX,cy X G cW,cy X G dM,cy X G jG,⟨jx,jw,jv,ju,jt,js,JZ,JX,jr⟩,fY,fZ,cy X G qp,⟨pQ,pP,pO,pN,pM,pL,JZ,JX,pK⟩,cu,cv,cy X G tZ,⟨su,sq,sm,sj,si,sf,JZ,JX,se⟩,oD,oH,bz,cq,cE,gN⟩
 exact⟨PySem.W.fnOf "law" "law" (bj ky) (aV ky) (aj ky) .none Hs Io He Ja Gg Iq,λs v=>.of_eq rfl,λbase _ _=>Ff (P:=l.prog) (w:=w) (base:=base) T⟩
theorem walk{l:PySem.W.OpenLaw}{q:Program}{loose:List Str}{XP:(Str->Option Value)->Heap->Prop}{YP:World->Heap->Prop}{d:DefRec}{K:Params->PySem.W.Frag}(hn:l.most=some 63)(HF:d.params.defaults=[])
  (hY:∀(w:World) (h:Heap),YP w h->(K w.params).In h)
  (F:∀(w:World) (mg:Str->Option Value) (fa:Addr) (h:Heap),(K w.params).In h->h.Ns mainGlobals mg->mg d.name=some (.ref fa)->
   ∃fd:FuncData,(∀(s:Shared) (u:Value),BindsTo s fd ⟨[u],[]⟩ [("_law_script",u)])/\∀base:Heap,(K w.params).In base->base.Ns mainGlobals mg->dc l.prog w (K w.params) mg base jL 10 fa fd ["_law_script"] (vT (K w.params))) :
  PySem.W.WalkO q loose XP YP l.row.toRowW d [] (λf vs=>PySem.call f vs):=
 L2.Al (n:=63) (k:=10) (x:="_law_script") (CX:=λ_=>jL) (sp:=λw=>vT (K w.params)) hn (by decide) HF ⟨rfl,by decide,by decide⟩ hY F (λ_ _ a ns hl _ hS=>⟨a,ns,rfl,hS,hl,λ_=>rfl⟩) λ_ _ _ _ _ z=>z
end
end My
open PySem PySem.W PyProof.Rows
theorem PySem.Challenge.cw_truceroll_k91_sets_and_numbers_holds : PySem.Challenge.rw_truceroll_k91_sets_and_numbers.Holds := by
 w_on;o_law;k_head;(case hw=>w_witness2)
 k_fill
 refine My.walk (l:=PySem.Challenge.rw_truceroll_k91_sets_and_numbers) rfl rfl (λw h Y=>PySem.W.kIn_of Y) ?F
 case F=>
  intro w mg fa h KX G Hx
  refine' My.all_mk KX G Hx ?a0 ?l0 ?c0 ?k0 ?a1 ?l1 ?c1 ?k1 ?a2 ?l2 ?c2 ?k2 ?a3 ?l3 ?c3 ?k3 ?a4 ?l4 ?c4 ?k4 ?a5 ?l5 ?c5 ?k5 ?a6 ?l6 ?c6 ?k6 ?a7 ?l7 ?c7 ?k7 ?a8 ?l8 ?c8 ?k8 ?a9 ?l9 ?c9 ?k9 ?Rb ?l10 ?QW ?PB ?Ra ?Gx ?QV ?Pz ?Q9 ?Pm ?QT ?Py ?Q8 ?Pl ?QS ?Px ?Q7 ?Pk ?QR ?Pt ?Q6 ?Pj ?QM ?Pr ?Q5 ?Ph ?c16 ?Pq ?Q0 ?Pg ?QL ?Pp ?QZ ?Pb ?QK ?Fs ?Oh ?Pa ?QJ ?Pn ?dI ?vK ?kh ?nP ?nO ?aF ?fN ?nM ?gY ?g7 ?gX ?cW ?dM ?JZ ?JX ?jG ?jx ?jw ?jv ?ju ?jt ?js ?jr ?qp ?pQ ?pP ?pO ?pN ?pM ?pL ?pK ?tZ ?su ?sq ?sm ?sj ?si ?sf ?se ?fY ?fZ ?cu ?cv ?oD ?oH ?bz ?cq ?cE ?gN
  all_goals (first | k_is | rfl | skip)
  all_goals (first | k_is | rfl | skip)
