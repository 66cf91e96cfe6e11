import PyProof.Rows.All
import Wide.All
import OpenK.AllK
import Wide.FinOn
import Lean
import PyProof.EqAt
import PyProof.EqKinds
import PyProof.TupleCall
import PySem.Challenge.RW_truceroll_k57_whole_every_part_settled
set_option Elab.async false
set_option linter.all false
set_option maxRecDepth 100000
set_option maxHeartbeats 0
section
namespace L2
open PySem PySem.Spec PyProof.Rows
abbrev Key:=Sum Int Str
def uI:Key->Value->Bool
 | .inl k,v=>Value.isInt k v
 | .inr x,v=>Value.isStrOf x v
def aBH(w:World):Key->Int
 | .inl k=>hashInt k
 | .inr x=>hashStr w x
theorem cQ:∀{k:Key} {v:Value},uI k v=true->(∃i t,k=Sum.inl i/\v=Value.int i t)\/(∃x t,k=Sum.inr x/\v=Value.str x t)
 | .inl i,v,h=>by
  obtain⟨t,e⟩:=Value.isInt_shape (k:=i) (v:=v) h
  exact .inl ⟨i,t,rfl,e⟩
 | .inr x,v,h=>by
  obtain⟨t,e⟩:=Value.isStrOf_shape (x:=x) (v:=v) h
  exact .inr ⟨x,t,rfl,e⟩
theorem Fj(i:Int)(t:Tok):uI (.inl i) (.int i t)=true:=by simp[uI,Value.isInt]
theorem Fi(x:Str)(t:Tok):uI (.inr x) (.str x t)=true:=by simp[uI,Value.isStrOf]
theorem S'(a b:Int):decide ((Sum.inl a:Key)=Sum.inl b)=(a==b):=by
 by_cases e:a=b
 ·subst e;simp
 ·have h:¬(Sum.inl a:Key)=Sum.inl b:=λq=>e (Sum.inl.inj q)
  rw[decide_eq_false h]
  exact(beq_eq_false_iff_ne.mpr e).symm
theorem S7(a b:Str):decide ((Sum.inr a:Key)=Sum.inr b)=decide (a=b):=by
 by_cases e:a=b
 ·subst e;simp
 ·have h:¬(Sum.inr a:Key)=Sum.inr b:=λq=>e (Sum.inr.inj q)
  rw[decide_eq_false h,decide_eq_false e]
theorem S9(a:Int)(b:Str):decide ((Sum.inl a:Key)=Sum.inr b)=false:=decide_eq_false (λq=>nomatch q)
theorem S8(a:Str)(b:Int):decide ((Sum.inr a:Key)=Sum.inl b)=false:=decide_eq_false (λq=>nomatch q)
def cX(prog:Program)(w:World):PySem.KeyKind prog w Key where
 is:=uI
 hash:=aBH w
 inj:=λv a b ha hb=>by
  rcases cQ ha with ⟨i,t,rfl,rfl⟩ | ⟨x,t,rfl,rfl⟩
  ·rcases cQ hb with ⟨j,u,rfl,e⟩ | ⟨y,u,rfl,e⟩
   ·injection e with e1 _;rw[e1]
   ·exact nomatch e
  ·rcases cQ hb with ⟨j,u,rfl,e⟩ | ⟨y,u,rfl,e⟩
   ·exact nomatch e
   ·injection e with e1 _;rw[e1]
 byValue:=λk v h=>by
  rcases cQ h with ⟨i,t,rfl,rfl⟩ | ⟨x,t,rfl,rfl⟩ <;> rfl
 pyHash:=λhv h=>by
  rcases cQ hv with ⟨i,t,rfl,rfl⟩ | ⟨x,t,rfl,rfl⟩
  ·exact wpAny_pyHash_int h
  ·exact wpAny_pyHash_str h
 eqBool:=λhu hv h=>by
  rcases cQ hu with ⟨i,t,rfl,rfl⟩ | ⟨x,t,rfl,rfl⟩
  ·rcases cQ hv with ⟨j,u,rfl,rfl⟩ | ⟨y,u,rfl,rfl⟩
   ·rw[S']at h;exact wpAny_eqBool_int h
   ·rw[S9]at h;exact SeqAt.EqAt.int_str i t y u _ _ _ _ h
  ·rcases cQ hv with ⟨j,u,rfl,rfl⟩ | ⟨y,u,rfl,rfl⟩
   ·rw[S8]at h;exact SeqAt.EqAt.str_int x t j u _ _ _ _ h
   ·rw[S7]at h;exact wpAny_eqBool_str h
 «strs»:=λk x t v h=>by
  rcases cQ h with ⟨i,u,rfl,e⟩ | ⟨y,u,rfl,e⟩
  ·exact nomatch e
  ·injection e with e1 _
   subst e1
   cases v <;> rfl
theorem xK(prog:Program)(w:World)(i:Int)(t:Tok):(cX prog w).is (.inl i) (.int i t)=true:=Fj i t
theorem xJ(prog:Program)(w:World)(x:Str)(t:Tok):(cX prog w).is (.inr x) (.str x t)=true:=Fi x t
end L2
namespace L2
open PySem PySem.Spec PyProof.Rows
inductive V where
 | non | bl (b:Bool) | int (i:Int) | str (x:Str) | Gv (b:Array UInt8) | T6 (b:UInt64) | ref (a:Addr) | ty (n:String)
 deriving DecidableEq
def RelV:V->Value->Prop
 | .non,u=>u=Value.none
 | .bl b,u=>u=Value.bool b
 | .int i,u=>∃t,u=Value.int i t
 | .str x,u=>∃t,u=Value.str x t
 | .Gv b,u=>∃t,u=Value.bytes b t
 | .T6 b,u=>∃t,u=Value.float b t
 | .ref a,u=>u=Value.ref a
 | .ty n,u=>u=Value.type n
abbrev Vals:List V->List Value->Prop:=Paired RelV
theorem Vals.length{xs:List V}{us:List Value}(r:Vals xs us):xs.length=us.length:=Paired.length r
theorem Vals.get:∀{xs:List V} {us:List Value} {i:Nat} {x:V},Vals xs us->xs[i]?=some x->∃u,us[i]?=some u/\RelV x u
 | _,_,_,_,.nil,e=>by simp at e
 | _,_,0,_,.cons r _,e=>by simp at e;subst e;exact⟨_,rfl,r⟩
 | _,_,i+1,x,.cons _ t,e=>by
  obtain⟨u,h1,h2⟩:=Vals.get (i:=i) (x:=x) t (by simpa using e)
  exact⟨u,by simpa using h1,h2⟩
theorem Vals.set{x:V}{u:Value}(r:RelV x u):∀{xs:List V} {us:List Value} (i:Nat),Vals xs us->Vals (xs.set i x) (us.set i u)
 | _,_,_,.nil=>.nil
 | _,_,0,.cons _ t=>.cons r t
 | _,_,i+1,.cons q t=>.cons q (Vals.set r i t)
theorem Vals.append:∀{xs ys:List V} {us ws:List Value},Vals xs us->Vals ys ws->Vals (xs++ys) (us++ws)
 | _,_,_,_,.nil,s=>s
 | _,_,_,_,.cons r t,s=>.cons r (Vals.append t s)
theorem Vals.take:∀{xs:List V} {us:List Value} (n:Nat),Vals xs us->Vals (xs.take n) (us.take n)
 | _,_,0,_=>.nil
 | _,_,_+1,.nil=>.nil
 | _,_,n+1,.cons r t=>.cons r (Vals.take n t)
theorem Vals.drop:∀{xs:List V} {us:List Value} (n:Nat),Vals xs us->Vals (xs.drop n) (us.drop n)
 | _,_,0,r=>r
 | _,_,_+1,.nil=>.nil
 | _,_,n+1,.cons _ t=>Vals.drop n t
def lG:Option V->Option Value->Prop
 | some v,some u=>RelV v u
 | none,none=>True
 | _,_=>False
def KV{κ:Type}:List (κ×V)->List (κ×Value)->Prop:=Paired λ(p:κ×V) (q:κ×Value)=>p.1=q.1/\RelV p.2 q.2
def kV:Key->V
 | .inl i=>.int i
 | .inr x=>.str x
inductive HO where
 | lst (xs:List V)
 | tup (xs:List V)
 | dK (aG:List (Key×V)) | dT (aG:List (List Key×V))
 | set (S:Int->Bool) (n:Nat)
 | ins (C dx:Addr) (fs:List (Str×V))
 | own (x:Addr)
 | xd (fs:List (Str×V))
 | met (f x:Addr)
 | rng (lo hi:Int)
 | uQ (o:Obj) (u:HO)
 | mK (ps:Array Value)
 | ext (φ:Heap->Prop)
abbrev Hp:=Addr->Option HO
def upd(H:Hp)(a:Addr)(o:HO):Hp:=λb=>if b=a then some o else H b
theorem ai{H:Hp}{a:Addr}{o:HO}:upd H a o a=some o:=by unfold upd;rw[if_pos rfl]
theorem au{H:Hp}{a b:Addr}{o:HO}(h:b≠a):upd H a o b=H b:=by unfold upd;rw[if_neg h]
theorem qy{H:Hp}{a:Addr}{o u:HO}:upd (upd H a o) a u=upd H a u:=by
 funext b;unfold upd;split <;> rfl
theorem aW{H:Hp}{a b:Addr}{o u:HO}(h:H a=some o)(h':H b=some u)(d:o≠u):a≠b:=by
 intro e;subst e;rw[h]at h';exact d (Option.some.inj h')
theorem av{H:Hp}{a b:Addr}{o:HO}(h:H a=some o)(h':H b=none):a≠b:=by
 intro e;subst e;rw[h]at h';cases h'
section
variable (P:Program)(w:World)
def cI(H:Hp)(h:Heap)(a:Addr):HO->Prop
 | .lst xs=>xs.length<=sizeLine/\∃(its:List Value) (n:Nat),Vals xs its/\h.get? a=some { cls:=.type "list",data:=.seq its.toArray n }
 | .tup xs=>xs.length<=sizeLine/\∃its:List Value,Vals xs its/\IsTup h a its.toArray
 | .dK aG=>aG.length<=sizeLine/\(a==sysModules)=false/\∃vs,KV aG vs/\h.DictOf (cX P w) a vs
 | .dT aG=>aG.length<=sizeLine/\(a==sysModules)=false/\∃xs:List (List Key×Addr×Value),
   Paired (λ(p:List Key×V) (q:List Key×Addr×Value)=>p.1=q.1/\H q.2.1=some (.tup (p.1.map kV))/\RelV p.2 q.2.2) aG xs/\
   ∃o es ep,h.get? a=some o/\o.ExactDict/\o.data=.dict es ep/\es.toList=xs.map (entryOfKey (tupleKind (cX P w)))/\(xs.map (·.1)).Nodup
 | .set S n=>h.SetOf (intKind P w) a S n
 | .ins C dx fs=>H dx=some (.own a)/\fs.length<=1000/\dx≠a/\h.get? a=some (PySem.W.instObj C dx)/\
   ∃mA,h.Ns1 dx mA/\(∀f,lG (fs.lookup f) (mA f))/\PySem.Within mA (fs.map (·.1))
 | .own _=>∃o,h.get? a=some o
 | .xd fs=>∃mA,h.Ns1 a mA/\∀f,lG (fs.lookup f) (mA f)
 | .rng lo hi=>∃t u v,h.get? a=some { cls:=.type "range",data:=.fields #[.int lo t,.int hi u,.int 1 v] }
 | .uQ o u=>h.get? a=some o/\cI H h a u
 | .mK ps=>h.get? a=some { cls:=.none,data:=.fields ps }
 | .met f x=>h.get? a=some (PySem.W.methodObj (.ref f) (.ref x))
 | .ext φ=>φ h/\(∃o,h.get? a=some o)/\∀h1 h2:Heap,φ h1->(∀o,h1.get? a=some o->h2.get? a=some o)->φ h2
def fP(H:Hp)(h:Heap):Prop:=∀a o,H a=some o->cI P w H h a o
end
section
variable {P:Program}{w:World}{H H':Hp}{h h':Heap}{a:Addr}{o:HO}
theorem cI.lt(x:cI P w H h a o):a<h.objs.size:=by
 cases o with
 | lst xs=>obtain⟨_,_,_,_,e⟩:=x;exact Heap.lt_size e
 | tup xs=>obtain⟨_,_,_,p⟩:=x;exact p.lt
 | dK aG=>obtain⟨_,_,_,_,o,_,_,e,_⟩:=x;exact Heap.lt_size e
 | dT aG=>obtain⟨_,_,_,_,o,_,_,e,_⟩:=x;exact Heap.lt_size e
 | set S n=>obtain⟨o,_,_,_,e,_⟩:=x;exact Heap.lt_size e
 | ins C dx fs=>obtain⟨_,_,_,e,_⟩:=x;exact Heap.lt_size e
 | own y=>obtain⟨_,e⟩:=x;exact Heap.lt_size e
 | xd fs=>obtain⟨_,⟨_,_,_,e,_⟩,_⟩:=x;exact Heap.lt_size e
 | rng lo hi=>obtain⟨_,_,_,e⟩:=x;exact Heap.lt_size e
 | uQ ob u=>obtain⟨e,_⟩:=x;exact Heap.lt_size e
 | mK ps=>exact Heap.lt_size (show h.get? a=some _ from x)
 | met f y=>exact Heap.lt_size (show h.get? a=some _ from x)
 | ext φ=>obtain⟨_,⟨_,e⟩,_⟩:=x;exact Heap.lt_size e
theorem Paired.Sw{α β:Type}{F G:α->β->Prop}:∀{l₁:List α} {l₂:List β},Paired F l₁ l₂->(∀a b,F a b->G a b)->Paired G l₁ l₂
 | _,_,.nil,_=>.nil
 | _,_,.cons r t,f=>.cons (f _ _ r) (Paired.Sw t f)
theorem cI.stay(x:cI P w H h a o)(k:∀b u,(b=a\/H b=some (.own a))->h.get? b=some u->h'.get? b=some u)
  (ho:∀b,H b=some (.own a)->H' b=some (.own a)) (ht:∀b xs,H b=some (.tup xs)->H' b=some (.tup xs)):cI P w H' h' a o:=by
 induction o with
 | lst xs=>obtain⟨z,its,n,r,e⟩:=x;exact⟨z,its,n,r,k _ _ (.inl rfl) e⟩
 | tup xs=>obtain⟨z,its,r,ob,e,c⟩:=x;exact⟨z,its,r,ob,k _ _ (.inl rfl) e,c⟩
 | dK aG=>obtain⟨z,y,vs,r,ob,es,ep,e,c⟩:=x;exact⟨z,y,vs,r,ob,es,ep,k _ _ (.inl rfl) e,c⟩
 | dT aG=>
  obtain⟨z,y,xs,r,ob,es,ep,e,c⟩:=x
  exact⟨z,y,xs,Paired.Sw r λp q z=>⟨z.1,ht _ _ z.2.1,z.2.2⟩,ob,es,ep,k _ _ (.inl rfl) e,c⟩
 | set S n=>obtain⟨ob,es,ep,t,e,c⟩:=x;exact⟨ob,es,ep,t,k _ _ (.inl rfl) e,c⟩
 | ins C dx fs=>
  obtain⟨d,z,ne,e,mA,⟨od,es,ep,e2,c⟩,r⟩:=x
  exact⟨ho _ d,z,ne,k _ _ (.inl rfl) e,mA,⟨od,es,ep,k _ _ (.inr d) e2,c⟩,r⟩
 | own y=>obtain⟨ob,e⟩:=x;exact⟨ob,k _ _ (.inl rfl) e⟩
 | xd fs=>obtain⟨mA,⟨od,es,ep,e,c⟩,r⟩:=x;exact⟨mA,⟨od,es,ep,k _ _ (.inl rfl) e,c⟩,r⟩
 | rng lo hi=>obtain⟨t,u,v,e⟩:=x;exact⟨t,u,v,k _ _ (.inl rfl) e⟩
 | uQ ob u ih=>obtain⟨e,q⟩:=x;exact⟨k _ _ (.inl rfl) e,ih q⟩
 | mK ps=>
  have e:h.get? a=some { cls:=.none,data:=.fields ps }:=x
  show h'.get? a=some { cls:=.none,data:=.fields ps }
  exact k a _ (.inl rfl) e
 | met f y=>
  have e:h.get? a=some (PySem.W.methodObj (.ref f) (.ref y)):=x
  show h'.get? a=some (PySem.W.methodObj (.ref f) (.ref y))
  exact k a _ (.inl rfl) e
 | ext φ=>obtain⟨p,⟨o,e⟩,st⟩:=x;exact⟨st _ _ p λo q=>k _ _ (.inl rfl) q,⟨o,k _ _ (.inl rfl) e⟩,st⟩
theorem fP.lt(x:fP P w H h)(e:H a=some o):a<h.objs.size:=(x a o e).lt
theorem fP.fresh(x:fP P w H h)(e:h.objs.size<=a):H a=none:=by
 cases q:H a with
 | none=>rfl
 | some u=>exact absurd (Nat.lt_of_lt_of_le (x.lt q) e) (Nat.lt_irrefl _)
theorem fP.kept(x:fP P w H h)(k:∀b u,h.get? b=some u->h'.get? b=some u):fP P w H h':=λa o e=>
 (x a o e).stay (λb u _ q=>k b u q) (λ_ q=>q) λ_ _ q=>q
theorem fP.laid(x:fP P w H h)(k:∀b u,h.get? b=some u->h'.get? b=some u)(hp:h.objs.size<=a)(new:cI P w (upd H a o) h' a o):fP P w (upd H a o) h':=λb u e=>by
 have hn:=x.fresh hp
 by_cases hb:b=a
 ·subst hb;rw[ai]at e;cases e;exact new
 ·rw[au hb]at e
  exact(x b u e).stay (λc v _ q=>k c v q) (λc q=>by rw[au (av q hn)];exact q) λc xs q=>by rw[au (av q hn)];exact q
end
def Rd(H:Hp)(a:Addr)(u:HO):Prop:=H a=some u\/∃o,H a=some (.uQ o u)
theorem Rd.ok{P:Program}{w:World}{H:Hp}{h:Heap}{a:Addr}{u:HO}(r:Rd H a u)(x:fP P w H h):cI P w H h a u:=by
 rcases r with r | ⟨o,r⟩
 ·exact x a u r
 ·obtain⟨_,q⟩:=x a _ r
  exact q
def Yq:Option HO->Prop
 | some (.lst _)=>True
 | some (.dK _)=>True
 | some (.dT _)=>True
 | some (.set _ _)=>True
 | some (.ins _ _ _)=>True
 | some (.ext _)=>True
 | _=>False
section
variable {P:Program}{w:World}{H:Hp}{h h':Heap}{x e:Addr}{o':HO}
theorem fP.write(ok:fP P w H h)(mu:Yq (H x))(he:e=x\/H e=some (.own x))(k:∀b u,b≠e->h.get? b=some u->h'.get? b=some u)(UT:∃u,h'.get? e=some u)
  (new:cI P w (upd H x o') h' x o'):fP P w (upd H x o') h':=λb u q=>by
 have Ex:∀c y,H c=some (.own y)->c≠x:=λc y r z=>by subst z;rw[r]at mu;exact mu
 have sV:∀c xs,H c=some (.tup xs)->c≠x:=λc xs r z=>by subst z;rw[r]at mu;exact mu
 by_cases hb:b=x
 ·subst hb;rw[ai]at q;cases q;exact new
 ·rw[au hb]at q
  by_cases TK:b=e
  ·have q':H b=some (.own x):=by
    rcases he with z | z
    ·exact absurd (TK.trans z) hb
    ·rw[TK];exact z
   rw[q]at q';cases q'
   obtain⟨v,hv⟩:=UT
   exact⟨v,by rw[TK];exact hv⟩
  ·refine(ok b u q).stay (λc v hc r=>k c v ?_ r) (λc r=>by rw[au (Ex c b r)];exact r) λc xs r=>by rw[au (sV c xs r)];exact r
   rcases hc with rfl | hc
   ·exact TK
   ·rintro rfl
    rcases he with z | z
    ·exact Ex c b hc z
    ·rw[hc]at z;cases z;exact hb rfl
end
structure Un(fs ex:List Addr)(H H':Hp)(h h':Heap):Prop where
 keep:∀b o,h.get? b=some o->H b=none->b∉fs->b∉ex->h'.get? b=some o
 slot:∀b o,h.get? b=some o->H b=none->b∈fs->b∉ex->∃sl,h'.get? b=some { o with slots:=sl }
 free:∀b o,h.get? b=some o->H b=none->b∉ex->H' b=none
 there:∀b o,h.get? b=some o->b∉ex->∃o',h'.get? b=some o'
 tups:∀b xs,H b=some (.tup xs)->H' b=some (.tup xs)
 frzs:∀b o u,H b=some (.uQ o u)->H' b=some (.uQ o u)
 tbls:∀b ps,H b=some (.mK ps)->∃more,H' b=some (.mK (ps++more))
section
variable {fs fs' ex ex':List Addr}{H H1 H2:Hp}{h h1 h2 h':Heap}{a x e:Addr}{o:HO}
theorem Un.any(u:Un fs ex H H1 h h1){b:Addr}{ob:Obj}(q:h.get? b=some ob)(n:H b=none)(hx:b∉ex):∃sl,h1.get? b=some { ob with slots:=sl }:=by
 by_cases hb:b∈fs
 ·exact u.slot b ob q n hb hx
 ·exact⟨ob.slots,u.keep b ob q n hb hx⟩
theorem Un.trans(a:Un fs ex H H1 h h1)(b:Un fs ex H1 H2 h1 h2):Un fs ex H H2 h h2 where
 keep:=λc ob q n hc hx=>b.keep c ob (a.keep c ob q n hc hx) (a.free c ob q n hx) hc hx
 slot:=λc ob q n hc hx=>by
  obtain⟨sl,e1⟩:=a.slot c ob q n hc hx
  obtain⟨Vw,e2⟩:=b.slot c _ e1 (a.free c ob q n hx) hc hx
  exact⟨Vw,e2⟩
 free:=λc ob q n hx=>by
  obtain⟨o',e1⟩:=a.there c ob q hx
  exact b.free c o' e1 (a.free c ob q n hx) hx
 there:=λc ob q hx=>by
  obtain⟨o',e1⟩:=a.there c ob q hx
  exact b.there c o' e1 hx
 tups:=λc xs q=>b.tups c xs (a.tups c xs q)
 frzs:=λc ob xs q=>b.frzs c ob xs (a.frzs c ob xs q)
 tbls:=λc ps q=>by
  obtain⟨m1,e1⟩:=a.tbls c ps q
  obtain⟨m2,e2⟩:=b.tbls c _ e1
  exact⟨m1++m2,by rw[e2,Array.append_assoc]⟩
theorem Un.kept(k:∀b u,h.get? b=some u->h'.get? b=some u):Un fs ex H H h h':=
 ⟨λb ob q _ _ _=>k b ob q,λb ob q _ _ _=>⟨ob.slots,k b ob q⟩,λ_ _ _ n _=>n,λb ob q _=>⟨ob,k b ob q⟩,λ_ _ q=>q,λ_ _ _ q=>q,λ_ ps q=>⟨#[],by rw[q];simp⟩⟩
theorem Un.refl:Un fs ex H H h h:=Un.kept λ_ _ q=>q
theorem Un.laid(k:∀b u,h.get? b=some u->h'.get? b=some u)(hp:h.objs.size<=a)(hn:H a=none):Un fs ex H (upd H a o) h h' where
 keep:=λb u q _ _ _=>k b u q
 slot:=λb u q _ _ _=>⟨u.slots,k b u q⟩
 free:=λb u q n _=>by rw[au (Nat.ne_of_lt (Nat.lt_of_lt_of_le (Heap.lt_size q) hp))];exact n
 there:=λb u q _=>⟨u,k b u q⟩
 tups:=λb xs q=>by rw[au (av q hn)];exact q
 frzs:=λb u xs q=>by rw[au (av q hn)];exact q
 tbls:=λb ps q=>⟨#[],by rw[au (av q hn),q];simp⟩
theorem Un.write(mu:Yq (H x))(he:e=x\/H e=some (.own x))(k:∀b u,b≠e->h.get? b=some u->h'.get? b=some u)(UT:∃u,h'.get? e=some u):Un fs ex H (upd H x o) h h':=by
 have hx:∀b,H b=none->b≠x:=λb n z=>by subst z;rw[n]at mu;exact mu
 have hb:∀b,H b=none->b≠e:=λb n z=>by
  subst z
  rcases he with r | r
  ·exact hx b n r
  ·rw[n]at r;cases r
 have hm:∀b u,H b=some u->¬Yq (some u)->b≠x:=λb u q nm z=>by subst z;rw[q]at mu;exact nm mu
 refine⟨λb u q n _ _=>k b u (hb b n) q,λb u q n _ _=>⟨u.slots,k b u (hb b n) q⟩,λb u q n _=>by rw[au (hx b n)];exact n,λb u q _=>?_,
  λb xs q=>by rw[au (hm b _ q λz=>z)];exact q,λb u xs q=>by rw[au (hm b _ q λz=>z)];exact q,λb ps q=>⟨#[],by rw[au (hm b _ q λz=>z),q];simp⟩⟩
 by_cases TK:b=e
 ·subst TK;exact UT
 ·exact⟨u,k b u TK q⟩
end
def YB(h:Heap)(H:Hp):List Addr:=(List.range h.objs.size).filter λa=>(H a).isSome
def tJ(h:Heap)(H:Hp):Heap:=PySem.W.hideAll h (YB h H)
theorem Ft(h:Heap)(H:Hp):(tJ h H).objs.size=h.objs.size:=PySem.W.hideAll_size _ _
theorem J9{h:Heap}{H:Hp}{b:Addr}{o:Obj}(e:h.get? b=some o)(n:H b=none):(tJ h H).get? b=some o:=
 PySem.W.hideAll_get _ e λhm=>by
  have q:(H b).isSome=true:=(List.mem_filter.mp hm).2
  rw[n]at q;simp at q
theorem Oc{h:Heap}{H:Hp}{b:Addr}{o:Obj}(e:(tJ h H).get? b=some o):h.get? b=some o/\H b=none:=by
 have e':h.get? b=some o:=PySem.W.of_hideAll (YB h H) e
 refine⟨e',?_⟩
 cases q:H b with
 | none=>rfl
 | some x=>
  have hm:b∈YB h H:=List.mem_filter.mpr ⟨List.mem_range.mpr (Heap.lt_size e'),by simp[q]⟩
  have z:(tJ h H).get? b=none:=PySem.W.hideAll_none (YB h H) hm
  rw[z]at e;cases e
def PL(g h:Heap)(L:Addr):List (Addr×Obj):=(List.range h.objs.size).filterMap λa=>if a=L\/(g.get? a).isSome=true then none else (h.get? a).map λo=>(a,o)
def rest(g h:Heap)(L d:Addr):List (Addr×Obj):=(PL g h L).filter λp=>decide (p.1≠d)
end L2
namespace L2
open PySem PySem.Spec PyProof.Rows
structure Mod(K:PySem.W.Frag)(mg:Str->Option Value)(base:Heap):Prop where
 S6:K.In base
 glob:base.Ns mainGlobals mg
 blt:∃mb,base.Ns builtinsNs mb/\∀x:Str,x≠"__name__"->mb x=bootBuiltins x
 nolimit:base.NoLimit
structure Cx where
 prog:Program
 w:World
 K:PySem.W.Frag
 mg:Str->Option Value
 base:Heap
 A:Around
 N:List Str
 s₀:Shared
 H₀:Hp
 env:Env
 outer:List Env
 stack:List Env
 ex:List Addr
 fn:Str->Bool
 calm:Bool
 pn:List (Addr×Obj)
 xe:Value->Shared->Prop
def lP(l:List Env):List Addr:=l.filterMap (·.frame)
abbrev Cx.fs(X:Cx):List Addr:=lP X.outer
def U8(sc:Scope)(x:Str):Prop:=sc.names.lookup x=some .local\/sc.names.lookup x=some .cell\/sc.names.lookup x=some .free
def Loc(sc:Scope)(x:Str):Prop:=sc.names.lookup x=some .local\/sc.names.lookup x=some .cell
def Look(env:Env)(h:Heap)(m:Str->Option Value)(x:Str)(u:Value):Prop:=
 (env.kindOf x=some .local/\m x=some u)\/((env.kindOf x=some .cell\/env.kindOf x=some .free)/\∃c,env.cells.lookup x=some c/\h.IsCell c (some u))
structure Cx.Ok(X:Cx):Prop where
 mod:Mod X.K X.mg X.base
 kind:X.env.scope.kind=.function
 glob:X.env.globals=mainGlobals
 blt:X.env.builtins=builtinsNs
 above:X.s₀.heap.objs.size<=X.env.locals
 inj:∀x y c,X.env.cells.lookup x=some c->X.env.cells.lookup y=some c->x=y
 has:∀x,(X.env.kindOf x=some .cell\/X.env.kindOf x=some .free)->∃c,X.env.cells.lookup x=some c
 U7:∀x c,X.fn x=true->X.env.cells.lookup x=some c->X.s₀.heap.objs.size<=c
 hd:X.calm=true->X.A.handled=none
 frames:X.A.frames=some X.stack
 YF:X.stack=X.outer\/(X.stack=X.env::X.outer/\X.env.frame=some X.env.locals)
 exf:∀b∈X.ex,b≠X.env.locals/\∀x c,X.env.cells.lookup x=some c->c≠b
 bs:∀b o,X.base.get? b=some o->X.s₀.heap.get? b=some o/\X.H₀ b=none
 FW:X.base.objs.size<=X.s₀.heap.objs.size
 Jx:∀b o,X.base.get? b=some o->b∉X.ex
 Pb:∀b∈X.ex,b∉X.fs
 lE:X.s₀.heap.FunFrames X.base X.outer
 Gs:∀b∈X.fs,X.H₀ b=none
structure Inv(X:Cx)(pins:List (Addr×Obj))(σ:List (Option V))(H:Hp)(s:Shared):Prop where
 ok:X.Ok
 os:s.os=X.s₀.os
 bare:AllBare s.gens
 base:Un X.fs X.ex X.H₀ H X.s₀.heap s.heap
 loc:∃m,s.heap.Ns X.env.locals m/\∀(i:Nat) (x:Str) (v:V),X.N[i]?=some x->σ[i]?=some (some v)->U8 X.env.scope x->∃u,RelV v u/\Look X.env s.heap m x u
 cell:∀x c,X.env.cells.lookup x=some c->∃v,s.heap.IsCell c v
 free:H X.env.locals=none
 iR:∀x c,X.env.cells.lookup x=some c->H c=none
 pin:∀p∈X.pn++pins,s.heap.get? p.1=some p.2/\H p.1=none/\p.1≠X.env.locals/\p.1∉X.fs/\∀v,p.2.data≠.cell v
 aY:fP X.prog X.w H s.heap
 len:σ.length=X.N.length
section
variable {X:Cx}{pins:List (Addr×Obj)}{σ:List (Option V)}{H H':Hp}{s:Shared}{h':Heap}
theorem Cx.Ok.aBA(ok:X.Ok){b:Addr}{o:Obj}(e:X.base.get? b=some o):b∉X.fs:=λhb=>by
 have:=(ok.lE.mem hb).1
 rw[e]at this;cases this
theorem Inv.bs(I:Inv X pins σ H s):∀b o,X.base.get? b=some o->s.heap.get? b=some o/\H b=none:=λb o e=>
 ⟨I.base.keep b o (I.ok.bs b o e).1 (I.ok.bs b o e).2 (I.ok.aBA e) (I.ok.Jx b o e),I.base.free b o (I.ok.bs b o e).1 (I.ok.bs b o e).2 (I.ok.Jx b o e)⟩
theorem Inv.bk(I:Inv X pins σ H s):∀b o,X.base.get? b=some o->s.heap.get? b=some o:=λb o e=>(I.bs b o e).1
theorem Inv.mod(I:Inv X pins σ H s):Mod X.K X.mg X.base:=I.ok.mod
theorem Inv.jT(I:Inv X pins σ H s):X.K.In s.heap:=I.ok.mod.S6.keeps I.bk
theorem Inv.lt(I:Inv X pins σ H s):X.env.locals<s.heap.objs.size:=let ⟨_,hn,_⟩:=I.loc;hn.lt
theorem Inv.sz(I:Inv X pins σ H s):X.s₀.heap.objs.size<=s.heap.objs.size:=Nat.le_trans I.ok.above (Nat.le_of_lt I.lt)
theorem Inv.Wj(I:Inv X pins σ H s){a:Addr}(h:s.heap.objs.size<=a):a∉X.fs:=λhb=>by
 obtain⟨_,o,ho,_⟩:=I.ok.lE.mem hb
 exact absurd (Nat.lt_of_lt_of_le (Heap.lt_size ho) (Nat.le_trans I.sz h)) (Nat.lt_irrefl _)
theorem Inv.QV(I:Inv X pins σ H s):∀x c,X.env.cells.lookup x=some c->c≠X.env.locals:=λx c e z=>by
 obtain⟨v,o,ho,hd⟩:=I.cell x c e
 obtain⟨m,⟨o',es,ep,J5,Xb,_⟩,_⟩:=I.loc
 rw[z,J5]at ho;cases ho;rw[Xb]at hd;cases hd
theorem Inv.lE(I:Inv X pins σ H s):s.heap.FunFrames X.base X.outer:=by
 have all:∀(l:List Env),(∀b∈lP l,b∈X.fs)->X.s₀.heap.FunFrames X.base l->s.heap.FunFrames X.base l:=by
  intro l
  induction l with
  | nil=>intro _ _;trivial
  | cons env r ih=>
   intro hs hl
   obtain⟨hk,⟨L,o,hf,hn,ho,hd⟩,hr⟩:=hl
   have hL:L∈X.fs:=hs L (by unfold lP;rw[List.filterMap_cons,hf];exact List.mem_cons_self)
   obtain⟨sl,e⟩:=I.base.slot L o ho (I.ok.Gs L hL) hL λz=>I.ok.Pb L z hL
   exact⟨hk,⟨L,_,hf,hn,e,hd⟩,ih (λb hb=>hs b (by unfold lP;rw[List.filterMap_cons,hf];exact List.mem_cons_of_mem _ hb)) hr⟩
 exact all X.outer (λ_ hb=>hb) I.ok.lE
theorem Inv.stack(I:Inv X pins σ H s):s.heap.FunFrames X.base X.stack:=by
 rcases I.ok.YF with e | ⟨e,hf⟩
 ·rw[e];exact I.lE
 ·rw[e]
  obtain⟨m,hn,_⟩:=I.loc
  refine .cons (by rw[I.ok.kind];decide) hf hn ?_ I.lE
  exact Heap.get?_none_of_le (Nat.le_trans I.ok.FW I.ok.above)
theorem Inv.oY(I:Inv X pins σ H s):∀b∈lP X.stack,b∈X.env.locals::X.fs:=λb hb=>by
 rcases I.ok.YF with e | ⟨e,hf⟩
 ·rw[e]at hb;exact List.mem_cons_of_mem _ hb
 ·rw[e]at hb
  unfold lP at hb
  rw[List.filterMap_cons,hf]at hb
  exact hb
theorem Inv.vk(I:Inv X pins σ H s):∀b∈lP X.stack,H b=none:=λb hb=>by
 rcases List.mem_cons.mp (I.oY b hb) with e | hb
 ·rw[e];exact I.free
 ·obtain⟨_,o,ho,_⟩:=I.ok.lE.mem hb
  exact I.base.free b o ho (I.ok.Gs b hb) λz=>I.ok.Pb b z hb
theorem Inv.step{g':Array GenState}{t':Nat}{d':Drawn}{ch:List Addr}(I:Inv X pins σ H s)
  (yJ:∀b∈ch,(b∈X.ex\/X.s₀.heap.objs.size<=b)/\b≠X.env.locals/\(∀x c,X.env.cells.lookup x=some c->c≠b)/\∀p∈X.pn++pins,p.1≠b)
  (keep:∀b o,b≠X.env.locals->b∉X.fs->b∉ch->s.heap.get? b=some o->H b=none->h'.get? b=some o)
  (slot:∀b o,b≠X.env.locals->b∈X.fs->b∉ch->s.heap.get? b=some o->H b=none->∃sl,h'.get? b=some { o with slots:=sl }) (free:∀b o,b∉ch->s.heap.get? b=some o->H b=none->H' b=none)
  (there:∀b o,b∉ch->s.heap.get? b=some o->∃o',h'.get? b=some o')
  (tups:∀b xs,H b=some (.tup xs)->H' b=some (.tup xs)) (frzs:∀b o u,H b=some (.uQ o u)->H' b=some (.uQ o u)) (tbls:∀b ps,H b=some (.mK ps)->∃more,H' b=some (.mK (ps++more)))
  (ns:∀m,s.heap.Ns X.env.locals m->h'.Ns X.env.locals m) (aY:fP X.prog X.w H' h') (hg:AllBare g') :
  Inv X pins σ H' { s with heap:=h',gens:=g',drawn:=d',toks:=t' }:=by
 have neL:∀b o,X.s₀.heap.get? b=some o->b≠X.env.locals:=λb o e=>Nat.ne_of_lt (Nat.lt_of_lt_of_le (Heap.lt_size e) I.ok.above)
 have Y3:∀b o,X.s₀.heap.get? b=some o->b∉X.ex->b∉ch:=λb o e hx hb=>by
  rcases(yJ b hb).1 with z | z
  ·exact hx z
  ·exact absurd (Nat.lt_of_lt_of_le (Heap.lt_size e) z) (Nat.lt_irrefl _)
 have cellK:∀x c,X.env.cells.lookup x=some c->∀v,s.heap.IsCell c v->h'.IsCell c v:=λx c e v ⟨o,ho,hd⟩=>by
  have Wk:c∉ch:=λz=>(yJ c z).2.2.1 x c e rfl
  by_cases hc:c∈X.fs
  ·obtain⟨sl,q⟩:=slot c o (I.QV x c e) hc Wk ho (I.iR x c e)
   exact⟨_,q,hd⟩
  ·exact⟨o,keep c o (I.QV x c e) hc Wk ho (I.iR x c e),hd⟩
 refine⟨I.ok,I.os,hg,⟨λb o e n hb hx=>?_,λb o e n hb hx=>?_,λb o e n hx=>?_,λb o e hx=>?_,λb xs e=>tups b xs (I.base.tups b xs e),λb o xs e=>frzs b o xs (I.base.frzs b o xs e),λb ps e=>?_⟩,?_,λx c e=>?_,?_,λx c e=>?_,λp hp=>?_,aY,I.len⟩
 ·exact keep b o (neL b o e) hb (Y3 b o e hx) (I.base.keep b o e n hb hx) (I.base.free b o e n hx)
 ·obtain⟨sl,e1⟩:=I.base.slot b o e n hb hx
  obtain⟨Vw,e2⟩:=slot b _ (neL b o e) hb (Y3 b o e hx) e1 (I.base.free b o e n hx)
  exact⟨Vw,e2⟩
 ·obtain⟨o',e1⟩:=I.base.there b o e hx
  exact free b o' (Y3 b o e hx) e1 (I.base.free b o e n hx)
 ·obtain⟨o',e1⟩:=I.base.there b o e hx
  exact there b o' (Y3 b o e hx) e1
 ·obtain⟨m1,e1⟩:=I.base.tbls b ps e
  obtain⟨m2,e2⟩:=tbls b _ e1
  exact⟨m1++m2,by rw[e2,Array.append_assoc]⟩
 ·obtain⟨m,hn,hl⟩:=I.loc
  refine⟨m,ns m hn,λi x v e1 e2 e3=>?_⟩
  obtain⟨u,r,l⟩:=hl i x v e1 e2 e3
  refine⟨u,r,?_⟩
  rcases l with l | ⟨k,c,e,z⟩
  ·exact .inl l
  ·exact .inr ⟨k,c,e,cellK x c e _ z⟩
 ·obtain⟨v,z⟩:=I.cell x c e
  exact⟨v,cellK x c e v z⟩
 ·obtain⟨m,⟨o,_,_,ho,_⟩,_⟩:=I.loc
  exact free _ o (λz=>(yJ _ z).2.1 rfl) ho I.free
 ·obtain⟨v,o,ho,hd⟩:=I.cell x c e
  exact free c o (λz=>(yJ c z).2.2.1 x c e rfl) ho (I.iR x c e)
 ·obtain⟨e,n,ne,nf,d⟩:=I.pin p hp
  have Wk:p.1∉ch:=λz=>(yJ p.1 z).2.2.2 p hp rfl
  exact⟨keep p.1 p.2 ne nf Wk e n,free p.1 p.2 Wk e n,ne,nf,d⟩
theorem Inv.un{t':Nat}(I:Inv X pins σ H s)(u:Un X.fs [] H H' s.heap h')(aY:fP X.prog X.w H' h'):Inv X pins σ H' { s with heap:=h',toks:=t' }:=by
 obtain⟨m,⟨o,es,ep,ho,r⟩,_⟩:=id I.loc
 obtain⟨sl,hL⟩:=u.any ho I.free (by simp)
 exact I.step (g':=s.gens) (d':=s.drawn) (ch:=[]) (λ_ z=>nomatch z) (λb o _ hb _ e n=>u.keep b o e n hb (by simp)) (λb o _ hb _ e n=>u.slot b o e n hb (by simp)) (λb o _ e n=>u.free b o e n (by simp)) (λb o _ e=>u.there b o e (by simp)) u.tups u.frzs u.tbls (λm' hm=>by
  obtain⟨o',es',ep',J5,r'⟩:=hm
  rw[ho]at J5;cases J5
  exact⟨_,es',ep',hL,r'⟩) aY I.bare
theorem Inv.call{g':Array GenState}{t':Nat}{d':Drawn}{ch:List Addr}(I:Inv X pins σ H s)(u:Un (lP X.stack) ch H H' s.heap h')(aY:fP X.prog X.w H' h')(hg:AllBare g')
  (yJ:∀b∈ch,(b∈X.ex\/X.s₀.heap.objs.size<=b)/\b≠X.env.locals/\(∀x c,X.env.cells.lookup x=some c->c≠b)/\∀p∈X.pn++pins,p.1≠b) :
  Inv X pins σ H' { s with heap:=h',gens:=g',drawn:=d',toks:=t' }:=by
 obtain⟨m,⟨o,es,ep,ho,r⟩,_⟩:=id I.loc
 obtain⟨sl,hL⟩:=u.any ho I.free λz=>(yJ _ z).2.1 rfl
 exact I.step (ch:=ch) yJ (λb o hL hb hc e n=>u.keep b o e n (λz=>(List.mem_cons.mp (I.oY b z)).elim hL hb) hc) (λb o _ _ hc e n=>u.any e n hc) (λb o hc e n=>u.free b o e n hc) (λb o hc e=>u.there b o e hc) u.tups u.frzs u.tbls (λm' hm=>by
  obtain⟨o',es',ep',J5,r'⟩:=hm
  rw[ho]at J5;cases J5
  exact⟨_,es',ep',hL,r'⟩) aY hg
theorem Inv.turned{t':Nat}{it:Addr}(I:Inv X pins σ H s)(k:∀b o,b≠it->s.heap.get? b=some o->h'.get? b=some o)(hn:H it=none)(hL:it≠X.env.locals)
  (h1:it∈X.ex\/X.s₀.heap.objs.size<=it) (h2:∀x c,X.env.cells.lookup x=some c->c≠it) (h3:∀p∈X.pn++pins,p.1≠it):Inv X pins σ H { s with heap:=h',toks:=t' }:=by
 have nit:∀b u,H b=some u->b≠it:=λb u e z=>by rw[z,hn]at e;cases e
 refine I.step (g':=s.gens) (d':=s.drawn) (ch:=[it]) (λb hb=>?_) (λb o _ _ hc e _=>k b o (λz=>hc (by simp[z])) e) (λb o _ _ hc e _=>⟨o.slots,k b o (λz=>hc (by simp[z])) e⟩) (λ_ _ _ _ n=>n)
  (λb o hc e=>⟨o,k b o (λz=>hc (by simp[z])) e⟩) (λ_ _ e=>e) (λ_ _ _ e=>e) (λb ps e=>⟨#[],by rw[e];simp⟩) (λm hm=>?_) (λb u e=>?_) I.bare
 ·have e:b=it:=by simpa using hb
  subst e
  exact⟨h1,hL,h2,h3⟩
 ·obtain⟨o,es,ep,ho,r⟩:=hm
  exact⟨o,es,ep,k _ o (Ne.symm hL) ho,r⟩
 ·refine(I.aY b u e).stay (λc v hc q=>k c v ?_ q) (λ_ q=>q) λ_ _ q=>q
  rcases hc with z | z
  ·rw[z];exact nit b u e
  ·exact nit c _ z
theorem Inv.tok(I:Inv X pins σ H s)(t:Nat):Inv X pins σ H { s with toks:=t }:=I.un (h':=s.heap) (t':=t) Un.refl I.aY
theorem Inv.kept{t':Nat}(I:Inv X pins σ H s)(k:∀b u,s.heap.get? b=some u->h'.get? b=some u):Inv X pins σ H { s with heap:=h',toks:=t' }:=I.un (Un.kept k) (I.aY.kept k)
theorem Inv.laid{a:Addr}{o:HO}{t':Nat}(I:Inv X pins σ H s)(k:∀b u,s.heap.get? b=some u->h'.get? b=some u)(hp:s.heap.objs.size<=a)(new:cI X.prog X.w (upd H a o) h' a o) :
  Inv X pins σ (upd H a o) { s with heap:=h',toks:=t' }:=I.un (Un.laid k hp (I.aY.fresh hp)) (I.aY.laid k hp new)
theorem Inv.write{x e:Addr}{o:HO}{t':Nat}(I:Inv X pins σ H s)(mu:Yq (H x))(he:e=x\/H e=some (.own x))(k:∀b u,b≠e->s.heap.get? b=some u->h'.get? b=some u)(UT:∃u,h'.get? e=some u)
  (new:cI X.prog X.w (upd H x o) h' x o):Inv X pins σ (upd H x o) { s with heap:=h',toks:=t' }:=I.un (Un.write mu he k UT) (I.aY.write mu he k UT new)
theorem Inv.BK{Ir:List (Addr×Obj)}(I:Inv X pins σ H s)(h:∀p∈Ir,s.heap.get? p.1=some p.2/\H p.1=none/\p.1≠X.env.locals/\p.1∉X.fs/\∀v,p.2.data≠.cell v):Inv X Ir σ H s:=
 ⟨I.ok,I.os,I.bare,I.base,I.loc,I.cell,I.free,I.iR,λp hp=>(List.mem_append.mp hp).elim (λz=>I.pin p (List.mem_append_left _ z)) (h p),I.aY,I.len⟩
theorem rn{N:List Str}(hN:N.Nodup){i j:Nat}{x:Str}(a:N[i]?=some x)(b:N[j]?=some x):i=j:=by
 obtain⟨h1,e1⟩:=List.getElem?_eq_some_iff.mp a
 obtain⟨h2,e2⟩:=List.getElem?_eq_some_iff.mp b
 exact(List.getElem_inj hN).mp (e1.trans e2.symm)
theorem uf{M:Model}{A:Around}{E:Value->Shared->Prop}{i:Nat}{x:Str}{v:V}{u:Value}{Q:Unit->Shared->Prop}(I:Inv X pins σ H s)(hN:X.N.Nodup)(hi:X.N[i]?=some x)(hx:Loc X.env.scope x)(r:RelV v u)
  (h:∀s',Inv X pins (σ.set i (some v)) H s'->(∃a,Heap.SameBut a s.heap s'.heap/\(a=X.env.locals\/X.env.cells.lookup x=some a))->Q () s') (hf:X.fn x=true\/X.env.scope.names.lookup x=some .local:=by first | exact .inl rfl | exact .inr rfl | assumption):wpAny M A (storeName X.env x u) Q E s:=by
 obtain⟨m,hn,hl⟩:=id I.loc
 have aCm:(X.env.scope.kind == .class||(X.env.scope.kind == .module&&X.env.locals != X.env.globals))=false:=by rw[I.ok.kind];rfl
 have hiσ:i<σ.length:=by rw[I.len];exact(List.getElem?_eq_some_iff.mp hi).1
 have QV:=I.QV
 have tracked:∀{a:Addr} {h':Heap},(∃o,s.heap.get? a=some o/\H a=none)->Heap.SameBut a s.heap h'->fP X.prog X.w H h':=λ{a h'} ha hs b ob e=>by
  obtain⟨_,_,yg⟩:=ha
  refine(I.aY b ob e).stay (λc w' hc q=>(hs.2 c ?_).trans q) (λ_ q=>q) λ_ _ q=>q
  rintro rfl
  rcases hc with rfl | hc
  ·rw[yg]at e;cases e
  ·rw[yg]at hc;cases hc
 rcases hx with hk | hk
 ·refine wpAny_storeName_local hk hn (λh' uL hs=>?_) aCm
  obtain⟨oL,_,_,Fq,_⟩:=id hn
  refine h _ ⟨I.ok,I.os,I.bare,⟨λb o e n hb hx=>?_,λb o e n hb hx=>?_,I.base.free,λb o e hx=>?_,I.base.tups,I.base.frzs,I.base.tbls⟩,⟨_,uL,λj y v' e1 e2 e3=>?_⟩,λy c e=>?_,I.free,I.iR,λp hp=>?_,tracked ⟨oL,Fq,I.free⟩ hs,by simpa using I.len⟩ ⟨_,hs,.inl rfl⟩
  ·exact(hs.2 b (Nat.ne_of_lt (Nat.lt_of_lt_of_le (Heap.lt_size e) I.ok.above))).trans (I.base.keep b o e n hb hx)
  ·obtain⟨sl,e1⟩:=I.base.slot b o e n hb hx
   exact⟨sl,(hs.2 b (Nat.ne_of_lt (Nat.lt_of_lt_of_le (Heap.lt_size e) I.ok.above))).trans e1⟩
  ·obtain⟨o',e1⟩:=I.base.there b o e hx
   exact⟨o',(hs.2 b (Nat.ne_of_lt (Nat.lt_of_lt_of_le (Heap.lt_size e) I.ok.above))).trans e1⟩
  ·by_cases hj:j=i
   ·subst hj
    rw[hi]at e1;cases e1
    rw[List.getElem?_set_self hiσ]at e2
    cases e2
    exact⟨u,r,.inl ⟨hk,by simp⟩⟩
   ·rw[List.getElem?_set_ne (Ne.symm hj)]at e2
    obtain⟨u',r',q⟩:=hl j y v' e1 e2 e3
    refine⟨u',r',?_⟩
    rcases q with ⟨k,e⟩ | ⟨k,c,e,z⟩
    ·refine .inl ⟨k,?_⟩
     have:y≠x:=λe=>hj (rn hN e1 (e ▸ hi))
     simp[this,e]
    ·exact .inr ⟨k,c,e,z.sameBut hs (QV y c e)⟩
  ·obtain⟨w',z⟩:=I.cell y c e
   exact⟨w',z.sameBut hs (QV y c e)⟩
  ·obtain⟨e,n,ne,nf,d⟩:=I.pin p hp
   exact⟨(hs.2 p.1 ne).trans e,n,ne,nf,d⟩
 ·have Ka:X.fn x=true:=by
   rcases hf with z | z
   ·exact z
   ·rw[z]at hk;cases hk
  obtain⟨c,hc⟩:=I.ok.has x (.inl hk)
  obtain⟨w',z⟩:=I.cell x c hc
  refine wpAny_storeName_cell I.ok.kind hk hc z (λh' ja hs=>?_)
  obtain⟨oc,oP,aCf⟩:=id z
  refine h { s with heap:=h' } ⟨I.ok,I.os,I.bare,⟨λb o e n hb hx=>?_,λb o e n hb hx=>?_,I.base.free,λb o e hx=>?_,I.base.tups,I.base.frzs,I.base.tbls⟩,⟨m,hn.sameBut hs (Ne.symm (QV x c hc)),λj y v' e1 e2 e3=>?_⟩,λy c' e=>?_,I.free,I.iR,λp hp=>?_,tracked ⟨oc,oP,I.iR x c hc⟩ hs,by simpa using I.len⟩ ⟨c,hs,.inr hc⟩
  ·exact(hs.2 b (Nat.ne_of_lt (Nat.lt_of_lt_of_le (Heap.lt_size e) (I.ok.U7 x c Ka hc)))).trans (I.base.keep b o e n hb hx)
  ·obtain⟨sl,e1⟩:=I.base.slot b o e n hb hx
   exact⟨sl,(hs.2 b (Nat.ne_of_lt (Nat.lt_of_lt_of_le (Heap.lt_size e) (I.ok.U7 x c Ka hc)))).trans e1⟩
  ·obtain⟨o',e1⟩:=I.base.there b o e hx
   exact⟨o',(hs.2 b (Nat.ne_of_lt (Nat.lt_of_lt_of_le (Heap.lt_size e) (I.ok.U7 x c Ka hc)))).trans e1⟩
  ·by_cases hj:j=i
   ·subst hj
    rw[hi]at e1;cases e1
    rw[List.getElem?_set_self hiσ]at e2
    cases e2
    exact⟨u,r,.inr ⟨.inl hk,c,hc,ja⟩⟩
   ·rw[List.getElem?_set_ne (Ne.symm hj)]at e2
    obtain⟨u',r',q⟩:=hl j y v' e1 e2 e3
    refine⟨u',r',?_⟩
    rcases q with q | ⟨k,c',e,z'⟩
    ·exact .inl q
    ·refine .inr ⟨k,c',e,z'.sameBut hs ?_⟩
     rintro rfl
     exact hj (rn hN e1 (I.ok.inj _ _ _ e hc ▸ hi))
  ·by_cases hcc:c'=c
   ·subst hcc;exact⟨_,ja⟩
   ·obtain⟨w2,z2⟩:=I.cell y c' e
    exact⟨w2,z2.sameBut hs hcc⟩
  ·obtain⟨e,n,ne,nf,d⟩:=I.pin p hp
   refine⟨(hs.2 p.1 ?_).trans e,n,ne,nf,d⟩
   intro q
   rw[q,oP]at e
   have q':oc=p.2:=Option.some.inj e
   exact d w' (by rw[<-q'];exact aCf)
theorem nO{M:Model}{A:Around}{E:Value->Shared->Prop}{i:Nat}{x:Str}{v:V}{u:Value}{Q:Unit->Shared->Prop}(I:Inv X pins σ H s)(hN:X.N.Nodup)(hi:X.N[i]?=some x)(hx:Loc X.env.scope x)(r:RelV v u)
  (h:∀s',Inv X pins (σ.set i (some v)) H s'->Q () s') (hf:X.fn x=true\/X.env.scope.names.lookup x=some .local:=by first | exact .inl rfl | exact .inr rfl | assumption):wpAny M A (storeName X.env x u) Q E s:=
 uf I hN hi hx r (λs' I' _=>h s' I') hf
theorem Inv.call'{s':Shared}{ch:List Addr}(I:Inv X pins σ H s)(ho:s'.os=s.os)(u:Un (lP X.stack) ch H H' s.heap s'.heap)(aY:fP X.prog X.w H' s'.heap)(hg:AllBare s'.gens)
  (yJ:∀b∈ch,(b∈X.ex\/X.s₀.heap.objs.size<=b)/\b≠X.env.locals/\(∀x c,X.env.cells.lookup x=some c->c≠b)/\∀p∈X.pn++pins,p.1≠b):Inv X pins σ H' s':=by
 obtain⟨h',g',d',t',o'⟩:=s'
 have e:o'=s.os:=ho
 subst e
 exact I.call (g':=g') (t':=t') (d':=d') u aY hg yJ
end
abbrev XK:=Value->Option Addr->Hp->Prop
abbrev St:=List (Option V)
abbrev VK:=V->Hp->Prop
abbrev TE:=St->Hp->VK->Prop
abbrev TT:=St->Hp->(Bool->Hp->Prop)->Prop
abbrev TA:=St->Hp->(List V->Hp->Prop)->Prop
structure Ends where
 nx:St->Hp->Prop
 rt:VK
 bk:St->Hp->Prop:=λ_ _=>False
 ct:St->Hp->Prop:=λ_ _=>False
abbrev TS:=Ends->St->Hp->Prop
def EP(X:Cx)(pins:List (Addr×Obj))(σ:St)(Q:VK)(u:Value)(s':Shared):Prop:=∃v H',Inv X pins σ H' s'/\RelV v u/\Q v H'
def TP(X:Cx)(pins:List (Addr×Obj))(σ:St)(Q:Bool->Hp->Prop)(b:Bool)(s':Shared):Prop:=∃H',Inv X pins σ H' s'/\Q b H'
def AP(X:Cx)(pins:List (Addr×Obj))(σ:St)(Q:List V->Hp->Prop)(us:List Value)(s':Shared):Prop:=∃vs H',Inv X pins σ H' s'/\Vals vs us/\Q vs H'
def SP(X:Cx)(pins:List (Addr×Obj))(D:Ends)(f:Flow)(s':Shared):Prop:=
 match f with
 | .next=>∃σ' H',Inv X pins σ' H' s'/\D.nx σ' H'
 | .brk=>∃σ' H',Inv X pins σ' H' s'/\D.bk σ' H'
 | .cont=>∃σ' H',Inv X pins σ' H' s'/\D.ct σ' H'
 | .ret u=>∃v σ' H',Inv X pins σ' H' s'/\RelV v u/\D.rt v H'
def PE(X:Cx)(e:Expr)(t:TE):Prop:=
 ∀(pins:List (Addr×Obj)) (s:Shared) (σ:St) (H:Hp) (Q:VK),Inv X pins σ H s->t σ H Q->wpAny (model X.prog X.w) X.A (eval e X.env) (EP X pins σ Q) X.xe s
def PT(X:Cx)(e:Expr)(t:TT):Prop:=
 ∀(pins:List (Addr×Obj)) (s:Shared) (σ:St) (H:Hp) (Q:Bool->Hp->Prop),Inv X pins σ H s->t σ H Q->wpAny (model X.prog X.w) X.A (isTrue e X.env (eval e X.env)) (TP X pins σ Q) X.xe s
def PW(X:Cx)(e:Expr)(t:TT):Prop:=
 ∀(whole:Sem Value) (pins:List (Addr×Obj)) (s:Shared) (σ:St) (H:Hp) (Q:Bool->Hp->Prop),Inv X pins σ H s->t σ H Q->wpAny (model X.prog X.w) X.A (isTrue e X.env whole) (TP X pins σ Q) X.xe s
theorem PW.pt{X:Cx}{e:Expr}{t:TT}(h:PW X e t):PT X e t:=h _
def PA(X:Cx)(es:List Expr)(t:TA):Prop:=
 ∀(pos:Pos) (pins:List (Addr×Obj)) (s:Shared) (σ:St) (H:Hp) (Q:List V->Hp->Prop),Inv X pins σ H s->t σ H Q->wpAny (model X.prog X.w) X.A (spliced (backTo pos (starEach es X.env))) (AP X pins σ Q) X.xe s
def PS(X:Cx)(st:Stmt)(t:TS):Prop:=
 ∀(pins:List (Addr×Obj)) (s:Shared) (σ:St) (H:Hp) (D:Ends),Inv X pins σ H s->t D σ H->wpAny (model X.prog X.w) X.A (exec st X.env) (SP X pins D) X.xe s
def wz(X:Cx)(st:List Stmt)(t:TS):Prop:=
 ∀(pins:List (Addr×Obj)) (s:Shared) (σ:St) (H:Hp) (D:Ends),Inv X pins σ H s->t D σ H->wpAny (model X.prog X.w) X.A (execs st X.env) (SP X pins D) X.xe s
theorem cw{α:Type}{t:Sem α}{Q Q':α->Shared->Prop}{M:Model}{A:Around}{E:Value->Shared->Prop}{s:Shared}(h:wpAny M A t Q E s)(hQ:∀a s,Q a s->Q' a s):wpAny M A t Q' E s:=wpAny_mono h hQ λ_ _ x=>x
end L2
namespace L2
open PySem PySem.Spec PyProof.Rows
section
variable {X:Cx}
theorem bin{a b:Expr}{ta tb:TE}(ha:PE X a ta)(hb:PE X b tb){pins:List (Addr×Obj)}{s:Shared}{σ:St}{H:Hp}{R:V->V->Hp->Prop}(I:Inv X pins σ H s)(h:ta σ H λx H1=>tb σ H1 λy H2=>R x y H2)
  {α:Type} {Q:α->Shared->Prop} {f:Value->Value->Sem α}
  (hf:∀v u s2 x y H2,Inv X pins σ H2 s2->RelV x v->RelV y u->R x y H2->wpAny (model X.prog X.w) X.A (f v u) Q X.xe s2) :
  wpAny (model X.prog X.w) X.A (eval a X.env) (λv s₁=>wpAny (model X.prog X.w) X.A (eval b X.env) (λu s₂=>wpAny (model X.prog X.w) X.A (f v u) Q X.xe s₂) X.xe s₁) X.xe s:=by
 refine cw (ha pins s σ H _ I h) λv s1 ⟨x,H1,I1,r1,q1⟩=>?_
 refine cw (hb pins s1 σ H1 _ I1 q1) λu s2 ⟨y,H2,I2,r2,q2⟩=>?_
 exact hf v u s2 x y H2 I2 r1 r2 q2
def wQ(i:Nat):TE:=λσ H Q=>∃v,σ[i]?=some (some v)/\Q v H
def tC(v:V):TE:=λ_ H Q=>Q v H
theorem IV{i:Nat}{x:Str}{pos:Pos}(hN:X.N[i]?=some x)(hv:U8 X.env.scope x)(hd:(x==("__debug__" : Str))=false:=by decide)(tK:(x==("__classdict__" : Str))=false:=by decide):PE X (.Name x pos) (wQ i):=by
 intro pins s σ H Q I h
 obtain⟨v,e,h⟩:=h
 obtain⟨m,hn,hl⟩:=I.loc
 obtain⟨u,r,l⟩:=hl i x v hN e hv
 have fin:EP X pins σ Q u s:=⟨v,H,I,r,h⟩
 rcases l with ⟨hk,hm⟩ | ⟨hk,c,hc,lO⟩
 ·exact wpAny_Name (wpAny_loadName_local I.ok.kind hk hn hm fin) hd
 ·rcases hk with hk | hk
  ·exact wpAny_Name (wpAny_loadName_cell I.ok.kind hk hc lO fin) hd
  ·exact wpAny_Name (wpAny_loadName_free I.ok.kind hk hc lO fin tK) hd
theorem R9{i j pos}:PE X (.Constant (.int i) j pos) (tC (.int i)):=λ_ _ _ H _ I h=>wpAny_Constant_int ⟨.int i,H,I.tok _,⟨_,rfl⟩,h⟩
theorem V'{b j pos}:PE X (.Constant (.bool b) j pos) (tC (.bl b)):=λ_ _ _ H _ I h=>Constant_bool ⟨.bl b,H,I,rfl,h⟩
theorem R5{x j pos}:PE X (.Constant (.str x) j pos) (tC (.str x)):=λ_ _ _ H _ I h=>Calls.Constant_str ⟨.str x,H,I.tok _,⟨_,rfl⟩,h⟩
def Gl(X:Cx)(x:Str):Prop:=X.env.kindOf x=some .globalImplicit
theorem lh{E:Value->Shared->Prop}{pins:List (Addr×Obj)}{s:Shared}{σ:St}{H:Hp}{x:Str}{u:Value}{pos:Pos}{Q:Value->Shared->Prop}(I:Inv X pins σ H s)(hg:Gl X x)(hm:X.mg x=some u)(h:Q u s)
  (hd:(x==("__debug__" : Str))=false:=by decide):wpAny (model X.prog X.w) X.A (eval (.Name x pos) X.env) Q E s:=
 Calls.Name_function_global I.ok.kind hg (Calls.loadGlobal_global (by rw[I.ok.glob];exact I.mod.glob.keeps I.bk) hm h) hd
theorem pd{E:Value->Shared->Prop}{pins:List (Addr×Obj)}{s:Shared}{σ:St}{H:Hp}{x:Str}{u:Value}{pos:Pos}{Q:Value->Shared->Prop}(I:Inv X pins σ H s)(hg:Gl X x)(hm:X.mg x=none)(hv:bootBuiltins x=some u)(h:Q u s)
  (hn:x≠"__name__":=by decide) (hd:(x==("__debug__" : Str))=false:=by decide):wpAny (model X.prog X.w) X.A (eval (.Name x pos) X.env) Q E s:=by
 obtain⟨mb,h1,h2⟩:=I.mod.blt
 exact Calls.Name_function_global I.ok.kind hg (Calls.loadGlobal_builtin (by rw[I.ok.glob];exact I.mod.glob.keeps I.bk) hm (by rw[I.ok.blt];exact h1.keeps I.bk) ((h2 x hn).trans hv) h) hd
theorem vG{x:Str}{v:V}{u:Value}{pos:Pos}(hg:Gl X x)(hm:X.mg x=none)(hv:bootBuiltins x=some u)(r:RelV v u)(hn:x≠"__name__":=by decide)(hd:(x==("__debug__" : Str))=false:=by decide):PE X (.Name x pos) (tC v):=
 λ_ _ _ H _ I h=>pd I hg hm hv ⟨v,H,I,r,h⟩ hn hd
variable {a b:Expr}{ta tb:TE}{pos:Pos}
def PC(X:Cx)(op:CmpOp)(a b:Expr)(t:TE):Prop:=
 ∀(pins:List (Addr×Obj)) (s:Shared) (σ:St) (H:Hp) (Q:VK),Inv X pins σ H s->t σ H Q->
  wpAny (model X.prog X.w) X.A (eval a X.env) (λv s₁=>wpAny (model X.prog X.w) X.A (eval b X.env) (λu s₂=>wpAny (model X.prog X.w) X.A (compareOp op v u) (EP X pins σ Q) X.xe s₂) X.xe s₁) X.xe s
theorem Jy(b:Expr){op:CmpOp}(h:op≠.In)(h2:op≠.NotIn):behindInMarks op b=false:=by
 have e1:(op==CmpOp.In)=false:=by cases op <;> first | rfl | exact absurd rfl h
 have e2:(op==CmpOp.NotIn)=false:=by cases op <;> first | rfl | exact absurd rfl h2
 cases b <;> simp[behindInMarks,e1,e2]
def tB(t:TE):TT:=λσ H Q=>t σ H λx H1=>∃c,x=.bl c/\Q c H1
theorem Im{op:CmpOp}{t:TE}(h:PC X op a b t)(h1:behindInMarks op b=false:=by first | exact Jy _ (by decide) (by decide) | rfl):PT X (.Compare a [op] [b] pos) (tB t):=by
 intro pins s σ H Q I hw
 refine wpAny_isTrue_Compare1 (cw (h pins s σ H _ I hw) λv s1 h1=>cw h1 λu s2 h2=>cw h2 λc s3 ⟨x,H1,I1,r1,q1⟩=>?_) h1
 obtain⟨d,rfl,q⟩:=q1
 cases r1
 exact wpAny_truthy_bool ⟨H1,I1,q⟩
theorem Il{e:Expr}{t:TE}(h:PE X e t)(he:∀whole,isTrue e X.env whole=(do let v <-whole;standAt e.pos;holding [v] (truthy v)):=by intro _;rfl):PT X e (tB t):=by
 intro pins s σ H Q I hw
 refine isTrue_plain (cw (h pins s σ H _ I hw) λv s1 ⟨x,H1,I1,r1,q1⟩=>?_) (he _)
 obtain⟨d,rfl,q⟩:=q1
 cases r1
 exact wpAny_truthy_bool ⟨H1,I1,q⟩
variable {tA Lg:TT}{rest:List Expr}
def Ha(t u:TT):TT:=λσ H Q=>t σ H λc H1=>if c=true then u σ H1 Q else Q false H1
def Vn(t u:TT):TT:=λσ H Q=>t σ H λc H1=>if c=true then Q true H1 else u σ H1 Q
def G7(t:TT):TT:=λσ H Q=>t σ H λc H1=>Q (!c) H1
theorem Nn(ha:PT X a tA):PW X (.BoolOp .And [a] pos) tA:=by
 intro wh pins s σ H Q I h
 refine isTrue_and (cw (ha pins s σ H Q I h) λc s1 e=>?_)
 cases c with
 | true=>exact isTrue_and_nil e
 | false=>exact e
theorem RG(ha:PT X a tA):PW X (.BoolOp .Or [a] pos) tA:=by
 intro wh pins s σ H Q I h
 refine isTrue_or (cw (ha pins s σ H Q I h) λc s1 e=>?_)
 cases c with
 | false=>exact isTrue_or_nil e
 | true=>exact e
theorem RJ(ha:PT X a tA)(hb:PW X (.BoolOp .And (b::rest) pos) Lg):PW X (.BoolOp .And (a::b::rest) pos) (Ha tA Lg):=by
 intro wh pins s σ H Q I h
 refine isTrue_and (cw (ha pins s σ H _ I h) λc s1 ⟨H1,I1,q1⟩=>?_)
 cases c with
 | true=>exact hb wh pins s1 σ H1 Q I1 q1
 | false=>exact⟨H1,I1,q1⟩
theorem V2(ha:PT X a tA)(hb:PW X (.BoolOp .Or (b::rest) pos) Lg):PW X (.BoolOp .Or (a::b::rest) pos) (Vn tA Lg):=by
 intro wh pins s σ H Q I h
 refine isTrue_or (cw (ha pins s σ H _ I h) λc s1 ⟨H1,I1,q1⟩=>?_)
 cases c with
 | true=>exact⟨H1,I1,q1⟩
 | false=>exact hb wh pins s1 σ H1 Q I1 q1
theorem RK(ha:PT X a tA):PT X (.UnaryOp .Not a pos) (G7 tA):=by
 intro pins s σ H Q I h
 exact isTrue_not (ha pins s σ H (λc H1=>Q (!c) H1) I h)
def wZ(ta tb:TE):TE:=λσ H Q=>ta σ H λx H1=>∃c,x=.bl c/\if c=true then tb σ H1 Q else Q (.bl false) H1
def Rg(ta tb:TE):TE:=λσ H Q=>ta σ H λx H1=>∃c,x=.bl c/\if c=true then Q (.bl true) H1 else tb σ H1 Q
def wV(ta:TE):TE:=λσ H Q=>ta σ H λx H1=>∃c,x=.bl c/\Q (.bl (!c)) H1
theorem R6{op}{t:TE}(h:PE X a t):PE X (.BoolOp op [a] pos) t:=λpins s σ H Q I hw=>BoolOp_one (h pins s σ H Q I hw)
theorem Sb(ha:PE X a ta)(hb:PE X (.BoolOp .And (b::rest) pos) tb):PE X (.BoolOp .And (a::b::rest) pos) (wZ ta tb):=by
 intro pins s σ H Q I h
 refine BoolOp_and (cw (ha pins s σ H _ I h) λv s1 ⟨x,H1,I1,r1,q1⟩=>?_)
 obtain⟨c,rfl,q1⟩:=q1
 cases r1
 refine wpAny_truthy_bool ?_
 cases c with
 | true=>exact hb pins s1 σ H1 Q I1 q1
 | false=>exact⟨.bl false,H1,I1,rfl,q1⟩
theorem R7(ha:PE X a ta):PE X (.UnaryOp .Not a pos) (wV ta):=by
 intro pins s σ H Q I h
 refine UnaryOp_ (cw (ha pins s σ H _ I h) λv s1 ⟨x,H1,I1,r1,q1⟩=>?_)
 obtain⟨c,rfl,q1⟩:=q1
 cases r1
 exact not_of (wpAny_truthy_bool ⟨.bl (!c),H1,I1,rfl,q1⟩)
def Z'(t:TT)(ta tb:TE):TE:=λσ H Q=>t σ H λc H1=>if c=true then ta σ H1 Q else tb σ H1 Q
end
end L2
namespace L2
open PySem PySem.Spec PyProof.Rows
def nv(K:PySem.W.Frag)(H:Hp)(a:Addr)(xs:List V):Prop:=
 Rd H a (.lst xs)\/
  ∃(o:Obj) (its:Array Value) (n:Nat),K.lookup a=some o/\o.cls=.type "list"/\o.dict=none/\o.data=.seq its n/\its.size<=sizeLine/\Vals xs its.toList
def tP(K:PySem.W.Frag)(H:Hp)(a:Addr)(xs:List V):Prop:=
 Rd H a (.tup xs)\/
  ∃(o:Obj) (its:Array Value) (n:Nat),K.lookup a=some o/\o.cls=.type "tuple"/\o.data=.seq its n/\its.size<=sizeLine/\Vals xs its.toList
def aDp:Value->Option V
 | .none=>some .non
 | .bool b=>some (.bl b)
 | .int i _=>some (.int i)
 | .str x _=>some (.str x)
 | .bytes b _=>some (.Gv b)
 | .float b _=>some (.T6 b)
 | .ref a=>some (.ref a)
 | .type n=>some (.ty n)
 | _=>none
theorem RelV.abs{x:V}{u:Value}(r:RelV x u):aDp u=some x:=by
 cases x with
 | non=>cases r;rfl
 | bl _=>cases r;rfl
 | int _=>obtain⟨t,rfl⟩:=r;rfl
 | str _=>obtain⟨t,rfl⟩:=r;rfl
 | Gv _=>obtain⟨t,rfl⟩:=r;rfl
 | T6 _=>obtain⟨t,rfl⟩:=r;rfl
 | ref _=>cases r;rfl
 | ty _=>cases r;rfl
theorem RelV.inj{x y:V}{u:Value}(r:RelV x u)(q:RelV y u):x=y:=Option.some.inj (r.abs.symm.trans q.abs)
theorem Vals.inj:∀{xs ys:List V} {us:List Value},Vals xs us->Vals ys us->xs=ys
 | _,_,_,.nil,.nil=>rfl
 | _,_,_,.cons r t,.cons r' t'=>by rw[r.inj r',Vals.inj t t']
section
variable {X:Cx}{pins:List (Addr×Obj)}{σ:St}{H:Hp}{s:Shared}{a:Addr}{xs ys:List V}
theorem nv.of{K:PySem.W.Frag}(h:H a=some (.lst xs)):nv K H a xs:=.inl (.inl h)
theorem tP.of{K:PySem.W.Frag}(h:H a=some (.tup xs)):tP K H a xs:=.inl (.inl h)
theorem Inv.list(I:Inv X pins σ H s)(h:nv X.K H a xs):∃its:List Value,Vals xs its/\PlainL s.heap a its.toArray/\xs.length<=sizeLine:=by
 rcases h with h | ⟨o,its,n,hk,hc,hd,hs,hz,r⟩
 ·obtain⟨z,its,n,r,e⟩:=h.ok I.aY
  exact⟨its,r,⟨_,n,e,rfl,rfl,rfl⟩,z⟩
 ·refine⟨its.toList,r,⟨o,n,I.jT a o hk,hc,hd,by simpa using hs⟩,?_⟩
  have e:=r.length
  simp only[Array.length_toList]at e
  lia
theorem Inv.tuple(I:Inv X pins σ H s)(h:tP X.K H a xs):∃its:List Value,Vals xs its/\IsTup s.heap a its.toArray/\xs.length<=sizeLine:=by
 rcases h with h | ⟨o,its,n,hk,hc,hs,hz,r⟩
 ·obtain⟨z,its,r,p⟩:=h.ok I.aY
  exact⟨its,r,p,z⟩
 ·refine⟨its.toList,r,⟨o,I.jT a o hk,hc,n,by simpa using hs⟩,?_⟩
  have e:=r.length
  simp only[Array.length_toList]at e
  lia
theorem Inv.xQ(I:Inv X pins σ H s)(h:nv X.K H a xs)(h':nv X.K H a ys):xs=ys:=by
 obtain⟨its,r,⟨o,n,e,_,_,d⟩,_⟩:=I.list h
 obtain⟨its',r',⟨o',n',e',_,_,d'⟩,_⟩:=I.list h'
 rw[e]at e';cases e'
 rw[d]at d'
 injection d' with d1 _
 have:its=its':=by simpa using congrArg Array.toList d1
 subst this
 exact r.inj r'
theorem Inv.DW(I:Inv X pins σ H s)(h:tP X.K H a xs)(h':tP X.K H a ys):xs=ys:=by
 obtain⟨its,r,⟨o,e,_,n,d⟩,_⟩:=I.tuple h
 obtain⟨its',r',⟨o',e',_,n',d'⟩,_⟩:=I.tuple h'
 rw[e]at e';cases e'
 rw[d]at d'
 injection d' with d1 _
 have:its=its':=by simpa using congrArg Array.toList d1
 subst this
 exact r.inj r'
end
abbrev Cx.wish(X:Cx)(E:Value->Shared->Prop):Cx:={ X with xe:=E }
abbrev Cx.sJ(X:Cx):Cx:=X.wish λ_ _=>False
theorem Cx.Ok.wish{X:Cx}(ok:X.Ok)(E:Value->Shared->Prop):(X.wish E).Ok:=
 ⟨ok.mod,ok.kind,ok.glob,ok.blt,ok.above,ok.inj,ok.has,ok.U7,ok.hd,ok.frames,ok.YF,ok.exf,ok.bs,ok.FW,ok.Jx,ok.Pb,ok.lE,ok.Gs⟩
theorem Cx.Ok.jZ{X:Cx}{E:Value->Shared->Prop}(ok:(X.wish E).Ok):X.Ok:=
 ⟨ok.mod,ok.kind,ok.glob,ok.blt,ok.above,ok.inj,ok.has,ok.U7,ok.hd,ok.frames,ok.YF,ok.exf,ok.bs,ok.FW,ok.Jx,ok.Pb,ok.lE,ok.Gs⟩
section
variable {X:Cx}{pins:List (Addr×Obj)}{σ:St}{H:Hp}{s:Shared}{E:Value->Shared->Prop}
theorem Inv.wish(I:Inv X pins σ H s)(E:Value->Shared->Prop):Inv (X.wish E) pins σ H s:=⟨I.ok.wish E,I.os,I.bare,I.base,I.loc,I.cell,I.free,I.iR,I.pin,I.aY,I.len⟩
theorem Inv.jZ(I:Inv (X.wish E) pins σ H s):Inv X pins σ H s:=⟨I.ok.jZ,I.os,I.bare,I.base,I.loc,I.cell,I.free,I.iR,I.pin,I.aY,I.len⟩
theorem SP.jZ{D:Ends}{f:Flow}{s':Shared}(h:SP (X.wish E) pins D f s'):SP X pins D f s':=by
 cases f with
 | next=>obtain⟨σ',H',I,q⟩:=h;exact⟨σ',H',I.jZ,q⟩
 | brk=>obtain⟨σ',H',I,q⟩:=h;exact⟨σ',H',I.jZ,q⟩
 | cont=>obtain⟨σ',H',I,q⟩:=h;exact⟨σ',H',I.jZ,q⟩
 | ret u=>obtain⟨v,σ',H',I,r,q⟩:=h;exact⟨v,σ',H',I.jZ,r,q⟩
theorem wz.sJ{st:List Stmt}{t:TS}(h:wz X.sJ st t):wz X st t:=λpins s σ H D I hw=>
 wpAny_mono (h pins s σ H D (I.wish _) hw) (λ_ _ q=>q.jZ) λ_ _ z=>False.elim z
end
section
variable {X:Cx}{st:Stmt}{rest:List Stmt}{t u:TS}{e:Expr}{te:TE}{pos:Pos}
def t9:TS:=λD σ H=>D.nx σ H
def DX(t u:TS):TS:=λD σ H=>t { D with nx:=u D } σ H
theorem Nr:wz X [] t9:=λ_ _ σ H _ I h=>wpAny_execs_nil ⟨σ,H,I,h⟩
theorem Io(h1:PS X st t)(h2:wz X rest u):wz X (st::rest) (DX t u):=by
 intro pins s σ H D I h
 refine wpAny_execs_cons (cw (h1 pins s σ H { D with nx:=u D } I h) λf s1 q=>?_)
 cases f with
 | next=>
  obtain⟨σ',H',I',q⟩:=q
  exact h2 pins s1 σ' H' D I' q
 | ret v=>exact q
 | brk=>exact q
 | cont=>exact q
theorem Nq(h1:PS X st t):wz X [st] t:=by
 intro pins s σ H D I h
 refine wpAny_execs_cons (cw (h1 pins s σ H D I h) λf s1 q=>?_)
 cases f with
 | next=>exact wpAny_execs_nil q
 | ret v=>exact q
 | brk=>exact q
 | cont=>exact q
theorem Inv.quiet{pins:List (Addr×Obj)}{σ:St}{H:Hp}{s:Shared}(I:Inv X pins σ H s):interactive X.env=false:=by simp[interactive,I.ok.kind]
def wW(te:TE):TS:=λD σ H=>te σ H λ_ H1=>D.nx σ H1
theorem BG(he:PE X e te)(hs:swapsWith e none pos.line X.env=pure false:=by rfl):PS X (.Expr e pos) (wW te):=by
 intro pins s σ H D I h
 exact wpAny_Expr_any (cw (he pins s σ H _ I h) λv s1 ⟨x,H1,I1,r1,q1⟩=>⟨σ,H1,I1,q1⟩) I.quiet hs
def G5(te:TE):TS:=λD σ H=>te σ H D.rt
theorem RN(he:PE X e te):PS X (.Return (some e) pos) (G5 te):=by
 intro pins s σ H D I h
 exact wpAny_Return_some (cw (he pins s σ H _ I h) λv s1 ⟨x,H1,I1,r1,q1⟩=>⟨x,σ,H1,I1,r1,q1⟩)
def G4:TS:=λD _ H=>D.rt .non H
def D'(c:TT)(t u:TS):TS:=λD σ H=>c σ H λb H1=>if b=true then t D σ H1 else u D σ H1
theorem V5{c:Expr}{a b:List Stmt}{tc:TT}(hc:PT X c tc)(ha:wz X a t)(hb:wz X b u):PS X (.If c a b pos) (D' tc t u):=by
 intro pins s σ H D I h
 refine wpAny_If (cw (hc pins s σ H _ I h) λd s1 ⟨H1,I1,q1⟩=>?_)
 cases d with
 | true=>exact ha pins s1 σ H1 D I1 q1
 | false=>exact hb pins s1 σ H1 D I1 q1
def yT:TS:=λ_ _ _=>False
end
abbrev TG:=V->St->Hp->(St->Hp->Prop)->Prop
abbrev LQ:=List V->St->Hp->(St->Hp->Prop)->Prop
def PG(X:Cx)(target:Expr)(t:TG):Prop:=
 ∀(pins:List (Addr×Obj)) (s:Shared) (σ:St) (H:Hp) (v:V) (u:Value) (Q:St->Hp->Prop),Inv X pins σ H s->RelV v u->t v σ H Q->
  wpAny (model X.prog X.w) X.A (assign target X.env u) (λ_ s'=>∃σ' H',Inv X pins σ' H' s'/\Q σ' H') X.xe s
def Yp(X:Cx)(ts:List Expr)(t:LQ):Prop:=
 ∀(pins:List (Addr×Obj)) (s:Shared) (σ:St) (H:Hp) (vs:List V) (us:List Value) (Q:St->Hp->Prop),Inv X pins σ H s->Vals vs us->t vs σ H Q->
  wpAny (model X.prog X.w) X.A (assignInOrder ((assignEach ts X.env).map (·.2)) us) (λ_ s'=>∃σ' H',Inv X pins σ' H' s'/\Q σ' H') X.xe s
abbrev Aq:=V->V->V->Hp->(Hp->Prop)->Prop
def Gf(X:Cx)(t:Aq):Prop:=
 ∀(pins:List (Addr×Obj)) (s:Shared) (σ:St) (H:Hp) (o i v:V) (ov iv u:Value) (Q:Hp->Prop),Inv X pins σ H s->RelV o ov->RelV i iv->RelV v u->t o i v H Q->
  wpAny (model X.prog X.w) X.A (setItem ov iv u) (λ_ s'=>∃H',Inv X pins σ H' s'/\Q H') X.xe s
abbrev P0:=V->V->Hp->VK->Prop
def Uj(X:Cx)(op:Operator)(t:P0):Prop:=
 ∀(pins:List (Addr×Obj)) (s:Shared) (σ:St) (H:Hp) (x y:V) (v u:Value) (Q:VK),Inv X pins σ H s->RelV x v->RelV y u->t x y H Q->
  wpAny (model X.prog X.w) X.A (inplaceOp op v u) (EP X pins σ Q) X.xe s
section
variable {X:Cx}{pos:Pos}
def dh(i:Nat):TG:=λv σ H Q=>Q (σ.set i (some v)) H
theorem BP{i:Nat}{x:Str}(hN:X.N.Nodup)(hi:X.N[i]?=some x)(hx:Loc X.env.scope x)(hf:X.fn x=true\/X.env.scope.names.lookup x=some .local:=by first | exact .inl rfl | exact .inr rfl | assumption):PG X (.Name x pos) (dh i):=by
 intro pins s σ H v u Q I r h
 exact wpAny_assign_Name (nO I hN hi hx r (λs' I'=>⟨_,H,I',h⟩) hf)
def O7:LQ:=λvs σ H Q=>vs=[]/\Q σ H
def Cv(t:TG)(u:LQ):LQ:=λvs σ H Q=>∃v r,vs=v::r/\t v σ H λσ' H'=>u r σ' H' Q
theorem NR:Yp X [] O7:=by
 intro pins s σ H vs us Q I r h
 obtain⟨e,h⟩:=h
 subst e
 cases r
 exact assignInOrder_nil ⟨σ,H,I,h⟩
theorem xq{e:Expr}{es:List Expr}{t:TG}{u:LQ}(h1:PG X e t)(h2:Yp X es u)
  (hs:(assignEach (e::es) X.env).map (·.2)=assign e X.env::(assignEach es X.env).map (·.2):=by rfl):Yp X (e::es) (Cv t u):=by
 intro pins s σ H vs us Q I r h
 obtain⟨v,vr,e1,h⟩:=h
 subst e1
 cases r with
 | cons r rr=>
  rw[hs]
  refine assignInOrder_cons (cw (h1 pins s σ H _ _ _ I r h) λ_ s1 ⟨σ1,H1,I1,q1⟩=>?_)
  exact h2 pins s1 σ1 H1 _ _ Q I1 rr q1
def O6(K:PySem.W.Frag)(n:Nat)(t:LQ):TG:=λv σ H Q=>∃a xs,v=.ref a/\tP K H a xs/\xs.length=n/\t xs σ H Q
theorem zb{es:List Expr}{k:Nat}{t:LQ}{n:Nat}(hc:X.calm=true)(h:Yp X es t)
  (hn:(assignEach es X.env).length=n:=by rfl) (Fo:(assignEach es X.env).findIdx? (·.1)=none:=by rfl):PG X (.Tuple es k pos) (O6 X.K n t):=by
 intro pins s σ H v u Q I r hw
 obtain⟨a,xs,e1,hq,hl,hw⟩:=hw
 subst e1
 cases r
 obtain⟨its,rv,ht,hz⟩:=I.tuple hq
 refine assign_Tuple_tuple (I.ok.hd hc) ht (by simp[hn,<-hl,rv.length]) Fo λh' hx=>?_
 have I1:Inv X pins σ H { s with heap:=h' }:=I.kept (t':=s.toks) λb o e=>hx b o (Nat.ne_of_lt (Heap.lt_size e)) e
 exact h pins _ σ H xs _ Q I1 (by simpa using rv) hw
def Kn(to ti:TE)(t:Aq):TG:=λv σ H Q=>to σ H λo H1=>ti σ H1 λi H2=>t o i v H2 λH3=>Q σ H3
theorem Iy{o i:Expr}{to ti:TE}{t:Aq}(ho:PE X o to)(hi:PE X i ti)(hs:Gf X t)
  (ha:∀v,assign (.Subscript o i pos) X.env v=(do
   let ov <-holding [v] (eval o X.env)
   let iv <-holding [v,ov] (eval i X.env)
   standAt pos
   holding [v,ov,iv] (setItem ov iv v)
   release [v,ov,iv] []):=by intro _;rfl):PG X (.Subscript o i pos) (Kn to ti t):=by
 intro pins s σ H v u Q I r h
 rw[ha]
 refine wpAny_bind (wpAny_holding (cw (ho pins s σ H _ I h) λov s1 ⟨x,H1,I1,r1,q1⟩=>?_))
 refine wpAny_bind (wpAny_holding (cw (hi pins s1 σ H1 _ I1 q1) λiv s2 ⟨y,H2,I2,r2,q2⟩=>?_))
 refine wpAny_bind (wpAny_standAt (wpAny_bind (wpAny_holding (cw (hs pins s2 σ H2 x y v ov iv u _ I2 r1 r2 r q2) λ_ s3 ⟨H3,I3,q3⟩=>?_))))
 exact wpAny_release ⟨σ,H3,I3,q3⟩
def qT(te:TE)(g:TG):TS:=λD σ H=>te σ H λx H1=>g x σ H1 D.nx
theorem vF{tg e:Expr}{te:TE}{g:TG}(he:PE X e te)(hg:PG X tg g)(hs:swapsWithSole [tg] e pos.line X.env=pure false:=by rfl)(hw:swappedStores [tg] e X.env=pure none:=by rfl)
  (h1:(assignEach [tg] X.env).map (·.2)=[assign tg X.env]:=by rfl):PS X (.Assign [tg] e pos) (qT te g):=by
 intro pins s σ H D I h
 refine wpAny_Assign_stores (cw (he pins s σ H _ I h) λv s1 ⟨x,H1,I1,r1,q1⟩=>?_) hs hw
 rw[h1]
 exact cw (hg pins s1 σ H1 x v _ I1 r1 q1) λ_ s2 q=>q
theorem RM{i:Nat}{x:Str}{e:Expr}{te:TE}{pos':Pos}(hN:X.N.Nodup)(hi:X.N[i]?=some x)(hx:Loc X.env.scope x)(he:PE X e te)(hs:swapsWith e (some (.Name x pos')) pos.line X.env=pure false:=by rfl)(hf:X.fn x=true\/X.env.scope.names.lookup x=some .local:=by first | exact .inl rfl | exact .inr rfl | assumption) :
  PS X (.Assign [.Name x pos'] e pos) (qT te (dh i)):=by
 intro pins s σ H D I h
 refine wpAny_Assign_Name (cw (he pins s σ H _ I h) λv s1 ⟨y,H1,I1,r1,q1⟩=>?_) hs
 exact nO I1 hN hi hx r1 (λs2 I2=>⟨_,H1,I2,q1⟩) hf
def Vm(i j:Nat)(ta:TA):TS:=λD σ H=>ta σ H λvs H1=>∃v w,vs=[v,w]/\D.nx ((σ.set i (some v)).set j (some w)) H1
def Mp(i:Nat)(te:TE)(ti:P0):TS:=λD σ H=>∃x,σ[i]?=some (some x)/\te σ H λy H1=>ti x y H1 λz H2=>D.nx (σ.set i (some z)) H2
theorem RV{i:Nat}{x:Str}{e:Expr}{te:TE}{op:Operator}{ti:P0}{pos':Pos}(hN:X.N.Nodup)(hi:X.N[i]?=some x)(hx:Loc X.env.scope x)(he:PE X e te)(ho:Uj X op ti)(hf:X.fn x=true\/X.env.scope.names.lookup x=some .local:=by first | exact .inl rfl | exact .inr rfl | assumption) :
  PS X (.AugAssign (.Name x pos') op e pos) (Mp i te ti):=by
 intro pins s σ H D I h
 obtain⟨v,e1,h⟩:=h
 obtain⟨m,hn,hl⟩:=I.loc
 have Z8:U8 X.env.scope x:=by rcases hx with k | k;exact .inl k;exact .inr (.inl k)
 obtain⟨u,r,l⟩:=hl i x v hi e1 Z8
 refine wpAny_AugAssign_Name ?_
 have go:wpAny (model X.prog X.w) X.A (eval e X.env) (λw s₂=>wpAny (model X.prog X.w) X.A (inplaceOp op u w) (λr s₃=>wpAny (model X.prog X.w) X.A (storeName X.env x r) (λ_=>SP X pins D .next) X.xe s₃) X.xe s₂) X.xe s:=by
  refine cw (he pins s σ H _ I h) λw s1 ⟨y,H1,I1,r1,q1⟩=>?_
  refine cw (ho pins s1 σ H1 v y u w _ I1 r r1 q1) λz s2 ⟨zv,H2,I2,r2,q2⟩=>?_
  exact nO I2 hN hi hx r2 (λs3 I3=>⟨_,H2,I3,q2⟩) hf
 rcases l with ⟨hk,hm⟩ | ⟨hk,c,hc,lO⟩
 ·exact wpAny_loadName_local I.ok.kind hk hn hm go
 ·rcases hk with hk | hk
  ·exact wpAny_loadName_cell I.ok.kind hk hc lO go
  ·rcases hx with k | k
   ·have:X.env.scope.names.lookup x=some .free:=hk
    rw[k]at this;cases this
   ·have:X.env.scope.names.lookup x=some .free:=hk
    rw[k]at this;cases this
def wY(to ti te:TE)(yQ:V->V->Hp->VK->Prop)(Rb:P0)(yP:Aq):TS:=λD σ H=>to σ H λo H1=>ti σ H1 λi H2=>yQ o i H2 λx H3=>te σ H3 λy H4=>Rb x y H4 λz H5=>yP o i z H5 λH6=>D.nx σ H6
def Uk(X:Cx)(t:V->V->Hp->VK->Prop):Prop:=
 ∀(pins:List (Addr×Obj)) (s:Shared) (σ:St) (H:Hp) (o i:V) (ov iv:Value) (Q:VK),Inv X pins σ H s->RelV o ov->RelV i iv->t o i H Q->
  wpAny (model X.prog X.w) X.A (getItem ov iv) (EP X pins σ Q) X.xe s
theorem BJ{o i e:Expr}{to ti te:TE}{yQ:V->V->Hp->VK->Prop}{Rb:P0}{yP:Aq}{op:Operator}{GZ:Pos}(ho:PE X o to)(hi:PE X i ti)(hg:Uk X yQ)(he:PE X e te)(hp:Uj X op Rb)(hs:Gf X yP)
  (ha:∀ov iv new,augStore i ov iv new=(do holding [new,ov,iv] (setItem ov iv new);release [new,ov,iv] [];pure .next):=by intros;rfl):PS X (.AugAssign (.Subscript o i GZ) op e pos) (wY to ti te yQ Rb yP):=by
 intro pins s σ H D I h
 refine wpAny_AugAssign_SubscriptAny (cw (ho pins s σ H _ I h) λov s1 ⟨x1,H1,I1,r1,q1⟩=>?_) ha
 refine cw (hi pins s1 σ H1 _ I1 q1) λiv s2 ⟨x2,H2,I2,r2,q2⟩=>?_
 refine cw (hg pins s2 σ H2 x1 x2 ov iv _ I2 r1 r2 q2) λold s3 ⟨x3,H3,I3,r3,q3⟩=>?_
 refine cw (he pins s3 σ H3 _ I3 q3) λv s4 ⟨x4,H4,I4,r4,q4⟩=>?_
 refine cw (hp pins s4 σ H4 x3 x4 old v _ I4 r3 r4 q4) λnew s5 ⟨x5,H5,I5,r5,q5⟩=>?_
 exact cw (hs pins s5 σ H5 x1 x2 x5 ov iv new _ I5 r1 r2 r5 q5) λ_ s6 ⟨H6,I6,q6⟩=>⟨σ,H6,I6,q6⟩
def Uw(f:Int->Int->Int):P0:=λx y H Q=>∃i j,x=.int i/\y=.int j/\Q (.int (f i j)) H
theorem JP:Uj X .Add (Uw λi j=>i+j):=by
 intro pins s σ H x y v u Q I r1 r2 h
 obtain⟨i,j,e1,e2,q⟩:=h
 subst e1;subst e2
 obtain⟨t,rfl⟩:=r1
 obtain⟨t',rfl⟩:=r2
 exact iadd_int ⟨.int _,H,I.tok _,⟨_,rfl⟩,q⟩
theorem Tc:Uj X .Sub (Uw λi j=>i-j):=by
 intro pins s σ H x y v u Q I r1 r2 h
 obtain⟨i,j,e1,e2,q⟩:=h
 subst e1;subst e2
 obtain⟨t,rfl⟩:=r1
 obtain⟨t',rfl⟩:=r2
 exact isub_int ⟨.int _,H,I.tok _,⟨_,rfl⟩,q⟩
def yR(c:TT)(tb:TS):TS:=λD σ H=>∃W:Nat->St->Hp->Prop,(∃m,W m σ H)/\∀m σ H,W m σ H->
 c σ H λb H1=>if b=true then ∃N:St->Hp->Prop,(∀σ' H',N σ' H'->∃m',m'<m/\W m' σ' H')/\tb { D with nx:=N,ct:=N,bk:=D.nx } σ H1 else D.nx σ H1
theorem Ip{c:Expr}{body:List Stmt}{tc:TT}{tb:TS}(hp:PassesOwn (model X.prog X.w) X.A X.env X.xe)(hc:PT X c tc)(hb:wz X body tb):PS X (.While c body [] pos) (yR tc tb):=by
 intro pins s σ H D I h
 obtain⟨W,⟨m0,w0⟩,turn⟩:=h
 refine wpAny_While (codeAny_whileLoop (λn s'=>∃σ' H',Inv X pins σ' H' s'/\W n σ' H') ?_ m0 ⟨σ,H,I,w0⟩)
 rintro n s1 ⟨σ1,H1,I1,w1⟩
 refine wpAny_passesOwn hp (cw (hc pins s1 σ1 H1 _ I1 (turn n σ1 H1 w1)) λb s2 ⟨H2,I2,q2⟩=>?_)
 cases b with
 | true=>
  obtain⟨N,hN,q2⟩:=q2
  rw[if_pos rfl]
  refine wpAny_passesOwn hp (cw (hb pins s2 σ1 H2 _ I2 q2) λf s3 q3=>?_)
  cases f with
  | next=>
   obtain⟨σ3,H3,I3,n3⟩:=q3
   obtain⟨m',hm,w3⟩:=hN σ3 H3 n3
   exact⟨m',hm,σ3,H3,I3,w3⟩
  | cont=>
   obtain⟨σ3,H3,I3,n3⟩:=q3
   obtain⟨m',hm,w3⟩:=hN σ3 H3 n3
   exact⟨m',hm,σ3,H3,I3,w3⟩
  | brk=>exact q3
  | ret v=>exact q3
 | false=>
  rw[if_neg Bool.false_ne_true]
  exact wpAny_execs_nil ⟨σ1,H2,I2,q2⟩
end
structure It where
 go:Nat->Hp->Prop
 DK:Nat->Hp->V->Hp->Prop
 stop:Nat->Hp->Prop
def wF(X:Cx)(pins:List (Addr×Obj))(H:Hp)(b:Addr):Prop:=
 H b=none/\b≠X.env.locals/\b∉X.fs/\(b∈X.ex\/X.s₀.heap.objs.size<=b)/\(∀x c,X.env.cells.lookup x=some c->c≠b)/\∀p∈X.pn++pins,p.1≠b
theorem Inv.O8{X:Cx}{pins:List (Addr×Obj)}{σ:St}{H H':Hp}{s:Shared}{b:Addr}(I:Inv X pins σ H s)(hb:s.heap.objs.size<=b)(hn:H' b=none):wF X pins H' b:=by
 refine⟨hn,Nat.ne_of_gt (Nat.lt_of_lt_of_le I.lt hb),I.Wj hb,.inr (Nat.le_trans I.sz hb),λx c e z=>?_,λp hp z=>?_⟩
 ·obtain⟨v,q⟩:=I.cell x c e
  exact absurd (Nat.lt_of_lt_of_le q.lt (by rw[z];exact hb)) (Nat.lt_irrefl _)
 ·exact absurd (Nat.lt_of_lt_of_le (Heap.lt_size (I.pin p hp).1) (by rw[z];exact hb)) (Nat.lt_irrefl _)
structure Turn(P:Program)(w:World)(K:PySem.W.Frag)(tg:Expr)(J:It)(fp:List Addr)(it:Addr)(tn:Nat->Heap->Prop):Prop where
 mem:it∈fp
 obj:∀i h,tn i h->∀b∈fp,∃o,h.get? b=some o/\∀v,o.data≠.cell v
 keep:∀i h h',tn i h->(∀b∈fp,∀o,h.get? b=some o->h'.get? b=some o)->tn i h'
 item:∀(X:Cx),X.prog=P->X.w=w->X.K=K->X.calm=true->∀(i:Nat) (pins:List (Addr×Obj)) (s:Shared) (σ:St) (H:Hp) (E:Value->Shared->Prop),Inv X pins σ H s->(∀b∈fp,wF X pins H b)->tn i s.heap->J.go i H->
  wpAny (model P w) X.A (pyNext (.ref it)) (λr s1=>∃u,r=some u/\
   wpAny (model P w) X.A (letOwnedTupleGo tg (.ref it) u) (λ_ s2=>∃x H',Inv X pins σ H' s2/\RelV x u/\J.DK i H x H'/\tn (i+1) s2.heap/\∀b∈fp,H' b=none) E s1) E s
 done:∀(X:Cx),X.prog=P->X.w=w->X.K=K->X.calm=true->∀(i:Nat) (pins:List (Addr×Obj)) (s:Shared) (σ:St) (H:Hp) (E:Value->Shared->Prop),Inv X pins σ H s->(∀b∈fp,wF X pins H b)->tn i s.heap->J.stop i H->
  wpAny (model P w) X.A (pyNext (.ref it)) (λr s1=>r=none/\Inv X pins σ H s1) E s
 self:∀(A:Around) (i:Nat) (s:Shared) (Q:Value->Shared->Prop) (E:Value->Shared->Prop),tn i s.heap->Q (.ref it) s->wpAny (model P w) A (pyIter (.ref it)) Q E s
abbrev TI:=St->Hp->(It->Hp->Prop)->Prop
def PIE(X:Cx)(pins:List (Addr×Obj))(σ:St)(tg:Expr)(R:It->Hp->Prop)(Zc:Value)(s2:Shared):Prop:=
 ∃(it:Addr) (fp:List Addr) (tn:Nat->Heap->Prop) (J:It) (H':Hp),Zc=.ref it/\Inv X pins σ H' s2/\Turn X.prog X.w X.K tg J fp it tn/\tn 0 s2.heap/\(∀b∈fp,wF X pins H' b)/\R J H'
def PI(X:Cx)(tg iter:Expr)(wi:TI):Prop:=
 ∀(pins:List (Addr×Obj)) (s:Shared) (σ:St) (H:Hp) (R:It->Hp->Prop),Inv X pins σ H s->wi σ H R->
  wpAny (model X.prog X.w) X.A (eval iter X.env) (λv s1=>wpAny (model X.prog X.w) X.A (pyIter v) (PIE X pins σ tg R) X.xe s1) X.xe s
theorem Cu{M : Model}{A : Around}{E : Value → Shared → Prop}{s : Shared}{tg : Expr}{it : Addr}{u : Value}{o : Obj}{n : String}{vs : Array Value}{Q : Unit → Shared → Prop}(ho : s.heap.get? it=some o)(hc : o.cls=.type n)(hd : o.data=.fields vs)
    (hn : ["enumerate", "zip", "dict_itemiterator", "dict_reverseitemiterator", "odict_iterator", "itertools.zip_longest", "itertools.pairwise"].contains n=false) (hQ : Q () s) : wpAny M A (letOwnedTupleGo tg (.ref it) u) Q E s := by
  unfold letOwnedTupleGo
  cases tg <;> first
    | exact wpAny_pure hQ
    | (cases u <;> first
        | exact wpAny_pure hQ
        | (refine wpAny_bind (wpAny_load ho ?_)
           rw[hc, hd]
           show wpAny M A (if (["enumerate", "zip", "dict_itemiterator", "dict_reverseitemiterator", "odict_iterator", "itertools.zip_longest", "itertools.pairwise"].contains n&&vs[0]? == some (rawInt _))=true then _ else _) Q E s
           rw[if_neg (by intro h; rw[hn, Bool.false_and]at h; cases h)]
           exact wpAny_pure hQ))
def Av(K:PySem.W.Frag)(a:Addr):It:=
 ⟨λi H=>∃xs x,nv K H a xs/\xs[i]?=some x,λi H x H'=>H'=H/\∀xs,nv K H a xs->xs[i]?=some x,λi H=>∃xs,nv K H a xs/\xs.length<=i⟩
def P4(K:PySem.W.Frag)(a:Addr):It:=
 ⟨λi H=>∃xs x,tP K H a xs/\xs[i]?=some x,λi H x H'=>H'=H/\∀xs,tP K H a xs->xs[i]?=some x,λi H=>∃xs,tP K H a xs/\xs.length<=i⟩
def Au(lo:Int)(n:Nat):It:=⟨λi _=>i<n,λi H x H'=>H'=H/\x=.int (lo+i),λi _=>n<=i⟩
theorem DS{P:Program}{w:World}{K:PySem.W.Frag}{tg:Expr}(a it:Addr):Turn P w K tg (Av K a) [it] it (λi h=>h.IsListIter it a i) where
 mem:=by simp
 obj:=λi h st b hb=>by
  have e:b=it:=by simpa using hb
  subst e
  obtain⟨o,e,c,d⟩:=st
  exact⟨o,e,λv z=>by rw[d]at z;cases z⟩
 keep:=λi h h' st k=>st.at λo e=>k it (by simp) o e
 item:=by
  intro X hP hw hK hc i pins s σ H E I hf st hg
  subst hP hw hK
  obtain⟨xs,x,hq,hx⟩:=hg
  obtain⟨its,rv,p,hz⟩:=I.list hq
  obtain⟨u,hu,ru⟩:=rv.get hx
  obtain⟨f0,f1,f2,f3,f4,f5⟩:=hf it (by simp)
  refine wpAny_pyNext_list_item st p.isList (x:=u) (by simpa using hu) λh' bf sb=>?_
  have I1:Inv X pins σ H { s with heap:=h' }:=I.turned (t':=s.toks) (λb o hb e=>(sb.2 b hb).trans e) f0 f1 f3 f4 f5
  obtain⟨o,e,c,d⟩:=id bf
  exact⟨u,rfl,Cu (s:={ s with heap:=h' }) e c d (by decide) ⟨x,H,I1,ru,⟨rfl,λys hy=>by rw[I.xQ hy hq];exact hx⟩,bf,λb hb=>(hf b hb).1⟩⟩
 done:=by
  intro X hP hw hK hc i pins s σ H E I hf st hg
  subst hP hw hK
  obtain⟨xs,hq,hx⟩:=hg
  obtain⟨its,rv,p,hz⟩:=I.list hq
  obtain⟨f0,f1,f2,f3,f4,f5⟩:=hf it (by simp)
  have hl:=rv.length
  exact wpAny_pyNext_list_end (I.ok.hd hc) st p.isList (by simp;lia) λh' eb=>⟨rfl,I.turned (t':=s.toks) (λb o hb e=>eb b o hb e) f0 f1 f3 f4 f5⟩
 self:=λ_ _ _ _ _ st h=>wpAny_pyIter_listiter st h
theorem yN{P:Program}{w:World}{K:PySem.W.Frag}{tg:Expr}(a it:Addr):Turn P w K tg (P4 K a) [it] it (λi h=>h.IsTupleIter it a i) where
 mem:=by simp
 obj:=λi h st b hb=>by
  have e:b=it:=by simpa using hb
  subst e
  obtain⟨o,e,c,d⟩:=st
  exact⟨o,e,λv z=>by rw[d]at z;cases z⟩
 keep:=λi h h' st k=>st.at λo e=>k it (by simp) o e
 item:=by
  intro X hP hw hK hc i pins s σ H E I hf st hg
  subst hP hw hK
  obtain⟨xs,x,hq,hx⟩:=hg
  obtain⟨its,rv,p,hz⟩:=I.tuple hq
  obtain⟨u,hu,ru⟩:=rv.get hx
  obtain⟨f0,f1,f2,f3,f4,f5⟩:=hf it (by simp)
  refine wpAny_pyNext_tuple_item st (show s.heap.IsTuple a its.toArray from p) (x:=u) (by simpa using hu) λh' bf sb=>?_
  have I1:Inv X pins σ H { s with heap:=h' }:=I.turned (t':=s.toks) (λb o hb e=>(sb.2 b hb).trans e) f0 f1 f3 f4 f5
  obtain⟨o,e,c,d⟩:=id bf
  exact⟨u,rfl,Cu (s:={ s with heap:=h' }) e c d (by decide) ⟨x,H,I1,ru,⟨rfl,λys hy=>by rw[I.DW hy hq];exact hx⟩,bf,λb hb=>(hf b hb).1⟩⟩
 done:=by
  intro X hP hw hK hc i pins s σ H E I hf st hg
  subst hP hw hK
  obtain⟨xs,hq,hx⟩:=hg
  obtain⟨its,rv,p,hz⟩:=I.tuple hq
  obtain⟨f0,f1,f2,f3,f4,f5⟩:=hf it (by simp)
  have hl:=rv.length
  exact wpAny_pyNext_tuple_end (I.ok.hd hc) st (show s.heap.IsTuple a its.toArray from p) (by simp;lia) λh' eb=>⟨rfl,I.turned (t':=s.toks) (λb o hb e=>eb b o hb e) f0 f1 f3 f4 f5⟩
 self:=λ_ _ _ _ _ st h=>wpAny_pyIter_tupleiter st h
theorem yO{P:Program}{w:World}{K:PySem.W.Frag}{tg:Expr}(it:Addr)(lo:Int)(n:Nat):Turn P w K tg (Au lo n) [it] it (λi h=>IsRangeIter h it (lo+(i:Nat)*1) ((n:Int)-(i:Nat)) 1) where
 mem:=by simp
 obj:=λi h st b hb=>by
  have e:b=it:=by simpa using hb
  subst e
  exact⟨_,st,λv z=>by
   have z':Data.fields _=Data.cell v:=z
   cases z'⟩
 keep:=λi h h' st k=>k it (by simp) _ st
 item:=by
  intro X hP hw hK hc i pins s σ H E I hf st hg
  subst hP hw hK
  obtain⟨f0,f1,f2,f3,f4,f5⟩:=hf it (by simp)
  have W:=Walks.range (prog:=X.prog) (w:=X.w) (I.ok.hd hc) it lo 1 n
  refine W.item i s _ _ hg st λv h' tk hv bf kk=>?_
  obtain⟨t,rfl⟩:=hv
  have I1:Inv X pins σ H { s with heap:=h',toks:=tk }:=I.turned (λb o hb e=>kk b o (by simpa using hb) e) f0 f1 f3 f4 f5
  refine⟨_,rfl,Cu (s:={ s with heap:=h',toks:=tk }) (n:="range_iterator") bf rfl rfl (by decide) ⟨.int (lo+i),H,I1,⟨t,?_⟩,⟨rfl,rfl⟩,bf,λb hb=>(hf b hb).1⟩⟩
  rw[Int.mul_one]
 done:=by
  intro X hP hw hK hc i pins s σ H E I hf st hg
  subst hP hw hK
  obtain⟨f0,f1,f2,f3,f4,f5⟩:=hf it (by simp)
  exact wpAny_pyNext_range_end (I.ok.hd hc) st (by have:n<=i:=hg;lia) λh' eb=>⟨rfl,I.turned (t':=s.toks) (λb o hb e=>eb b o hb e) f0 f1 f3 f4 f5⟩
 self:=λ_ _ _ _ _ st h=>wpAny_pyIter_rangeiter st h
end L2
namespace L2
open PySem PySem.Spec PyProof.Rows
section
variable {X:Cx}{tg:Expr}
def yd(K:PySem.W.Frag)(tl:TE):TI:=λσ H R=>tl σ H λx H1=>∃a,x=.ref a/\(∃xs,nv K H1 a xs)/\R (Av K a) H1
def JQ(K:PySem.W.Frag)(tl:TE):TI:=λσ H R=>tl σ H λx H1=>∃a,x=.ref a/\(∃xs,tP K H1 a xs)/\R (P4 K a) H1
theorem NQ{l:Expr}{tl:TE}(hl:PE X l tl):PI X tg l (yd X.K tl):=by
 intro pins s σ H R I h
 refine cw (hl pins s σ H _ I h) λv s1 ⟨x,H1,I1,r1,q1⟩=>?_
 obtain⟨a,e,⟨xs,hq⟩,q⟩:=q1
 subst e
 cases r1
 obtain⟨its,rv,p,hz⟩:=I1.list hq
 refine wpAny_pyIter_list p.isList ?_
 refine⟨s1.heap.objs.size,[s1.heap.objs.size],_,_,H1,rfl,I1.kept (t':=s1.toks) λb o e=>Heap.get?_push_of_some _ e,DS a _,⟨_,Heap.get?_push_size _ rfl,rfl,rfl⟩,λb hb=>?_,q⟩
 have e:b=s1.heap.objs.size:=by simpa using hb
 subst e
 exact I1.O8 (Nat.le_refl _) (I1.aY.fresh (Nat.le_refl _))
theorem RZ{l:Expr}{tl:TE}(hl:PE X l tl):PI X tg l (JQ X.K tl):=by
 intro pins s σ H R I h
 refine cw (hl pins s σ H _ I h) λv s1 ⟨x,H1,I1,r1,q1⟩=>?_
 obtain⟨a,e,⟨xs,hq⟩,q⟩:=q1
 subst e
 cases r1
 obtain⟨its,rv,p,hz⟩:=I1.tuple hq
 refine wpAny_pyIter_tuple (show s1.heap.IsTuple a its.toArray from p) ?_
 refine⟨s1.heap.objs.size,[s1.heap.objs.size],_,_,H1,rfl,I1.kept (t':=s1.toks) λb o e=>Heap.get?_push_of_some _ e,yN a _,⟨_,Heap.get?_push_size _ rfl,rfl,rfl⟩,λb hb=>?_,q⟩
 have e:b=s1.heap.objs.size:=by simpa using hb
 subst e
 exact I1.O8 (Nat.le_refl _) (I1.aY.fresh (Nat.le_refl _))
theorem HJ{pins:List (Addr×Obj)}{σ:St}{H:Hp}{s:Shared}{R:It->Hp->Prop}{E:Value->Shared->Prop}{lo hi:Int}{t u v:Tok}{tk:Nat}(I:Inv X pins σ H s)(h1 : -(2 ^ 62)<=lo)(h2:lo<2 ^ 62)(h3 : -(2 ^ 62)<=hi)(h4:hi<2 ^ 62)
  (q:R (Au lo (hi-lo).toNat) H):wpAny (model X.prog X.w) X.A (pyIter (.ref s.heap.objs.size)) (PIE X pins σ tg R) E { s with heap:=s.heap.push { cls:=.type "range",data:=.fields #[.int lo t,.int hi u,.int 1 v] },toks:=tk }:=by
 refine wpAny_pyIter_range (IsRange.new ..) (small_one h1 h2 h3 h4) ?_
 have I1:Inv X pins σ H { s with heap:=s.heap.push { cls:=.type "range",data:=.fields #[.int lo t,.int hi u,.int 1 v] },toks:=tk }:=I.kept λb o e=>Heap.get?_push_of_some _ e
 refine⟨(s.heap.push { cls:=.type "range",data:=.fields #[.int lo t,.int hi u,.int 1 v] }).objs.size,[(s.heap.push { cls:=.type "range",data:=.fields #[.int lo t,.int hi u,.int 1 v] }).objs.size],_,_,H,rfl,
  I1.kept (t':=tk) λb o e=>Heap.get?_push_of_some _ e,yO _ lo (hi-lo).toNat,?_,λb hb=>?_,q⟩
 ·have e1:lo+((0:Nat):Int)*1=lo:=by simp
  have e2:(((hi-lo).toNat:Nat):Int)-((0:Nat):Int)=Builtin.Range.rangeSize lo hi 1:=by rw[rangeSize_one];split <;> lia
  show IsRangeIter _ _ (lo+((0:Nat):Int)*1) ((((hi-lo).toNat:Nat):Int)-((0:Nat):Int)) 1
  rw[e1,e2]
  exact Heap.get?_push_size _ rfl
 ·have e:b=(s.heap.push { cls:=.type "range",data:=.fields #[.int lo t,.int hi u,.int 1 v] }).objs.size:=by simpa using hb
  subst e
  exact I1.O8 (Nat.le_refl _) (I1.aY.fresh (Nat.le_refl _))
def yc(ta:TA):TI:=λσ H R=>ta σ H λvs H1=>∃j:Int,vs=[.int j]/\-(2 ^ 62)<=j/\j<2 ^ 62/\R (Au 0 j.toNat) H1
def JS(ta:TA):TI:=λσ H R=>ta σ H λvs H1=>∃i j:Int,vs=[.int i,.int j]/\(-(2 ^ 62)<=i/\i<2 ^ 62/\-(2 ^ 62)<=j/\j<2 ^ 62)/\R (Au i (j-i).toNat) H1
theorem uw{a:Expr}{ta:TA}{p pos:Pos}(hg:Gl X "range")(hm:X.mg "range" = none)(ha:PA X [a] ta)(hs:starEach [a] X.env=[(false,eval a X.env)]:=by rfl):PI X tg (.Call (.Name "range" p) [a] [] pos) (yc ta):=by
 intro pins s σ H R I h
 refine Call_ (pd I hg hm boot_range (PyProof.Rows.callWith_type1 (cw (ha pos pins s σ H _ I h) λus s1 ⟨vs,H1,I1,r1,q1⟩=>?_) hs rfl))
 obtain⟨j,e,q1,q2,q⟩:=q1
 subst e
 cases r1 with
 | cons r rr=>
  cases rr
  obtain⟨t,rfl⟩:=r
  exact call_range_1 (HJ I1 (by lia) (by lia) q1 q2 (by simpa using q))
def Mi(wi:TI)(g:TG)(tb:TS):TS:=λD σ H=>wi σ H λJ H1=>∃W:Nat->Nat->St->Hp->Prop,(∃m,W 0 m σ H1)/\∀i m σ H,W i m σ H->
 (J.stop i H/\D.nx σ H)\/(J.go i H/\∃N:St->Hp->Prop,(∀σ' H',N σ' H'->∃m',m'<m/\W (i+1) m' σ' H')/\∀x H',J.DK i H x H'->g x σ H' λσ2 H2=>tb { D with nx:=N,ct:=N,bk:=D.nx } σ2 H2)
def rj(fp:List Addr)(h:Heap):List (Addr×Obj):=fp.filterMap λb=>(h.get? b).map λo=>(b,o)
theorem ji{fp:List Addr}{h:Heap}{b:Addr}{o:Obj}(hb:b∈fp)(e:h.get? b=some o):(b,o)∈rj fp h:=List.mem_filterMap.mpr ⟨b,hb,by rw[e];rfl⟩
theorem Ew{fp:List Addr}{h:Heap}{p:Addr×Obj}(hp:p∈rj fp h):p.1∈fp/\h.get? p.1=some p.2:=by
 obtain⟨b,hb,e⟩:=List.mem_filterMap.mp hp
 cases q:h.get? b with
 | none=>rw[q]at e;cases e
 | some o=>
  rw[q]at e
  have e':(b,o)=p:=Option.some.inj e
  subst e'
  exact⟨hb,q⟩
theorem Inv.pinned{pins:List (Addr×Obj)}{σ:St}{H:Hp}{s:Shared}{fp:List Addr}(I:Inv X pins σ H s)(hf:∀b∈fp,wF X pins H b)(ho:∀b∈fp,∃o,s.heap.get? b=some o/\∀v,o.data≠.cell v):Inv X (pins++rj fp s.heap) σ H s:=
 I.BK λp hp=>(List.mem_append.mp hp).elim (λz=>I.pin p (List.mem_append_right _ z)) λz=>by
  obtain⟨hb,e⟩:=Ew z
  obtain⟨f0,f1,f2,_⟩:=hf p.1 hb
  obtain⟨o,e',d⟩:=ho p.1 hb
  rw[e]at e';cases e'
  exact⟨e,f0,f1,f2,d⟩
theorem Inv.nL{pins pl:List (Addr×Obj)}{σ:St}{H:Hp}{s:Shared}(I:Inv X (pins++pl) σ H s):Inv X pins σ H s:=I.BK λp hp=>I.pin p (List.mem_append_right _ (List.mem_append_left _ hp))
theorem RP{iter:Expr}{body:List Stmt}{wi:TI}{g:TG}{tb:TS}{pos:Pos}(hp:PassesOwn (model X.prog X.w) X.A X.env X.xe)(hc:X.calm=true)(hi:PI X tg iter wi)(hg:PG X tg g)(hb:wz X body tb)
  (hs:∀x,foldedSetIterable iter X.env x=pure x:=by intro _;rfl):PS X (.For tg iter body [] pos) (Mi wi g tb):=by
 intro pins s σ H D I h
 refine wpAny_For (cw (hi pins s σ H _ I h) λv s1 h1=>cw h1 λZc s2 h2=>?_) hs
 obtain⟨it,fp,tn,J,H2,e,I2,T,Gk,f2,W,⟨m0,w0⟩,turn⟩:=h2
 subst e
 have stat:∀{H':Hp},(∀b∈fp,H' b=none)->∀b∈fp,wF X pins H' b:=λhn b hb=>⟨hn b hb,(f2 b hb).2⟩
 refine codeAny_forLoop_any (λn s'=>∃i σ' H',Inv X pins σ' H' s'/\tn i s'.heap/\(∀b∈fp,H' b=none)/\W i n σ' H') ?_ m0 ⟨0,σ,H2,I2,Gk,λb hb=>(f2 b hb).1,w0⟩
 rintro n s3 ⟨i,σ3,H3,I3,st3,fr3,w3⟩
 rcases turn i n σ3 H3 w3 with ⟨stop,qn⟩ | ⟨go,N,hN,step⟩
 ·refine wpAny_passesOwn hp (cw (T.done X rfl rfl rfl hc i pins s3 σ3 H3 X.xe I3 (stat fr3) st3 stop) λr s4 ⟨hr,I4⟩=>?_)
  subst hr
  exact wpAny_execs_nil ⟨σ3,H3,I4,qn⟩
 ·refine wpAny_passesOwn hp (cw (T.item X rfl rfl rfl hc i pins s3 σ3 H3 X.xe I3 (stat fr3) st3 go) λr s4 ⟨u,hr,h4⟩=>?_)
  subst hr
  refine wpAny_passesOwn hp (cw h4 λ_ s5 ⟨x,H5,I5,r5,y5,st5,fr5⟩=>?_)
  have I5':=I5.pinned (stat fr5) (T.obj _ _ st5)
  refine wpAny_passesOwn hp (cw (hg _ s5 σ3 H5 x u _ I5' r5 (step x H5 y5)) λ_ s6 ⟨σ6,H6,I6,q6⟩=>?_)
  refine wpAny_passesOwn hp (cw (hb _ s6 σ6 H6 _ I6 q6) λf s7 q7=>?_)
  have again:∀{σ7:St} {H7:Hp},Inv X (pins++rj fp s5.heap) σ7 H7 s7->N σ7 H7->∃m,m<n/\∃i σ' H',Inv X pins σ' H' s7/\tn i s7.heap/\(∀b∈fp,H' b=none)/\W i m σ' H':=λ{σ7 H7} I7 n7=>by
   obtain⟨m',hm,w7⟩:=hN σ7 H7 n7
   refine⟨m',hm,i+1,σ7,H7,I7.nL,T.keep _ _ _ st5 λb hb o e=>(I7.pin (b,o) (List.mem_append_right _ (List.mem_append_right _ (ji hb e)))).1,λb hb=>?_,w7⟩
   obtain⟨o,e,d⟩:=T.obj _ _ st5 b hb
   exact(I7.pin (b,o) (List.mem_append_right _ (List.mem_append_right _ (ji hb e)))).2.1
  cases f with
  | next=>obtain⟨σ7,H7,I7,n7⟩:=q7;exact again I7 n7
  | cont=>obtain⟨σ7,H7,I7,n7⟩:=q7;exact again I7 n7
  | brk=>obtain⟨σ7,H7,I7,q7⟩:=q7;exact⟨σ7,H7,I7.nL,q7⟩
  | ret v=>obtain⟨x7,σ7,H7,I7,r7,q7⟩:=q7;exact⟨x7,σ7,H7,I7.nL,r7,q7⟩
end
theorem Ko{K:PySem.W.Frag}{a:Addr}{xs:List V}{g:TG}{tb:TS}{D:Ends}{σ:St}{H:Hp}(Pv:Nat->St->Hp->Prop)(h0:Pv 0 σ H)(hl:∀i σ H,i<=xs.length->Pv i σ H->nv K H a xs)
  (hs:∀i x σ H,xs[i]?=some x->Pv i σ H->g x σ H λσ2 H2=>tb { D with nx:=Pv (i+1),ct:=Pv (i+1),bk:=D.nx } σ2 H2) (hd:∀σ H,Pv xs.length σ H->D.nx σ H) :
  ∃W:Nat->Nat->St->Hp->Prop,(∃m,W 0 m σ H)/\∀i m σ H,W i m σ H->
   ((Av K a).stop i H/\D.nx σ H)\/((Av K a).go i H/\∃N:St->Hp->Prop,(∀σ' H',N σ' H'->∃m',m'<m/\W (i+1) m' σ' H')/\∀x H',(Av K a).DK i H x H'->g x σ H' λσ2 H2=>tb { D with nx:=N,ct:=N,bk:=D.nx } σ2 H2):=by
 refine⟨λi m σ H=>m=xs.length-i/\i<=xs.length/\Pv i σ H,⟨xs.length,by simp,Nat.zero_le _,h0⟩,?_⟩
 rintro i m σ H ⟨rfl,hi,p⟩
 have q:=hl i σ H hi p
 by_cases fE:i<xs.length
 ·refine .inr ⟨⟨xs,xs[i],q,by simp[fE]⟩,Pv (i+1),λσ' H' p'=>⟨xs.length-(i+1),by lia,rfl,fE,p'⟩,λx H' y=>?_⟩
  obtain⟨e,y⟩:=y
  subst e
  exact hs i x σ _ (y xs q) p
 ·have e:i=xs.length:=by lia
  subst e
  exact .inl ⟨⟨xs,q,Nat.le_refl _⟩,hd σ H p⟩
theorem Pa{K:PySem.W.Frag}{a:Addr}{xs:List V}{g:TG}{tb:TS}{D:Ends}{σ:St}{H:Hp}(Pv:Nat->St->Hp->Prop)(h0:Pv 0 σ H)(hl:∀i σ H,i<=xs.length->Pv i σ H->tP K H a xs)
  (hs:∀i x σ H,xs[i]?=some x->Pv i σ H->g x σ H λσ2 H2=>tb { D with nx:=Pv (i+1),ct:=Pv (i+1),bk:=D.nx } σ2 H2) (hd:∀σ H,Pv xs.length σ H->D.nx σ H) :
  ∃W:Nat->Nat->St->Hp->Prop,(∃m,W 0 m σ H)/\∀i m σ H,W i m σ H->
   ((P4 K a).stop i H/\D.nx σ H)\/((P4 K a).go i H/\∃N:St->Hp->Prop,(∀σ' H',N σ' H'->∃m',m'<m/\W (i+1) m' σ' H')/\∀x H',(P4 K a).DK i H x H'->g x σ H' λσ2 H2=>tb { D with nx:=N,ct:=N,bk:=D.nx } σ2 H2):=by
 refine⟨λi m σ H=>m=xs.length-i/\i<=xs.length/\Pv i σ H,⟨xs.length,by simp,Nat.zero_le _,h0⟩,?_⟩
 rintro i m σ H ⟨rfl,hi,p⟩
 have q:=hl i σ H hi p
 by_cases fE:i<xs.length
 ·refine .inr ⟨⟨xs,xs[i],q,by simp[fE]⟩,Pv (i+1),λσ' H' p'=>⟨xs.length-(i+1),by lia,rfl,fE,p'⟩,λx H' y=>?_⟩
  obtain⟨e,y⟩:=y
  subst e
  exact hs i x σ _ (y xs q) p
 ·have e:i=xs.length:=by lia
  subst e
  exact .inl ⟨⟨xs,q,Nat.le_refl _⟩,hd σ H p⟩
theorem Fx{lo:Int}{n:Nat}{g:TG}{tb:TS}{D:Ends}{σ:St}{H:Hp}(Pv:Nat->St->Hp->Prop)(h0:Pv 0 σ H)
  (hs:∀i σ H,i<n->Pv i σ H->g (.int (lo+i)) σ H λσ2 H2=>tb { D with nx:=Pv (i+1),ct:=Pv (i+1),bk:=D.nx } σ2 H2) (hd:∀σ H,Pv n σ H->D.nx σ H) :
  ∃W:Nat->Nat->St->Hp->Prop,(∃m,W 0 m σ H)/\∀i m σ H,W i m σ H->
   ((Au lo n).stop i H/\D.nx σ H)\/((Au lo n).go i H/\∃N:St->Hp->Prop,(∀σ' H',N σ' H'->∃m',m'<m/\W (i+1) m' σ' H')/\∀x H',(Au lo n).DK i H x H'->g x σ H' λσ2 H2=>tb { D with nx:=N,ct:=N,bk:=D.nx } σ2 H2):=by
 refine⟨λi m σ H=>m=n-i/\i<=n/\Pv i σ H,⟨n,by simp,Nat.zero_le _,h0⟩,?_⟩
 rintro i m σ H ⟨rfl,hi,p⟩
 by_cases fE:i<n
 ·refine .inr ⟨fE,Pv (i+1),λσ' H' p'=>⟨n-(i+1),by lia,rfl,fE,p'⟩,λx H' y=>?_⟩
  obtain⟨e,y⟩:=y
  subst e y
  exact hs i σ _ fE p
 ·have e:i=n:=by lia
  subst e
  exact .inl ⟨Nat.le_refl _,hd σ H p⟩
end L2
namespace L2
open PySem PySem.Spec PyProof.Rows
abbrev R2:=V->V->Hp->VK->Prop
def lH(X:Cx)(f:Value->Value->Sem Value)(r:R2):Prop:=
 ∀(pins:List (Addr×Obj)) (s:Shared) (σ:St) (H:Hp) (x y:V) (v u:Value) (Q:VK),Inv X pins σ H s->RelV x v->RelV y u->r x y H Q->
  wpAny (model X.prog X.w) X.A (f v u) (EP X pins σ Q) X.xe s
def Z4(X:Cx)(f:Value->Sem Value)(r:V->Hp->VK->Prop):Prop:=
 ∀(pins:List (Addr×Obj)) (s:Shared) (σ:St) (H:Hp) (x:V) (v:Value) (Q:VK),Inv X pins σ H s->RelV x v->r x H Q->
  wpAny (model X.prog X.w) X.A (f v) (EP X pins σ Q) X.xe s
def dD(X:Cx)(f:Value)(r:List V->Hp->VK->Prop):Prop:=
 ∀(pins:List (Addr×Obj)) (s:Shared) (σ:St) (H:Hp) (xs:List V) (us:List Value) (Q:VK),Inv X pins σ H s->Vals xs us->r xs H Q->
  wpAny (model X.prog X.w) X.A (call f us) (EP X pins σ Q) X.xe s
def G6(r:R2)(ta tb:TE):TE:=λσ H Q=>ta σ H λx H1=>tb σ H1 λy H2=>r x y H2 Q
def Vj(r:V->Hp->VK->Prop)(ta:TE):TE:=λσ H Q=>ta σ H λx H1=>r x H1 Q
def rI(C:Int->Int->Prop)(g:Int->Int->V):R2:=λx y H Q=>∃i j,x=.int i/\y=.int j/\C i j/\Q (g i j) H
def HN(g:Int->Int->V):R2:=λx y H Q=>∃i j,x=.int i/\y=.int j/\Q (g i j) H
def rU(g:Int->V):V->Hp->VK->Prop:=λx H Q=>∃i,x=.int i/\Q (g i) H
section
variable {X:Cx}{a b c:Expr}{ta tb tc:TE}{pos:Pos}
theorem Ud(ha:PE X a ta)(hb:PE X b tb){pins:List (Addr×Obj)}{s:Shared}{σ:St}{H:Hp}{R:V->V->Hp->Prop}(I:Inv X pins σ H s)
  (h:ta σ H λx H1=>tb σ H1 λy H2=>R x y H2) {Q:Value->Shared->Prop} {f:Value->Value->Sem Value}
  (hf:∀v u s2 x y H2,Inv X pins σ H2 s2->RelV x v->RelV y u->R x y H2->wpAny (model X.prog X.w) X.A (f v u) Q X.xe s2) :
  wpAny (model X.prog X.w) X.A (eval a X.env) (λv s₁=>wpAny (model X.prog X.w) X.A (eval b X.env) (λu s₂=>wpAny (model X.prog X.w) X.A (f v u) Q X.xe s₂) X.xe s₁) X.xe s:=by
 refine cw (ha pins s σ H _ I h) λv s1 ⟨x,H1,I1,r1,q1⟩=>?_
 refine cw (hb pins s1 σ H1 _ I1 q1) λu s2 ⟨y,H2,I2,r2,q2⟩=>?_
 exact hf v u s2 x y H2 I2 r1 r2 q2
theorem V8{op:Operator}{r:R2}(ho:lH X (binaryOp op) r)(ha:PE X a ta)(hb:PE X b tb):PE X (.BinOp a op b pos) (G6 r ta tb):=by
 intro pins s σ H Q I h
 exact wpAny_BinOp (Ud ha hb I h λv u s2 x y H2 I2 rx ry q=>ho pins s2 σ H2 x y v u Q I2 rx ry q)
theorem V7{op:UnaryOp}{r:V->Hp->VK->Prop}(ho:Z4 X (unaryOp op) r)(ha:PE X a ta):PE X (.UnaryOp op a pos) (Vj r ta):=by
 intro pins s σ H Q I h
 exact UnaryOp_ (cw (ha pins s σ H _ I h) λv s1 ⟨x,H1,I1,r1,q1⟩=>ho pins s1 σ H1 x v Q I1 r1 q1)
theorem Y0{f:Value->Value->Sem Value}{C:Int->Int->Prop}{g:Int->Int->Int}
  (rule:∀(i j:Int) (t u:Tok) (s:Shared) (Q:Value->Shared->Prop) (E:Value->Shared->Prop),C i j->Q (.int (g i j) s.toks) { s with toks:=s.toks+1 }->wpAny (model X.prog X.w) X.A (f (.int i t) (.int j u)) Q E s) :
  lH X f (rI C λi j=>.int (g i j)):=by
 intro pins s σ H x y v u Q I rx ry h
 obtain⟨i,j,rfl,rfl,hc,q⟩:=h
 obtain⟨t,rfl⟩:=rx
 obtain⟨t',rfl⟩:=ry
 exact rule i j t t' s _ _ hc ⟨.int (g i j),H,I.tok _,⟨_,rfl⟩,q⟩
theorem Wg{f:Value->Value->Sem Value}{g:Int->Int->Int}
  (rule:∀(i j:Int) (t u:Tok) (s:Shared) (Q:Value->Shared->Prop) (E:Value->Shared->Prop),Q (.int (g i j) s.toks) { s with toks:=s.toks+1 }->wpAny (model X.prog X.w) X.A (f (.int i t) (.int j u)) Q E s) :
  lH X f (HN λi j=>.int (g i j)):=by
 intro pins s σ H x y v u Q I rx ry h
 obtain⟨i,j,rfl,rfl,q⟩:=h
 obtain⟨t,rfl⟩:=rx
 obtain⟨t',rfl⟩:=ry
 exact rule i j t t' s _ _ ⟨.int (g i j),H,I.tok _,⟨_,rfl⟩,q⟩
theorem N7{f:Value->Value->Sem Value}{g:Int->Int->Bool}
  (rule:∀(i j:Int) (t u:Tok) (s:Shared) (Q:Value->Shared->Prop) (E:Value->Shared->Prop),Q (.bool (g i j)) s->wpAny (model X.prog X.w) X.A (f (.int i t) (.int j u)) Q E s) :
  lH X f (HN λi j=>.bl (g i j)):=by
 intro pins s σ H x y v u Q I rx ry h
 obtain⟨i,j,rfl,rfl,q⟩:=h
 obtain⟨t,rfl⟩:=rx
 obtain⟨t',rfl⟩:=ry
 exact rule i j t t' s _ _ ⟨.bl (g i j),H,I,rfl,q⟩
def Yv(i j:Int):Prop:=0<=j/\j<=1000000/\i.natAbs<2 ^ 64
def jC(i j:Int):Prop:=(-(2 ^ 64)<i/\i<2 ^ 64)\/(-(2 ^ 64)<j/\j<2 ^ 64)
theorem jC.ok{i j:Int}(h:jC i j):IntMulOk i j:=by
 rcases h with ⟨h1,h2⟩ | ⟨h1,h2⟩
 ·exact .of_left (intBits_le_64 h1 h2)
 ·exact .of_right (intBits_le_64 h1 h2)
theorem fB:lH X (binaryOp .Add) (HN λi j=>.int (i+j)):=Wg λ_ _ _ _ _ _ _ q=>add_int q
theorem zh:lH X (binaryOp .Sub) (HN λi j=>.int (i-j)):=Wg λ_ _ _ _ _ _ _ q=>sub_int q
theorem mO:lH X (binaryOp .Mult) (rI jC λi j=>.int (i*j)):=Y0 λ_ _ _ _ _ _ _ hc q=>mul_int q hc.ok
theorem j9:lH X (binaryOp .Mod) (rI (λ_ j=>0<j) λi j=>.int (i%j)):=Y0 λi j _ _ _ _ _ hc q=>by
 have h1:(0:Int)<j:=hc
 exact mod_int' (by lia) (by rw[Int.fmod_eq_emod_of_nonneg i (by lia)];exact q)
theorem vH:lH X (binaryOp .Pow) (rI Yv λi j=>.int (i ^ j.toNat)):=Y0 λ_ _ _ _ _ _ _ hc q=>pow_int_small hc.1 hc.2.1 hc.2.2 q
theorem unI{f:Value->Sem Value}{g:Int->Int}
  (rule:∀(i:Int) (t:Tok) (s:Shared) (Q:Value->Shared->Prop) (E:Value->Shared->Prop),Q (.int (g i) s.toks) { s with toks:=s.toks+1 }->wpAny (model X.prog X.w) X.A (f (.int i t)) Q E s) :
  Z4 X f (rU λi=>.int (g i)):=by
 intro pins s σ H x v Q I rx h
 obtain⟨i,rfl,q⟩:=h
 obtain⟨t,rfl⟩:=rx
 exact rule i t s _ _ ⟨.int (g i),H,I.tok _,⟨_,rfl⟩,q⟩
theorem Q8:Z4 X (unaryOp .USub) (rU λi=>.int (-i)):=unI λ_ _ _ _ _ q=>neg_int q
end
def Hr:V->V->Bool
 | .non,.non=>true | .non,.int _=>true | .int _,.non=>true | .non,.bl _=>true | .bl _,.non=>true | .non,.str _=>true | .str _,.non=>true
 | .int _,.int _=>true | .bl _,.bl _=>true | .str _,.str _=>true | .Gv _,.Gv _=>true
 | .int _,.str _=>true | .str _,.int _=>true | .bl _,.str _=>true | .str _,.bl _=>true
 | _,_=>false
def YX:R2:=λx y H Q=>Hr x y=true/\Q (.bl (decide (x=y))) H
def YW:R2:=λx y H Q=>Hr x y=true/\Q (.bl (!decide (x=y))) H
theorem CQ{i j:Int}:decide (V.int i=V.int j)=(i==j):=by
 rw[Bool.eq_iff_iff]
 simp
theorem Kx{i j:Bool}:decide (V.bl i=V.bl j)=(i==j):=by
 rw[Bool.eq_iff_iff]
 simp
theorem CP{i j:Str}:decide (V.str i=V.str j)=(i==j):=by
 rw[Bool.eq_iff_iff]
 simp
theorem CT{i j:Array UInt8}:decide (V.Gv i=V.Gv j)=(i.toList==j.toList):=by
 rw[Bool.eq_iff_iff]
 cases i
 cases j
 simp
section
variable {X:Cx}{a b c:Expr}{ta tb tc:TE}{pos:Pos}
theorem bL{pins:List (Addr×Obj)}{σ:St}{H:Hp}{s:Shared}{Q:VK}{k k':Bool}(I:Inv X pins σ H s)(q:Q (.bl k) H)(e:k=k'):EP X pins σ Q (.bool k') s:=by
 subst e
 exact⟨.bl k,H,I,rfl,q⟩
theorem n5:lH X (compareOp .Eq) YX:=by
 intro pins s σ H x y v u Q I rx ry h
 obtain⟨hs,q⟩:=h
 cases x with
 | non=>
  cases rx
  cases y with
  | non=>cases ry;exact PySem.EqNone.eq_none_none (bL I q (by simp))
  | bl j=>cases ry;exact PySem.EqNone.eq_none_bool (bL I q (by simp))
  | int j=>obtain⟨t',rfl⟩:=ry;exact PySem.EqNone.eq_none_int (bL I q (by simp))
  | str j=>obtain⟨t',rfl⟩:=ry;exact PySem.EqNone.eq_none_str (bL I q (by simp))
  | _=>exact absurd (show false=true from hs) Bool.false_ne_true
 | bl i=>
  cases rx
  cases y with
  | non=>cases ry;exact PySem.EqNone.eq_bool_none (bL I q (by simp))
  | bl j=>cases ry;exact eq_bool (bL I q Kx)
  | str j=>obtain⟨t',rfl⟩:=ry;exact PySem.EqMixed.eq_bool_str (bL I q (by simp))
  | _=>exact absurd (show false=true from hs) Bool.false_ne_true
 | int i=>
  obtain⟨t,rfl⟩:=rx
  cases y with
  | non=>cases ry;exact PySem.EqNone.eq_int_none (bL I q (by simp))
  | int j=>obtain⟨t',rfl⟩:=ry;exact eq_int (bL I q CQ)
  | str j=>obtain⟨t',rfl⟩:=ry;exact PySem.EqMixed.eq_int_str (bL I q (by simp))
  | _=>exact absurd (show false=true from hs) Bool.false_ne_true
 | str i=>
  obtain⟨t,rfl⟩:=rx
  cases y with
  | non=>cases ry;exact PySem.EqNone.eq_str_none (bL I q (by simp))
  | bl j=>cases ry;exact PySem.EqMixed.eq_str_bool (bL I q (by simp))
  | int j=>obtain⟨t',rfl⟩:=ry;exact PySem.EqMixed.eq_str_int (bL I q (by simp))
  | str j=>obtain⟨t',rfl⟩:=ry;exact eq_str (bL I q CP)
  | _=>exact absurd (show false=true from hs) Bool.false_ne_true
 | Gv i=>
  obtain⟨t,rfl⟩:=rx
  cases y with
  | Gv j=>obtain⟨t',rfl⟩:=ry;exact PySem.W.eq_bytes (bL I q CT)
  | _=>exact absurd (show false=true from hs) Bool.false_ne_true
 | _=>cases y <;> exact absurd (show false=true from hs) Bool.false_ne_true
theorem BV:lH X (compareOp .NotEq) YW:=by
 intro pins s σ H x y v u Q I rx ry h
 obtain⟨hs,q⟩:=h
 cases x with
 | non=>
  cases rx
  cases y with
  | non=>cases ry;exact PySem.EqNone.ne_none_none (bL I q (by simp))
  | bl j=>cases ry;exact PySem.EqNone.ne_none_bool (bL I q (by simp))
  | int j=>obtain⟨t',rfl⟩:=ry;exact PySem.EqNone.ne_none_int (bL I q (by simp))
  | str j=>obtain⟨t',rfl⟩:=ry;exact PySem.EqNone.ne_none_str (bL I q (by simp))
  | _=>exact absurd (show false=true from hs) Bool.false_ne_true
 | bl i=>
  cases rx
  cases y with
  | non=>cases ry;exact PySem.EqNone.ne_bool_none (bL I q (by simp))
  | bl j=>cases ry;exact ne_bool (bL I q (congrArg not Kx))
  | str j=>obtain⟨t',rfl⟩:=ry;exact PySem.EqMixed.ne_bool_str (bL I q (by simp))
  | _=>exact absurd (show false=true from hs) Bool.false_ne_true
 | int i=>
  obtain⟨t,rfl⟩:=rx
  cases y with
  | non=>cases ry;exact PySem.EqNone.ne_int_none (bL I q (by simp))
  | int j=>obtain⟨t',rfl⟩:=ry;exact ne_int (bL I q (congrArg not CQ))
  | str j=>obtain⟨t',rfl⟩:=ry;exact PySem.EqMixed.ne_int_str (bL I q (by simp))
  | _=>exact absurd (show false=true from hs) Bool.false_ne_true
 | str i=>
  obtain⟨t,rfl⟩:=rx
  cases y with
  | non=>cases ry;exact PySem.EqNone.ne_str_none (bL I q (by simp))
  | bl j=>cases ry;exact PySem.EqMixed.ne_str_bool (bL I q (by simp))
  | int j=>obtain⟨t',rfl⟩:=ry;exact PySem.EqMixed.ne_str_int (bL I q (by simp))
  | str j=>obtain⟨t',rfl⟩:=ry;exact ne_str (bL I q (congrArg not CP))
  | _=>exact absurd (show false=true from hs) Bool.false_ne_true
 | Gv i=>
  obtain⟨t,rfl⟩:=rx
  cases y with
  | Gv j=>obtain⟨t',rfl⟩:=ry;exact PySem.W.ne_bytes (bL I q (congrArg not CT))
  | _=>exact absurd (show false=true from hs) Bool.false_ne_true
 | _=>cases y <;> exact absurd (show false=true from hs) Bool.false_ne_true
theorem Ji:lH X (compareOp .Lt) (HN λi j=>.bl (decide (i<j))):=N7 λ_ _ _ _ _ _ _ q=>lt_int q
theorem Wd:lH X (compareOp .LtE) (HN λi j=>.bl (decide (i<=j))):=N7 λ_ _ _ _ _ _ _ q=>le_int q
theorem Jj:lH X (compareOp .Gt) (HN λi j=>.bl (decide (j<i))):=N7 λ_ _ _ _ _ _ _ q=>gt_int q
theorem Wf:lH X (compareOp .GtE) (HN λi j=>.bl (decide (j<=i))):=N7 λ_ _ _ _ _ _ _ q=>ge_int q
theorem cF(b:Expr){op:CmpOp}(h:op≠.In:=by decide)(h2:op≠.NotIn:=by decide):behindInMarks op b=false:=by
 have e1:(op==CmpOp.In)=false:=by cases op <;> first | rfl | exact absurd rfl h
 have e2:(op==CmpOp.NotIn)=false:=by cases op <;> first | rfl | exact absurd rfl h2
 cases b <;> simp[behindInMarks,e1,e2]
theorem N2{op:CmpOp}{r:R2}(ho:lH X (compareOp op) r)(ha:PE X a ta)(hb:PE X b tb)(hm:behindInMarks op b=false):PE X (.Compare a [op] [b] pos) (G6 r ta tb):=by
 intro pins s σ H Q I h
 exact wpAny_Compare1 (Ud ha hb I h λv u s2 x y H2 I2 rx ry q=>ho pins s2 σ H2 x y v u Q I2 rx ry q) hm
def wR(t:TE):TT:=λσ H Q=>t σ H λx H'=>∃k,x=.bl k/\Q k H'
theorem Np{op:CmpOp}{r:R2}(ho:lH X (compareOp op) r)(ha:PE X a ta)(hb:PE X b tb)(hm:behindInMarks op b=false):PT X (.Compare a [op] [b] pos) (wR (G6 r ta tb)):=by
 intro pins s σ H Q I h
 refine wpAny_isTrue_Compare1 (cw (ha pins s σ H _ I h) λv s1 ⟨x,H1,I1,r1,q1⟩=>cw (hb pins s1 σ H1 _ I1 q1) λu s2 ⟨y,H2,I2,r2,q2⟩=>
  cw (ho pins s2 σ H2 x y v u _ I2 r1 r2 q2) λc s3 ⟨z,H3,I3,r3,k,e,q3⟩=>?_) hm
 subst e
 cases r3
 exact wpAny_truthy_bool ⟨H3,I3,q3⟩
theorem rD:(sizeLine:Nat)<2 ^ 63:=by rw[sizeLine_eq];decide
theorem vals1{x:V}{us:List Value}(r:Vals [x] us):∃u,us=[u]/\RelV x u:=by
 cases r with
 | cons r1 r2=>cases r2;exact⟨_,rfl,r1⟩
theorem K0:dD X (.builtin "abs") (λxs H Q=>∃i,xs=[.int i]/\Q (.int (if i<0 then -i else i)) H):=by
 intro pins s σ H xs us Q I r h
 obtain⟨i,rfl,q⟩:=h
 obtain⟨u,rfl,t,rfl⟩:=vals1 r
 exact call_abs_int λu tk=>⟨.int (if i<0 then -i else i),H,I.tok _,⟨_,rfl⟩,q⟩
end
end L2
namespace L2
open PySem PySem.Spec PyProof.Rows
structure Ar(h:Heap)(x dx C:Addr)(mA:Str->Option Value):Prop where
 obj:h.get? x=some (PySem.W.instObj C dx)
 ns:h.Ns1 dx mA
 ne:dx≠x
theorem Fc{h:Heap}{dx:Addr}{mA:Str->Option Value}(n:h.Ns1 dx mA):∃od,h.get? dx=some od/\∀name,PySem.W.lookIn name od=some (mA name):=by
 obtain⟨o,es,ep,ho,hd,hk,_,hm⟩:=n
 refine⟨o,ho,λname=>?_⟩
 have e:=hm name
 unfold nsFind findBy at e
 rw[<-Array.find?_toList]at e
 unfold PySem.W.lookIn
 rw[hd]
 dsimp only
 split
 ·rename_i y q
  rw[q]at e
  exact congrArg some e
 ·rename_i q
  rw[q]at e
  have a:es.toList.any (·.refKey)=false:=by
   rw[List.any_eq_false]
   intro y hy
   obtain⟨z,t,hkey⟩:=hk y (Array.mem_toList_iff.mp hy)
   simp[DictEntry.refKey,hkey]
  have a':¬es.toList.any (·.refKey)=true:=by rw[a];exact Bool.false_ne_true
  rw[if_neg a']
  exact congrArg some e
theorem Ar.look{h:Heap}{x dx C:Addr}{mA:Str->Option Value}(I:Ar h x dx C mA):∃od,PySem.W.InstAt h x (PySem.W.instObj C dx) C (some od)/\∀name,PySem.W.lookIn name od=some (mA name):=
 let ⟨od,ho,hl⟩:=Fc I.ns
 ⟨od,⟨I.obj,rfl,rfl,ho⟩,hl⟩
section
variable {prog:Program}{w:World}{A:Around}{E:Value->Shared->Prop}{s:Shared}{K:PySem.W.Frag}{x dx C f:Addr}{mA:Str->Option Value}{name:Str}{v:Value}
theorem get_map{expr:Bool}{Q:Value->Shared->Prop}(X:K.In s.heap)(I:Ar s.heap x dx C mA)(hg:PySem.W.plainGet K C name=true)(hh:PySem.W.hasDictIn K C=true)
  (ha:PySem.W.findIn K (.ref C) name=some none) (hv:mA name=some v) (Oq:PySem.W.handedIn v=true) (h:Q v { s with toks:=s.toks+1 }) :
  wpAny (model prog w) A (getAttr (.ref x) name expr) Q E s:=by
 obtain⟨od,J,hl⟩:=I.look
 exact PySem.W.get_value X J (PySem.W.plainGet_of hg).1 (PySem.W.findObj_own hh ha rfl (by rw[hl,hv])) Oq h
theorem Kl{pl:Sem Bool}{Q:Value×List Value->Shared->Prop}(X:K.In s.heap)(I:Ar s.heap x dx C mA)(hg:PySem.W.plainGet K C name=true)
  (hf:PySem.W.findIn K (.ref C) name=some (some (.ref f))) (ht:PySem.W.isFn K (.ref f)=true) (hv:mA name=none) (h:Q (.ref f,[.ref x]) s) :
  wpAny (model prog w) A (getMethod (.ref x) name pl) Q E s:=by
 obtain⟨od,J,hl⟩:=I.look
 exact PySem.W.method_fn X J (PySem.W.plainGet_of hg).1 (PySem.W.plainGet_of hg).2 hf (beq_iff_eq.mp ht) (by show(PySem.W.lookIn name od).map (·.isSome)=some false;rw[hl,hv];rfl) h
theorem MK{ns:List Str}{Q:Unit->Shared->Prop}(X:K.In s.heap)(I:Ar s.heap x dx C mA)
  (hs:PySem.W.findIn K (.ref C) "__setattr__" = some (some (.builtin "object.__setattr__"))) (hp:PySem.W.plainOver K C=true) (ht:PySem.W.takerIn K C name=some none) (hh:PySem.W.hasDictIn K C=true)
  (hw:PySem.Within mA ns) (hsz:ns.length<=sizeLine)
  (h:∀h',Ar h' x dx C (λy=>if y=name then some v else mA y)->Heap.SameBut dx s.heap h'->Q () { s with heap:=h',toks:=s.toks+2 }) :
  wpAny (model prog w) A (setAttr (.ref x) name v) Q E s:=by
 obtain⟨od,J,hl⟩:=I.look
 refine PySem.W.set_plain X J hs (PySem.W.osa_open (s:={ s with toks:=s.toks+1 }) (r:=none) X J hp ht λb=>?_)
 obtain⟨cd,hc,Xb⟩:=PySem.W.any_some hh
 have hx:s.heap.get? x=some ⟨.ref C,some dx,.plain,#[]⟩:=I.obj
 refine wpAny_bind (wpAny_pure (wpAny_bind (wpAny_bind (wpAny_loadPart hx (wpAny_bind (PySem.W.Looks.here (s:={ s with toks:=s.toks+1 }) (PySem.W.looks_clsIn X hc) ?_))))))
 rw[Xb]
 refine wpAny_pure (a:=some dx) (wpAny_bind (wpAny_pure (wpAny_bind ?_)))
 refine wpAny_nsSet1 (s:={ s with toks:=s.toks+1 }) I.ns λh' Gr Zf=>?_
 obtain⟨oD,esD,epD,hoD,hdD,hcD⟩:=Gr.count (PySem.Within.cons name v hw)
 refine wpAny_bind (wpAny_lookBehind hoD (by rw[hdD];exact pastItsLine_dict (Nat.le_trans hcD (by rw[List.length_cons];lia))) ?_)
 exact wpAny_pure (h _ ⟨(Zf.2 _ (Ne.symm I.ne)).trans I.obj,Gr,I.ne⟩ Zf)
theorem JF{R:Result->Shared->Prop}{vs:List Value}{kw:List (Str×Value)}(X:K.In s.heap)(hm:PySem.W.makesIn K C=true)
  (hi:PySem.W.findIn K (.ref C) "__init__" = some (some (.ref f))) (hf:PySem.W.typeIn K (.ref f)=some (.type "function"))
  (h:codeAny (model prog w) (A.under (.builtin "type.__call__" ⟨.ref C::vs,kw⟩)) (.call (.ref f) ⟨.ref (s.heap.objs.size+1)::vs,kw⟩) (PySem.W.InitBack (s.heap.objs.size+1) R)
   { s with heap:=(s.heap.push PySem.W.emptyDict).push (PySem.W.instObj C s.heap.objs.size) }) :
  codeAny (model prog w) A (.call (.ref C) ⟨vs,kw⟩) R s:=by
 obtain⟨hh,g,d,t,os⟩:=s
 exact PySem.W.make_core (PySem.W.makes_of X hm) (PySem.W.looks_findIn X hi) (λself=>PySem.W.bind_fn X self hf) (.inl rfl) h
end
def j7(f:Str)(v:V):List (Str×V)->List (Str×V)
 | []=>[(f,v)]
 | (g,x)::r=>if g=f then (g,v)::r else (g,x)::j7 f v r
theorem pY(f g:Str)(v:V):∀fs:List (Str×V),(j7 f v fs).lookup g=if g=f then some v else fs.lookup g
 | []=>by
  show List.lookup g [(f,v)]=_
  by_cases h:g=f
  ·have hb:(g==f)=true:=beq_iff_eq.mpr h
   simp only[List.lookup,hb,if_pos h]
  ·have hb:(g==f)=false:=beq_eq_false_iff_ne.mpr h
   simp only[List.lookup,hb,if_neg h]
 | (k,x)::r=>by
  have ih:=pY f g v r
  rw[show j7 f v ((k,x)::r)=(if k=f then (k,v)::r else (k,x)::j7 f v r) from rfl]
  by_cases hk:k=f
  ·rw[if_pos hk]
   by_cases h:g=k
   ·have hb:(g==k)=true:=beq_iff_eq.mpr h
    simp only[List.lookup,hb,if_pos (h.trans hk)]
   ·have hb:(g==k)=false:=beq_eq_false_iff_ne.mpr h
    simp only[List.lookup,hb,if_neg (λe:g=f=>h (e.trans hk.symm))]
  ·rw[if_neg hk]
   by_cases h:g=k
   ·have hb:(g==k)=true:=beq_iff_eq.mpr h
    simp only[List.lookup,hb,if_neg (λe:g=f=>hk (h.symm.trans e))]
   ·have hb:(g==k)=false:=beq_eq_false_iff_ne.mpr h
    simp only[List.lookup,hb]
    exact ih
theorem ph(f:Str)(v:V):∀fs:List (Str×V),f∈(j7 f v fs).map (·.1)/\∀g,g∈fs.map (·.1)->g∈(j7 f v fs).map (·.1)
 | []=>⟨by simp[j7],λg h=>by simp at h⟩
 | (k,x)::r=>by
  obtain⟨i1,i2⟩:=ph f v r
  rw[show j7 f v ((k,x)::r)=(if k=f then (k,v)::r else (k,x)::j7 f v r) from rfl]
  by_cases hk:k=f
  ·rw[if_pos hk]
   subst hk
   exact⟨by simp,λg h=>by simpa using h⟩
  ·rw[if_neg hk]
   refine⟨?_,λg h=>?_⟩
   ·rw[List.map_cons]
    exact List.mem_cons_of_mem _ i1
   ·rw[List.map_cons]at h ⊢
    rcases List.mem_cons.mp h with e | e
    ·exact List.mem_cons.mpr (.inl e)
    ·exact List.mem_cons_of_mem _ (i2 g e)
theorem pZ(f:Str)(v:V):∀fs:List (Str×V),(j7 f v fs).length<=fs.length+1
 | []=>by simp[j7]
 | (k,x)::r=>by
  have ih:=pZ f v r
  rw[show j7 f v ((k,x)::r)=(if k=f then (k,v)::r else (k,x)::j7 f v r) from rfl]
  by_cases hk:k=f
  ·rw[if_pos hk,List.length_cons,List.length_cons];lia
  ·rw[if_neg hk,List.length_cons,List.length_cons];lia
theorem lG.some_of{v:V}{o:Option Value}(r:lG (some v) o):∃u,o=some u/\RelV v u:=by
 cases o with
 | none=>exact(show False from r).elim
 | some u=>exact⟨u,rfl,r⟩
theorem lG.none_of{o:Option Value}(r:lG none o):o=none:=by
 cases o with
 | none=>rfl
 | some u=>exact(show False from r).elim
theorem Fv{v:V}{u:Value}(r:RelV v u):PySem.W.handedIn u=true:=by
 cases v with
 | non=>cases (show u=Value.none from r);rfl
 | bl b=>cases (show u=Value.bool b from r);rfl
 | int i=>obtain⟨t,e⟩:=(show ∃t,u=Value.int i t from r);cases e;rfl
 | str x=>obtain⟨t,e⟩:=(show ∃t,u=Value.str x t from r);cases e;rfl
 | Gv b=>obtain⟨t,e⟩:=(show ∃t,u=Value.bytes b t from r);cases e;rfl
 | T6 b=>obtain⟨t,e⟩:=(show ∃t,u=Value.float b t from r);cases e;rfl
 | ref a=>cases (show u=Value.ref a from r);rfl
 | ty n=>cases (show u=Value.type n from r);rfl
section
variable {P:Program}{w:World}{H H':Hp}{h h':Heap}{a C dx:Addr}{fs fs':List (Str×V)}
theorem ow(aY:fP P w H h)(e:H a=some (.ins C dx fs)):∃mA,Ar h a dx C mA/\(∀f,lG (fs.lookup f) (mA f))/\PySem.Within mA (fs.map (·.1))/\fs.length<=1000/\H dx=some (.own a):=by
 obtain⟨d,z,ne,ob,mA,n,r,q⟩:=(show cI P w H h a (.ins C dx fs) from aY a _ e)
 exact⟨mA,⟨ob,n,ne⟩,r,q,z,d⟩
end
structure Cls(K:PySem.W.Frag)(C:Addr):Prop where
 pg:PySem.W.plainGet K C Str.empty=true
 hd:PySem.W.hasDictIn K C=true
 po:PySem.W.plainOver K C=true
 sa:PySem.W.findIn K (.ref C) "__setattr__" = some (some (.builtin "object.__setattr__"))
theorem Cls.get{K:PySem.W.Frag}{C:Addr}(c:Cls K C)(f:Str):PySem.W.plainGet K C f=true:=c.pg
def gq(K:PySem.W.Frag)(C:Addr)(f:Str):Prop:=PySem.W.findIn K (.ref C) f=some none
theorem gq.Vf{K:PySem.W.Frag}{C:Addr}{f:Str}(n:gq K C f):PySem.W.takerIn K C f=some none:=by
 unfold PySem.W.takerIn
 rw[show PySem.W.findIn K (.ref C) f=some none from n]
 rfl
structure Meth(K:PySem.W.Frag)(C:Addr)(m:Str)(f:Addr):Prop where
 at_:PySem.W.findIn K (.ref C) m=some (some (.ref f))
 fn:PySem.W.isFn K (.ref f)=true
 kp:PySem.W.keepIn K (.ref f)=true
section
variable {X:Cx}{pins:List (Addr×Obj)}{σ:St}{H:Hp}{s:Shared}{a C dx:Addr}{fs:List (Str×V)}{f:Str}{v:V}{A:Around}{E:Value->Shared->Prop}
theorem rQ{b:Bool}{Q:Value->Shared->Prop}(I:Inv X pins σ H s)(e:H a=some (.ins C dx fs))(c:Cls X.K C)(n:gq X.K C f)(l:fs.lookup f=some v)
  (h:∀u s',Inv X pins σ H s'->RelV v u->Q u s'):wpAny (model X.prog X.w) A (getAttr (.ref a) f b) Q E s:=by
 obtain⟨mA,O,r,_,_,_⟩:=ow I.aY e
 obtain⟨u,hu,ru⟩:=lG.some_of (v:=v) (o:=mA f) (by rw[<-l];exact r f)
 exact get_map I.jT O (c.get f) c.hd n hu (Fv ru) (h u _ (I.tok _) ru)
theorem rP{m:Str}{g:Addr}{pl:Sem Bool}{Q:Value×List Value->Shared->Prop}(I:Inv X pins σ H s)(e:H a=some (.ins C dx fs))(c:Cls X.K C)(k:Meth X.K C m g)(l:fs.lookup m=none)
  (h:Q (.ref g,[.ref a]) s):wpAny (model X.prog X.w) A (getMethod (.ref a) m pl) Q E s:=by
 obtain⟨mA,O,r,_,_,_⟩:=ow I.aY e
 have hn:mA m=none:=lG.none_of (by rw[<-l];exact r m)
 exact Kl I.jT O (c.get m) k.at_ k.fn hn h
theorem yX{y:V}{u:Value}{Q:Unit->Shared->Prop}(I:Inv X pins σ H s)(e:H a=some (.ins C dx fs))(c:Cls X.K C)(n:gq X.K C f)(hl:fs.length<1000)(ry:RelV y u)
  (h:∀s',Inv X pins σ (upd H a (.ins C dx (j7 f y fs))) s'->Q () s'):wpAny (model X.prog X.w) A (setAttr (.ref a) f u) Q E s:=by
 obtain⟨mA,O,r,wi,_,ho⟩:=ow I.aY e
 have hz:(fs.map (·.1)).length<=sizeLine:=by rw[List.length_map,sizeLine_eq];lia
 refine MK I.jT O c.sa c.po n.Vf c.hd wi hz λh' O' sb=>h _ ?_
 have hd:∃o,h'.get? dx=some o:=let ⟨o,_,_,e',_⟩:=O'.ns;⟨o,e'⟩
 refine I.write (x:=a) (e:=dx) (by rw[e];exact True.intro) (.inr ho) (λb q hb z=>(sb.2 b hb).trans z) hd ?_
 refine⟨by rw[au O.ne];exact ho,?_,O.ne,O'.obj,_,O'.ns,λg=>?_,λg hg=>?_⟩
 ·have:=pZ f y fs;lia
 ·show lG ((j7 f y fs).lookup g) (if g=f then some u else mA g)
  rw[pY]
  by_cases q:g=f
  ·rw[if_pos q,if_pos q];exact ry
  ·rw[if_neg q,if_neg q];exact r g
 ·by_cases q:g=f
  ·rw[q];exact(ph f y fs).1
  ·refine(ph f y fs).2 g (wi g λz=>hg ?_)
   show(if g=f then some u else mA g)=none
   rw[if_neg q];exact z
theorem Inv.made(I:Inv X pins σ H s):Inv X pins σ (upd (upd H s.heap.objs.size (.own (s.heap.objs.size+1))) (s.heap.objs.size+1) (.ins C s.heap.objs.size []))
  { s with heap:=(s.heap.push PySem.W.emptyDict).push (PySem.W.instObj C s.heap.objs.size) }:=by
 have e1:(s.heap.push PySem.W.emptyDict).get? s.heap.objs.size=some PySem.W.emptyDict:=Heap.get?_push_size s.heap rfl
 have e2:((s.heap.push PySem.W.emptyDict).push (PySem.W.instObj C s.heap.objs.size)).get? (s.heap.objs.size+1)=some (PySem.W.instObj C s.heap.objs.size):=by
  have:=Heap.get?_push_size (s.heap.push PySem.W.emptyDict) (o:=PySem.W.instObj C s.heap.objs.size) rfl
  rwa [Heap.size_push]at this
 have e3:(s.heap.push PySem.W.emptyDict).Ns s.heap.objs.size (λ_=>none):=⟨PySem.W.emptyDict,#[],_,e1,rfl,(λe he=>absurd he (by simp)),λ_=>rfl⟩
 have I1:=I.laid (a:=s.heap.objs.size) (o:=.own (s.heap.objs.size+1)) (h':=s.heap.push PySem.W.emptyDict) (t':=s.toks) (λb u q=>Heap.get?_push_of_some _ q) (Nat.le_refl _) ⟨_,e1⟩
 refine I1.laid (a:=s.heap.objs.size+1) (o:=.ins C s.heap.objs.size []) (t':=s.toks) (λb u q=>Heap.get?_push_of_some _ q) (Nat.le_of_eq (Heap.size_push _ _)) ?_
 have ne:s.heap.objs.size≠s.heap.objs.size+1:=Nat.ne_of_lt (Nat.lt_succ_self _)
 refine⟨by rw[au ne,ai],Nat.zero_le _,ne,e2,λ_=>none,(Heap.Ns1.of_empty e3).at λo q=>Heap.get?_push_of_some _ q,λ_=>True.intro,λy hy=>absurd rfl hy⟩
theorem Pz{prog:Program}{w:World}{env:Env}{e:Expr}{f:Str}{pos:Pos}{s:Shared}{Q:Value->Shared->Prop}(hb:attributeBase e f env (eval e env)=eval e env)
  (h:wpAny (model prog w) A (eval e env) (λo s₁=>wpAny (model prog w) A (getAttr o f true) Q E s₁) E s):wpAny (model prog w) A (eval (.Attribute e f pos) env) Q E s:=
 Attribute_any_ h (by rw[arm_eval_Attribute,hb])
end
def Mj(K:PySem.W.Frag)(ta:TE)(f:Str):TE:=λσ H Q=>ta σ H λx H1=>∃a C dx fs v,x=.ref a/\H1 a=some (.ins C dx fs)/\Cls K C/\gq K C f/\fs.lookup f=some v/\Q v H1
def MT(K:PySem.W.Frag)(ta tv:TE)(f:Str):TS:=λD σ H=>tv σ H λy H1=>ta σ H1 λx H2=>∃a C dx fs,x=.ref a/\H2 a=some (.ins C dx fs)/\Cls K C/\gq K C f/\fs.length<1000/\
 D.nx σ (upd H2 a (.ins C dx (j7 f y fs)))
section
variable {X:Cx}{o e value:Expr}{f:Str}{pos pos' GZ:Pos}{ta tv:TE}
theorem R'(he:PE X e ta)(hb:attributeBase e f X.env (eval e X.env)=eval e X.env):PE X (.Attribute e f pos) (Mj X.K ta f):=by
 intro pins s σ H Q I h
 refine Pz hb (cw (he pins s σ H _ I h) λu s1 ⟨x,H1,I1,rx,a,C,dx,fs,v,ex,ea,c,n,l,q⟩=>?_)
 subst ex
 obtain rfl:u=Value.ref a:=rx
 exact rQ I1 ea c n l λu' s2 I2 ru=>⟨v,H1,I2,ru,q⟩
theorem RQ(ha:PE X o ta)(hv:PE X value tv)(hs:swapsWith value (some (.Attribute o f pos')) pos.line X.env=pure false):PS X (.Assign [.Attribute o f pos'] value pos) (MT X.K ta tv f):=by
 intro pins s σ H D I h
 refine plainObj_wpAny_Assign_Attribute (cw (hv pins s σ H _ I h) λu s1 ⟨y,H1,I1,ry,q⟩=>cw (ha pins s1 σ H1 _ I1 q) λov s2 ⟨x,H2,I2,rx,a,C,dx,fs,ex,ea,c,n,l,q2⟩=>?_) hs
 subst ex
 obtain rfl:ov=Value.ref a:=rx
 exact yX I2 ea c n l ry λs3 I3=>⟨σ,_,I3,q2⟩
theorem Qh{pl:Sem Bool}{m:Str}{apos:Pos}{args:List Expr}{pins:List (Addr×Obj)}{s:Shared}{σ:St}{H:Hp}{Q:Value->Shared->Prop}{te:TE}(he:PE X e te)(I:Inv X pins σ H s)
  (h:te σ H λx H1=>∃a C dx fs g,x=.ref a/\H1 a=some (.ins C dx fs)/\Cls X.K C/\Meth X.K C m g/\fs.lookup m=none/\
   ∀s1,Inv X pins σ H1 s1->wpAny (model X.prog X.w) X.A (callWith pos (.ref g) [.ref a] (backTo pos (starEach args X.env)) (backToKw pos (keywordEach [] X.env))) Q X.xe s1)
  (ht:eval (.Call (.Attribute e m apos) args [] pos) X.env=(do
   let ov <-eval e X.env
   standAt apos.atName
   let (f,first) <-holding [ov] (getMethod ov m pl)
   callWith pos f first (backTo pos (starEach args X.env)) (backToKw pos (keywordEach [] X.env)))) :
  wpAny (model X.prog X.w) X.A (eval (.Call (.Attribute e m apos) args [] pos) X.env) Q X.xe s:=by
 refine PySem.W.methodCall_KW (pl:=pl) (cw (he pins s σ H _ I h) λu s1 ⟨x,H1,I1,rx,a,C,dx,fs,g,ex,ea,c,k,l,q⟩=>?_) ht
 subst ex
 obtain rfl:u=Value.ref a:=rx
 exact rP I1 ea c k l (q s1 I1)
end
section
variable {X:Cx}{pins:List (Addr×Obj)}{σ:St}{H:Hp}{s:Shared}{A:Around}{E:Value->Shared->Prop}{Q:Value->Shared->Prop}{c:Value}{b:Bool}
inductive oG (K:PySem.W.Frag) (H:Hp):V->Value->Prop where
 | non:oG K H .non (.type "NoneType")
 | bl (x:Bool):oG K H (.bl x) (.type "bool")
 | int (i:Int):oG K H (.int i) (.type "int")
 | str (x:Str):oG K H (.str x) (.type "str")
 | T6 (x:UInt64):oG K H (.T6 x) (.type "float")
 | lst {a:Addr} {xs:List V} (e:H a=some (.lst xs)):oG K H (.ref a) (.type "list")
 | uQ {a:Addr} {o:Obj} {xs:List V} (e:H a=some (.uQ o (.lst xs))):oG K H (.ref a) (.type "list")
 | tup {a:Addr} {xs:List V} (e:H a=some (.tup xs)):oG K H (.ref a) (.type "tuple")
 | dK {a:Addr} {aG:List (Key×V)} (e:H a=some (.dK aG)):oG K H (.ref a) (.type "dict")
 | dT {a:Addr} {aG:List (List Key×V)} (e:H a=some (.dT aG)):oG K H (.ref a) (.type "dict")
 | ins {a C dx:Addr} {fs:List (Str×V)} (e:H a=some (.ins C dx fs)) (cl:Cls K C) (ha:PySem.W.findIn K (.ref C) "__class__" = some (some (.builtin "object.__class__")))
   (hn:PySem.W.specialIn K (.builtin "object.__class__") "__get__" = some (some (.builtin "getset_descriptor.__get__"))) (htk:PySem.W.takesIn K (.builtin "object.__class__")=some true)
   (hm:PySem.W.mroIn K C (.type "object")=some true):oG K H (.ref a) (.ref C)
theorem Fl{x:V}{u t:Value}(I:Inv X pins σ H s)(rx:RelV x u)(ty:oG X.K H x t)(e:PySem.W.kitOne X.K t c=some b)(h:∀tk,Q (.bool b) { s with toks:=tk }) :
  wpAny (model X.prog X.w) A (call (.builtin "isinstance") [u,c]) Q E s:=by
 cases ty with
 | non=>cases (show u=Value.none from rx);exact PySem.W.kia_one PySem.W.kitx_none I.jT True.intro e (λz=>nomatch z) h
 | bl y=>cases (show u=Value.bool y from rx);exact PySem.W.kia_one PySem.W.kitx_bool I.jT True.intro e (λz=>nomatch z) h
 | int i=>obtain⟨t,q⟩:=(show ∃t,u=Value.int i t from rx);cases q;exact PySem.W.kia_one PySem.W.kitx_int I.jT True.intro e (λz=>nomatch z) h
 | str y=>obtain⟨t,q⟩:=(show ∃t,u=Value.str y t from rx);cases q;exact PySem.W.kia_one PySem.W.kitx_str I.jT True.intro e (λz=>nomatch z) h
 | T6 y=>obtain⟨t,q⟩:=(show ∃t,u=Value.float y t from rx);cases q;exact PySem.W.kia_one PySem.W.kitx_float I.jT True.intro e (λz=>nomatch z) h
 | @lst a xs ea=>
  cases (show u=Value.ref a from rx)
  obtain⟨_,_,n,_,h1⟩:=(show cI X.prog X.w H s.heap a (.lst xs) from I.aY a _ ea)
  exact PySem.W.kia_one PySem.W.kitx_list I.jT ⟨_,h1,rfl⟩ e (λz=>nomatch z) h
 | @uQ a ob xs ea=>
  cases (show u=Value.ref a from rx)
  obtain⟨_,_,_,n,_,h1⟩:=(show cI X.prog X.w H s.heap a (.uQ ob (.lst xs)) from I.aY a _ ea)
  exact PySem.W.kia_one PySem.W.kitx_list I.jT ⟨_,h1,rfl⟩ e (λz=>nomatch z) h
 | @tup a xs ea=>
  cases (show u=Value.ref a from rx)
  obtain⟨_,_,_,p⟩:=(show cI X.prog X.w H s.heap a (.tup xs) from I.aY a _ ea)
  obtain⟨o,h1,h2,_⟩:=p
  exact PySem.W.kia_one PySem.W.kitx_tuple I.jT ⟨o,h1,h2⟩ e (λz=>nomatch z) h
 | @dK a aG ea=>
  cases (show u=Value.ref a from rx)
  obtain⟨_,_,vs,_,p⟩:=(show cI X.prog X.w H s.heap a (.dK aG) from I.aY a _ ea)
  obtain⟨o,es,ep,h1,h2,_⟩:=p
  exact PySem.W.kia_one PySem.W.kitx_dict I.jT ⟨o,h1,h2.1⟩ e (λz=>nomatch z) h
 | @dT a aG ea=>
  cases (show u=Value.ref a from rx)
  obtain⟨_,_,xs,_,o,es,ep,h1,h2,_⟩:=(show cI X.prog X.w H s.heap a (.dT aG) from I.aY a _ ea)
  exact PySem.W.kia_one PySem.W.kitx_dict I.jT ⟨o,h1,h2.1⟩ e (λz=>nomatch z) h
 | @ins a C dx fs ea cl ha hn htk hm=>
  cases (show u=Value.ref a from rx)
  obtain⟨mA,O,_⟩:=ow I.aY ea
  obtain⟨od,J,_⟩:=O.look
  exact PySem.W.kia_one (PySem.W.kitx_own (cl.get _) cl.hd ha hn htk hm) I.jT J e (λz=>nomatch z) h
end
end L2
namespace L2
open PySem PySem.Spec PyProof.Rows
structure bW(k:Nat)(A:Around):Prop where
 hd:A.handled=none
 dp:A.depth+3*k+5<recursionLimit
 un:A.units+16*k+200<cLine
theorem bW.mono{j k:Nat}{A:Around}(r:bW k A)(h:j<=k):bW j A:=⟨r.hd,by have:=r.dp;lia,by have:=r.un;lia⟩
theorem bW.deeper{k:Nat}{A:Around}(r:bW (k+1) A)(env:Env):bW k (A.deeper env):=
 ⟨r.hd,by have:=r.dp;show A.depth+1+3*k+5<_;lia,by have:=r.un;show A.units+3+16*k+200<_;lia⟩
theorem bW.in1{k:Nat}{A:Around}(r:bW (k+1) A):bW k A.in1:=
 ⟨r.hd,by have:=r.dp;show A.depth+3*k+5<_;lia,by have:=r.un;show A.units+1+16*k+200<_;lia⟩
theorem zD{A:Around}{C:Addr}{us:List Value}{kw:List (Str×Value)}:(A.under (.builtin "type.__call__" ⟨.ref C::us,kw⟩)).depth=A.depth+1:=by
 first | rfl | simp[Around.under,Code.weight,Code.isCreation,Code.isGuard,Code.isCaller,Code.frames,Code.isFrame,guardIds]
theorem zC{A:Around}{C:Addr}{us:List Value}{kw:List (Str×Value)}:(A.under (.builtin "type.__call__" ⟨.ref C::us,kw⟩)).units=A.units+1:=by
 first | rfl | simp[Around.under,Code.cUnits,Code.frames,Code.isFrame]
theorem bW.make{k:Nat}{A:Around}(r:bW (k+1) A)(C:Addr)(us:List Value)(kw:List (Str×Value)):bW k (A.under (.builtin "type.__call__" ⟨.ref C::us,kw⟩)):=
 ⟨r.hd,by have:=r.dp;rw[zD];lia,by have:=r.un;rw[zC];lia⟩
theorem bW.depth{k:Nat}{A:Around}(r:bW k A):A.depth<recursionLimit:=by have:=r.dp;lia
theorem bW.units{k:Nat}{A:Around}(r:bW k A):A.units+64<cLine:=by have:=r.un;lia
theorem bW.fk{k:Nat}{A:Around}(r:bW k A):A.units<cLine:=by have:=r.un;lia
def DY:TA:=λ_ H Q=>Q [] H
def uc(ta:TE)(tr:TA):TA:=λσ H Q=>ta σ H λx H1=>tr σ H1 λxs H2=>Q (x::xs) H2
section
variable {X:Cx}{e:Expr}{es:List Expr}{te:TE}{t:TA}{pos:Pos}
theorem zf:PA X [] DY:=λ_ _ _ _ H Q I h=>Calls.spliced_nil ⟨[],H,I,.nil,h⟩
theorem qE(ha:PE X e te)(hr:PA X es t)(hs:starEach (e::es) X.env=(false,eval e X.env)::starEach es X.env:=by rfl):PA X (e::es) (uc te t):=by
 intro pos pins s σ H Q I h
 rw[hs]
 show wpAny _ _ (spliced ((false,eval e X.env)::backTo pos (starEach es X.env))) _ _ s
 refine Calls.spliced_cons (cw (ha pins s σ H _ I h) λu s1 ⟨x,H1,I1,r1,q1⟩=>?_)
 exact cw (hr pos pins s1 σ H1 _ I1 q1) λus s2 ⟨xs,H2,I2,r2,q2⟩=>⟨x::xs,H2,I2,.cons r1 r2,q2⟩
def G3(t:TA):TE:=λσ H Q=>t σ H λxs H1=>xs.length<=sizeLine/\∀p,H1 p=none->Q (.ref p) (upd H1 p (.tup xs))
def G8(t:TA):TE:=λσ H Q=>t σ H λxs H1=>xs.length<=sizeLine/\∀p,H1 p=none->Q (.ref p) (upd H1 p (.lst xs))
theorem R4{x1}(h:PA X es t):PE X (.Tuple es x1 pos) (G3 t):=by
 intro pins s σ H Q I hq
 refine wpAny_Tuple_spliced (cw (h pos pins s σ H _ I hq) λus s1 ⟨xs,H1,I1,r,z,q⟩=>⟨by rw[<-r.length];exact z,?_⟩)
 have hf:H1 s1.heap.objs.size=none:=I1.aY.fresh (Nat.le_refl _)
 refine⟨.ref s1.heap.objs.size,upd H1 s1.heap.objs.size (.tup xs),I1.laid (t':=s1.toks) (λb u e=>Heap.get?_push_of_some _ e) (Nat.le_refl _) ?_,rfl,q _ hf⟩
 exact⟨z,us,r,⟨_,Heap.get?_push_size _ rfl,rfl,_,rfl⟩⟩
theorem R8(h:PA X es t):PE X (.List es pos) (G8 t):=by
 intro pins s σ H Q I hq
 refine wpAny_List_spliced (cw (h pos pins s σ H _ I hq) λus s1 ⟨xs,H1,I1,r,z,q⟩=>⟨by rw[<-r.length];exact z,?_⟩)
 have hf:H1 s1.heap.objs.size=none:=I1.aY.fresh (Nat.le_refl _)
 refine⟨.ref s1.heap.objs.size,upd H1 s1.heap.objs.size (.lst xs),I1.laid (t':=s1.toks) (λb u e=>Heap.get?_push_of_some _ e) (Nat.le_refl _) ?_,rfl,q _ hf⟩
 exact⟨z,us,0,r,Heap.get?_push_size _ rfl⟩
end
abbrev Sp:=List V->Hp->VK->XK->Prop
abbrev Dx:=List Env->Hp->Shared->XK->Value->Shared->Prop
structure nk(P:Program)(w:World)(K:PySem.W.Frag)(mg:Str->Option Value)(base:Heap)(A:Around)(outer:List Env)(s:Shared)(H:Hp):Prop where
 frames:A.frames=some outer
 mod:Mod K mg base
 bs:∀b o,base.get? b=some o->s.heap.get? b=some o/\H b=none
 FW:base.objs.size<=s.heap.objs.size
 lE:s.heap.FunFrames base outer
 Gs:∀b∈lP outer,H b=none
 aY:fP P w H s.heap
 bare:AllBare s.gens
def CE(outer:List Env)(P:Program)(w:World)(H:Hp)(s:Shared)(Q:VK)(u:Value)(s':Shared):Prop:=
 ∃v H',s'.os=s.os/\AllBare s'.gens/\Un (lP outer) [] H H' s.heap s'.heap/\fP P w H' s'.heap/\RelV v u/\Q v H'
def CR(CX:Dx)(outer:List Env)(P:Program)(w:World)(H:Hp)(s:Shared)(Q:VK)(E:XK)(r:Result)(s':Shared):Prop:=
 match r with
 | .ok (.ret u)=>CE outer P w H s Q u s'
 | .ok _=>False
 | .error e=>CX outer H s E e s'
structure bG(P:Program)(w:World)(K:PySem.W.Frag)(mg:Str->Option Value)(base:Heap)(CX:Dx)(k:Nat)(f:Addr)(fd:FuncData)(ps:List Str)(sp:Sp):Prop where
 len:∀vs H Q E,sp vs H Q E->vs.length=ps.length
 run:∀(A:Around) (outer:List Env) (s:Shared) (H:Hp) (args:Args) (us:List Value) (vs:List V) (Q:VK) (E:XK),bW k A->nk P w K mg base A outer s H->BindsTo s fd args (ps.zip us)->Vals vs us->sp vs H Q E->
  codeAny (model P w) A (.call (.ref f) args) (CR CX outer P w H s Q E) s
theorem nk.make{P:Program}{w:World}{K:PySem.W.Frag}{mg:Str->Option Value}{base:Heap}{A:Around}{outer:List Env}{s:Shared}{H:Hp}(e:nk P w K mg base A outer s H)(C:Addr)(us:List Value)(kw:List (Str×Value)) :
  nk P w K mg base (A.under (.builtin "type.__call__" ⟨.ref C::us,kw⟩)) outer s H:=⟨by first | exact e.frames | (simpa [Around.under,Code.envs,Code.isFrame,pushEnvs]using e.frames),e.mod,e.bs,e.FW,e.lE,e.Gs,e.aY,e.bare⟩
theorem nk.in1{P:Program}{w:World}{K:PySem.W.Frag}{mg:Str->Option Value}{base:Heap}{A:Around}{outer:List Env}{s:Shared}{H:Hp}(e:nk P w K mg base A outer s H) :
  nk P w K mg base A.in1 outer s H:=⟨e.frames,e.mod,e.bs,e.FW,e.lE,e.Gs,e.aY,e.bare⟩
section
variable {X:Cx}{pins:List (Addr×Obj)}{σ:St}{H:Hp}{s s':Shared}
theorem Inv.FG(I:Inv X pins σ H s):nk X.prog X.w X.K X.mg X.base X.A X.stack s H:=
 ⟨I.ok.frames,I.ok.mod,I.bs,Nat.le_trans I.ok.FW I.sz,I.stack,I.vk,I.aY,I.bare⟩
theorem Inv.after{Q:VK}{u:Value}(I:Inv X pins σ H s)(h:CE X.stack X.prog X.w H s Q u s'):EP X pins σ Q u s':=by
 obtain⟨v,H',os,bare,un,aY,r,q⟩:=h
 obtain⟨hh,g,d,t,Wc⟩:=s'
 obtain rfl:Wc=s.os:=os
 exact⟨v,H',I.call (h':=hh) (g':=g) (d':=d) (t':=t) (ch:=[]) un aY bare (λb z=>absurd z (by simp)),r,q⟩
end
def wX(sp:Sp)(pD:List V)(E:XK)(t:TA):TE:=λσ H Q=>t σ H λvs H1=>sp (vs++pD) H1 Q E
def Be(C:Addr)(m:Str)(sp:Sp)(pD:List V)(E:XK)(ta:TE)(t:TA):TE:=λσ H Q=>ta σ H λx H1=>∃a dx fs,x=.ref a/\H1 a=some (.ins C dx fs)/\fs.lookup m=none/\
 t σ H1 λvs H2=>sp (x::(vs++pD)) H2 Q E
def Bf(C:Addr)(sp:Sp)(pD:List V)(E:XK)(t:TA):TE:=λσ H Q=>t σ H λvs H1=>∀x dx,H1 x=none->H1 dx=none->dx≠x->
 sp (.ref x::(vs++pD)) (upd (upd H1 dx (.own x)) x (.ins C dx [])) (λv H2=>v=.non/\Q (.ref x) H2) E
def Binds(K:PySem.W.Frag)(fd:FuncData)(ps:List Str)(ds:List Value):Prop:=
 ∀(s:Shared) (us:List Value),K.In s.heap->(us++ds).length=ps.length->BindsTo s fd ⟨us,[]⟩ (ps.zip (us++ds))
theorem Binds.all{K:PySem.W.Frag}{fd:FuncData}{ps:List Str}(h:∀us:List Value,us.length=ps.length->bindArgs fd ⟨us,[]⟩=pure (ps.zip us)):Binds K fd ps []:=λs us _ hl=>by
 rw[List.append_nil]at hl ⊢
 exact .of_eq (h us hl)
def Passes(CX:Dx)(X:Cx)(E:XK):Prop:=∀(pins:List (Addr×Obj)) (σ:St) (H:Hp) (s:Shared) (e:Value) (s':Shared),Inv X pins σ H s->CX X.stack H s E e s'->X.xe e s'
section
variable {X:Cx}{CX:Dx}{k:Nat}{f C:Addr}{fd:FuncData}{ps:List Str}{sp:Sp}{pD:List V}{ds:List Value}{E:XK}{x m:Str}{p pos apos:Pos}{e o:Expr}{es:List Expr}{ta:TE}{t:TA}
theorem Hx{pins:List (Addr×Obj)}{σ:St}{H:Hp}{s:Shared}{Q:VK}{us:List Value}{vs:List V}(F:bG X.prog X.w X.K X.mg X.base CX k f fd ps sp)(hr:bW k X.A)(hb:Binds X.K fd ps ds)(hd:Vals pD ds)(hx:Passes CX X E)
  (I:Inv X pins σ H s) (r:Vals vs us) (h:sp (vs++pD) H Q E):wpAny (model X.prog X.w) X.A (call (.ref f) us) (EP X pins σ Q) X.xe s:=by
 have r2:Vals (vs++pD) (us++ds):=r.append hd
 have hl:(us++ds).length=ps.length:=by rw[<-r2.length];exact F.len _ _ _ _ h
 refine wpAny_call (codeAny_mono (F.run X.A X.stack s H ⟨us,[]⟩ (us++ds) (vs++pD) Q E hr I.FG (hb s us I.jT hl) r2 h) λr s' hq=>?_)
 cases r with
 | error e=>exact hx pins σ H s e s' I hq
 | ok fl=>
  cases fl with
  | ret u=>exact I.after hq
  | next=>exact False.elim hq
  | brk=>exact False.elim hq
  | cont=>exact False.elim hq
theorem qD(F:bG X.prog X.w X.K X.mg X.base CX k f fd ps sp)(hr:bW k X.A)(hg:Gl X x)(hm:X.mg x=some (.ref f))(hk:PySem.W.keepIn X.K (.ref f)=true)(hb:Binds X.K fd ps ds)(hd:Vals pD ds)(hx:Passes CX X E)
  (ha:PA X (e::es) t) (pz:(x==("__debug__" : Str))=false:=by decide) (he:starEach (e::es) X.env=(false,eval e X.env)::starEach es X.env:=by rfl) (iP:(backTo pos (starEach es X.env)).any (·.1)=false:=by rfl) :
  PE X (.Call (.Name x p) (e::es) [] pos) (wX sp pD E t):=by
 intro pins s σ H Q I h
 refine wpAny_Call_Name_kw (lh I hg hm ?_ pz)
 refine PySem.W.callWith_K (h₀:=X.base) I.ok.mod.S6 hk (cw (ha pos pins s σ H _ I h) λus s1 ⟨vs,H1,I1,r,q⟩=>⟨I1.jT,?_⟩) he iP
 exact Hx F hr hb hd hx I1 r q
theorem NX{pl:Sem Bool}(he:PE X o ta)(c:Cls X.K C)(hm:Meth X.K C m f)(F:bG X.prog X.w X.K X.mg X.base CX k f fd ps sp)(hr:bW k X.A)(hb:Binds X.K fd ps ds)(hd:Vals pD ds)(hx:Passes CX X E)(ha:PA X (e::es) t)
  (Fo:starEach (e::es) X.env=(false,eval e X.env)::starEach es X.env:=by rfl) (iP:(backTo pos (starEach es X.env)).any (·.1)=false:=by rfl)
  (ht:eval (.Call (.Attribute o m apos) (e::es) [] pos) X.env=(do
   let ov <-eval o X.env
   standAt apos.atName
   let (f,first) <-holding [ov] (getMethod ov m pl)
   callWith pos f first (backTo pos (starEach (e::es) X.env)) (backToKw pos (keywordEach [] X.env))):=by rfl) :
  PE X (.Call (.Attribute o m apos) (e::es) [] pos) (Be C m sp pD E ta t):=by
 intro pins s σ H Q I h
 refine PySem.W.methodCall_KW (pl:=pl) (cw (he pins s σ H _ I h) λu s1 ⟨x,H1,I1,rx,a,dx,fs,ex,ea,l,q⟩=>?_) ht
 subst ex
 obtain rfl:u=Value.ref a:=rx
 refine rP I1 ea c hm l ?_
 refine PySem.W.callWith_K (first:=[.ref a]) (h₀:=X.base) I.ok.mod.S6 hm.kp (cw (ha pos pins s1 σ H1 _ I1 q) λus s2 ⟨vs,H2,I2,r,q2⟩=>⟨I2.jT,?_⟩) Fo iP
 exact Hx (us:=.ref a::us) (vs:=.ref a::vs) F hr hb hd hx I2 (.cons rfl r) q2
structure Mk(K:PySem.W.Frag)(C f:Addr):Prop where
 makes:PySem.W.makesIn K C=true
 init:PySem.W.findIn K (.ref C) "__init__" = some (some (.ref f))
 fn:PySem.W.isFn K (.ref f)=true
 kp:PySem.W.keepIn K (.ref C)=true
theorem Hw{pins:List (Addr×Obj)}{σ:St}{H:Hp}{s:Shared}{Q:VK}{us:List Value}{vs:List V}(M:Mk X.K C f)(F:bG X.prog X.w X.K X.mg X.base CX k f fd ps sp)(hr:bW (k+1) X.A)(hb:Binds X.K fd ps ds)(hd:Vals pD ds)
  (hx:Passes CX X E) (I:Inv X pins σ H s) (r:Vals vs us)
  (h:∀x dx,H x=none->H dx=none->dx≠x->sp (.ref x::(vs++pD)) (upd (upd H dx (.own x)) x (.ins C dx [])) (λv H2=>v=.non/\Q (.ref x) H2) E) :
  wpAny (model X.prog X.w) X.A (call (.ref C) us) (EP X pins σ Q) X.xe s:=by
 have hq:=h (s.heap.objs.size+1) s.heap.objs.size (I.aY.fresh (Nat.le_succ _)) (I.aY.fresh (Nat.le_refl _)) (Nat.ne_of_lt (Nat.lt_succ_self _))
 have I2:=Inv.made (C:=C) I
 have r2:Vals (V.ref (s.heap.objs.size+1)::(vs++pD)) (Value.ref (s.heap.objs.size+1)::(us++ds)):=.cons rfl (r.append hd)
 have hl:(Value.ref (s.heap.objs.size+1)::us++ds).length=ps.length:=by
  have e:=r2.length
  rw[F.len _ _ _ _ hq]at e
  exact e.symm
 refine wpAny_call (JF (f:=f) I.jT M.makes M.init (beq_iff_eq.mp M.fn) (codeAny_mono (F.run _ X.stack _ _ ⟨Value.ref (s.heap.objs.size+1)::us,[]⟩ (Value.ref (s.heap.objs.size+1)::(us++ds)) _ _ E (hr.make C us [])
  (I2.FG.make C us []) (hb _ (Value.ref (s.heap.objs.size+1)::us) I2.jT hl) r2 hq) λr s' Fp=>?_))
 cases r with
 | error e=>exact hx pins σ _ _ e s' I2 Fp
 | ok fl=>
  cases fl with
  | ret u=>
   obtain⟨v,H',I3,rv,ev,q3⟩:=I2.after Fp
   subst ev
   exact⟨rv,⟨V.ref (s.heap.objs.size+1),H',I3,rfl,q3⟩⟩
  | next=>exact False.elim Fp
  | brk=>exact False.elim Fp
  | cont=>exact False.elim Fp
theorem NZ(M:Mk X.K C f)(F:bG X.prog X.w X.K X.mg X.base CX k f fd ps sp)(hr:bW (k+1) X.A)(hg:Gl X x)(hm:X.mg x=some (.ref C))(hb:Binds X.K fd ps ds)(hd:Vals pD ds)(hx:Passes CX X E)
  (ha:PA X (e::es) t) (pz:(x==("__debug__" : Str))=false:=by decide) (he:starEach (e::es) X.env=(false,eval e X.env)::starEach es X.env:=by rfl) (iP:(backTo pos (starEach es X.env)).any (·.1)=false:=by rfl) :
  PE X (.Call (.Name x p) (e::es) [] pos) (Bf C sp pD E t):=by
 intro pins s σ H Q I h
 refine wpAny_Call_Name_kw (lh I hg hm ?_ pz)
 refine PySem.W.callWith_K (h₀:=X.base) I.ok.mod.S6 M.kp (cw (ha pos pins s σ H _ I h) λus s1 ⟨vs,H1,I1,r,q⟩=>⟨I1.jT,?_⟩) he iP
 exact Hw M F hr hb hd hx I1 r q
end
def PK(X:Cx)(kws:List Keyword)(t:TA):Prop:=
 ∀(pos:Pos) (pins:List (Addr×Obj)) (s:Shared) (σ:St) (H:Hp) (Q:List V->Hp->Prop),Inv X pins σ H s->t σ H Q->wpAny (model X.prog X.w) X.A (evalAll ((backToKw pos (keywordEach kws X.env)).map (·.2))) (AP X pins σ Q) X.xe s
section
variable {X:Cx}{CX:Dx}{k:Nat}{f C:Addr}{fd:FuncData}{ps ks:List Str}{sp:Sp}{E:XK}{x m:Str}{p pos apos kpos:Pos}{e o:Expr}{es:List Expr}{kws:List Keyword}{te ta:TE}{t tk:TA}{nm:Option Str}
theorem RX:PK X [] DY:=λ_ _ _ _ H Q I h=>wpAny_evalAll_nil ⟨[],H,I,.nil,h⟩
theorem NP(ha:PE X e te)(hr:PK X kws t):PK X (⟨nm,e,kpos⟩::kws) (uc te t):=by
 intro pos pins s σ H Q I h
 show wpAny _ _ (evalAll ((do let v <-eval e X.env;standAt pos;pure v)::(backToKw pos (keywordEach kws X.env)).map (·.2))) _ _ s
 refine wpAny_evalAll_cons (wpAny_bind (cw (ha pins s σ H _ I h) λu s1 ⟨x,H1,I1,r1,q1⟩=>wpAny_bind (wpAny_standAt (wpAny_pure ?_))))
 exact cw (hr pos pins s1 σ H1 _ I1 q1) λus s2 ⟨xs,H2,I2,r2,q2⟩=>⟨x::xs,H2,I2,.cons r1 r2,q2⟩
variable {g:List Value->List Value->List Value}{gV:List V->List V->List V}
end
structure aO(N P:List Str)(sc:Scope):Prop where
 kind:sc.kind=.function
 co:sc.isCoroutine=false
 gen:sc.isGenerator=false
 nd:N.Nodup
 pre:N.take P.length=P
 par:∀x∈P,sc.names.lookup x=some .local\/sc.names.lookup x=some .cell
 Sn:∀y∈sc.names,y.2≠.free
theorem uW{kindOf:Str->Option NameKind}{x:Str}:∀{binds:List (Str×Value)} {m:Str->Option Value},(∀v,(x,v)∉binds)->bindL kindOf binds m x=m x
 | [],_,_=>rfl
 | (n,v)::r,m,h=>by
  unfold bindL
  rw[uW λw hw=>h w (List.mem_cons_of_mem _ hw)]
  split
  ·have:x≠n:=by rintro rfl;exact h v List.mem_cons_self
   simp[this]
  ·rfl
theorem uY{kindOf:Str->Option NameKind}{x:Str}:∀{binds:List (Str×Value)} {m:Str->Option Value},(∀v,(x,v)∉binds)->bindC kindOf binds m x=m x
 | [],_,_=>rfl
 | (n,v)::r,m,h=>by
  unfold bindC
  rw[uY λw hw=>h w (List.mem_cons_of_mem _ hw)]
  split
  ·rfl
  ·have:x≠n:=by rintro rfl;exact h v List.mem_cons_self
   simp[this]
theorem uX{kindOf:Str->Option NameKind}{x:Str}{v:Value}:∀{P:List Str} {vs:List Value} {i:Nat} {m:Str->Option Value},P.Nodup->P[i]?=some x->vs[i]?=some v->kindOf x=some .local->
  bindL kindOf (P.zip vs) m x=some v
 | [],_,_,_,_,h,_,_=>by simp at h
 | _::_,[],_,_,_,_,h,_=>by simp at h
 | p::P,w::vs,0,m,nd,h1,h2,hk=>by
  simp at h1 h2;subst h1;subst h2
  show bindL kindOf ((p,w)::P.zip vs) m p=_
  unfold bindL
  rw[uW λv hv=>(List.nodup_cons.mp nd).1 (List.of_mem_zip hv).1,if_pos hk]
  simp
 | p::P,w::vs,i+1,m,nd,h1,h2,hk=>by
  show bindL kindOf ((p,w)::P.zip vs) m x=_
  unfold bindL
  exact uX (i:=i) (List.nodup_cons.mp nd).2 (by simpa using h1) (by simpa using h2) hk
theorem uZ{kindOf:Str->Option NameKind}{x:Str}{v:Value}:∀{P:List Str} {vs:List Value} {i:Nat} {m:Str->Option Value},P.Nodup->P[i]?=some x->vs[i]?=some v->kindOf x≠some .local->
  bindC kindOf (P.zip vs) m x=some v
 | [],_,_,_,_,h,_,_=>by simp at h
 | _::_,[],_,_,_,_,h,_=>by simp at h
 | p::P,w::vs,0,m,nd,h1,h2,hk=>by
  simp at h1 h2;subst h1;subst h2
  show bindC kindOf ((p,w)::P.zip vs) m p=_
  unfold bindC
  rw[uY λv hv=>(List.nodup_cons.mp nd).1 (List.of_mem_zip hv).1,if_neg hk]
  simp
 | p::P,w::vs,i+1,m,nd,h1,h2,hk=>by
  show bindC kindOf ((p,w)::P.zip vs) m x=_
  unfold bindC
  exact uZ (i:=i) (List.nodup_cons.mp nd).2 (by simpa using h1) (by simpa using h2) hk
def start(N:List Str)(vs:List V):St:=vs.map some++List.replicate (N.length-vs.length) none
def eZ(CX:Dx)(P:Program)(w:World)(K:PySem.W.Frag)(mg:Str->Option Value)(base:Heap)(N:List Str)(qual:Str)(scope:Scope)(f:Addr)(cd:Value)(A:Around)(outer:List Env)(s:Shared)(H:Hp)(E:XK):Cx where
 prog:=P
 w:=w
 K:=K
 mg:=mg
 base:=base
 A:=A.deeper (envOfC qual scope s.heap.objs.size f cd)
 N:=N
 s₀:=s
 H₀:=H
 env:=envOfC qual scope s.heap.objs.size f cd
 outer:=outer
 stack:=envOfC qual scope s.heap.objs.size f cd::outer
 ex:=[]
 calm:=true
 fn:=λ_=>true
 pn:=[]
 xe:=λe s'=>wpAny (model P w) (A.deeper (envOfC qual scope s.heap.objs.size f cd)) (leaving (envOfC qual scope s.heap.objs.size f cd) e) (λ_ VP=>CX outer H s E e VP) (λe' VP=>CX outer H s E e' VP) s'
theorem yu{sc:Scope}{n:Nat}{x:Str}(h:sc.names.lookup x=some .cell):∃c,(cellsFrom n sc.names []).lookup x=some c:=by
 have q:=PySem.W.cellsFrom_some sc.names n [] (.inl h)
 exact Option.isSome_iff_exists.mp q
theorem Fm{CX:Dx}{P:Program}{w:World}{K:PySem.W.Frag}{mg:Str->Option Value}{base:Heap}{N ps:List Str}{qual:Str}{scope:Scope}{f:Addr}{cd:Value}{A:Around}{outer:List Env}{s s1:Shared}{H:Hp}{E:XK}{us:List Value}{vs:List V}
  (S:aO N ps scope) (hd:A.handled=none) (e0:nk P w K mg base A outer s H) (hl:vs.length=ps.length) (r:Vals vs us)
  (x:InCallC s s.heap.objs.size (bindL (envOfC qual scope s.heap.objs.size f cd).kindOf (ps.zip us) λ_=>none) (cellsFrom (s.heap.objs.size+1) scope.names []) (bindC (envOfC qual scope s.heap.objs.size f cd).kindOf (ps.zip us) λ_=>none) s1) :
  Inv (eZ CX P w K mg base N qual scope f cd A outer s H E) [] (start N vs) H s1:=by
 have iP:ps.length<=N.length:=by have:=congrArg List.length S.pre;rw[List.length_take]at this;lia
 obtain⟨h1,tk,rfl,hk⟩:=x.done
 have Lj:∀b:Addr,b∉(eZ CX P w K mg base N qual scope f cd A outer s H E).ex:=λb z=>absurd (show b∈([]:List Addr) from z) (by simp)
 refine⟨⟨e0.mod,S.kind,rfl,rfl,Nat.le_refl _,λy z c h1 h2=>?_,λy hy=>?_,λy c _ h=>?_,λ_=>hd,Around.frames_deeper e0.frames,.inr ⟨rfl,rfl⟩,λb z=>absurd z (Lj b),e0.bs,e0.FW,λb _ _=>Lj b,λb z=>absurd z (Lj b),e0.lE,e0.Gs⟩,
  rfl,e0.bare,Un.kept hk,⟨_,x.toInCall.ns,λi y v h1 h2 h3=>?_⟩,λy c h=>⟨_,x.cell y c h⟩,e0.aY.fresh (Nat.le_refl _),λy c h=>?_,λp hp=>absurd (show p∈([]:List (Addr×Obj)) from hp) (by simp),e0.aY.kept hk,?_⟩
 ·exact name_of_addr x.apart (PySem.mem_of_lookup h1) (PySem.mem_of_lookup h2)
 ·have hy:scope.names.lookup y=some .cell\/scope.names.lookup y=some .free:=hy
  rcases hy with hy | hy
  ·exact yu hy
  ·exact absurd rfl (S.Sn _ (PySem.mem_of_lookup hy))
 ·exact Nat.le_of_lt (x.above y c (PySem.mem_of_lookup h))
 ·have hi:i<vs.length:=by
   unfold start at h2
   by_cases hi:i<vs.length
   ·exact hi
   ·rw[List.getElem?_append_right (by simpa using hi)]at h2
    rw[List.getElem?_replicate]at h2
    split at h2 <;> cases h2
  have ha:vs[i]?=some v:=by
   unfold start at h2
   rw[List.getElem?_append_left (by simpa using hi),List.getElem?_map]at h2
   cases e:vs[i]? with
   | none=>rw[e]at h2;cases h2
   | some a=>rw[e]at h2;cases h2;rfl
  obtain⟨u,hu,rv⟩:=r.get ha
  have hp:ps[i]?=some y:=by
   rw[<-S.pre,List.getElem?_take_of_lt (by lia)];exact h1
  have Y6:ps.Nodup:=by rw[<-S.pre];exact S.nd.sublist (List.take_sublist _ _)
  refine⟨u,rv,?_⟩
  rcases S.par y (List.mem_of_getElem? hp) with k | k
  ·exact .inl ⟨k,uX Y6 hp hu k⟩
  ·obtain⟨c,e⟩:=yu (n:=s.heap.objs.size+1) k
   refine .inr ⟨.inl k,c,e,?_⟩
   have q:=x.cell y c e
   rw[uZ Y6 hp hu (by show scope.names.lookup y≠_;rw[k];decide)]at q
   exact q
 ·exact e0.aY.fresh (Nat.le_of_lt (x.above y c (PySem.mem_of_lookup h)))
 ·unfold start
  show _=N.length
  rw[List.length_append,List.length_map,List.length_replicate]
  lia
theorem Kq{CX:Dx}{P:Program}{w:World}{K:PySem.W.Frag}{mg:Str->Option Value}{base:Heap}{k:Nat}{f:Addr}{name qual:Str}{params:Arguments}{body:List Stmt}{scope:Scope}{dV kV doc pm cB ct oc:Value}{an od:Option Addr}
  {BR:Array (Option Value)} {N ps:List Str} {sp:Sp} (lk:K.lookup f=some ⟨oc,od,.func (PySem.W.fnOf name qual params body scope dV kV doc pm an cB ct),BR⟩) (tK:PySem.W.codeIn K cB qual=true) (S:aO N ps scope)
  (len:∀vs H Q E,sp vs H Q E->vs.length=ps.length)
  (eG:∀(A:Around) (outer:List Env) (s:Shared) (H:Hp) (vs:List V) (Q:VK) (E:XK),bW k (A.deeper (envOfC qual scope s.heap.objs.size f cB))->sp vs H Q E->
   ∃t,wz (eZ CX P w K mg base N qual scope f cB A outer s H E) body t/\t { nx:=λ_ H'=>Q .non H',rt:=Q } (start N vs) H) :
  bG P w K mg base CX (k+1) f (PySem.W.fnOf name qual params body scope dV kV doc pm an cB ct) ps sp:=by
 refine⟨len,λA outer s H args us vs Q E hr e0 hb r yH=>?_⟩
 have hl:=len _ _ _ _ yH
 have KX:K.In s.heap:=e0.mod.S6.keeps λb o e=>(e0.bs b o e).1
 have lim:s.heap.NoLimit:=e0.mod.nolimit.keeps λb o e=>(e0.bs b o e).1
 have W3:∀y∈ps.zip us,scope.names.lookup y.1=some .local\/(scope.names.lookup y.1=some .cell/\((cellsFrom (s.heap.objs.size+1) scope.names []).lookup y.1).isSome=true):=λ⟨n,v⟩ hy=>by
  rcases S.par n (List.of_mem_zip hy).1 with q | q
  ·exact .inl q
  ·exact .inr ⟨q,PySem.W.cellsFrom_some _ _ _ (.inl q)⟩
 refine codeAny_call_function hr.depth (KX _ _ lk) rfl S.co S.gen rfl (PySem.W.codeRec_of KX tK) (hb _ _ _ _ ?_)
 refine wpAny_newFunctionEnv_cells S.kind W3 λenv he s1 x=>?_
 subst he
 refine⟨lim.keeps x.toInCall.keep,codeAny_func ?_⟩
 obtain⟨t,ht,hq⟩:=eG A outer s H vs Q E (hr.deeper _) yH
 have I:Inv (eZ CX P w K mg base N qual scope f cB A outer s H E) [] (start N vs) H s1:=Fm S hr.hd e0 hl r x
 refine wpAny_mono (ht [] s1 (start N vs) H _ I hq) (λfl s' hs=>?_) λe s' hs=>hs
 have fin:∀{σ':St} {H':Hp} {v:V} {u:Value},Inv (eZ CX P w K mg base N qual scope f cB A outer s H E) [] σ' H' s'->RelV v u->Q v H'->CE outer P w H s Q u s':=
  λ{σ' H' v u} J rv q=>⟨v,H',J.os,J.bare,J.base,J.aY,rv,q⟩
 cases fl with
 | ret u=>
  obtain⟨v,σ',H',J,rv,q⟩:=hs
  exact fin J rv q
 | next=>
  obtain⟨σ',H',J,q⟩:=hs
  exact fin (v:=V.non) (u:=Value.none) J rfl q
 | brk=>
  obtain⟨_,_,_,q⟩:=hs
  exact False.elim q
 | cont=>
  obtain⟨_,_,_,q⟩:=hs
  exact False.elim q
end L2
namespace L2
open PySem PySem.Spec PyProof.Rows
section
variable {X:Cx}{x:Str}{p pos:Pos}{e:Expr}{es:List Expr}{t:TA}{id T:String}{r:List V->Hp->VK->Prop}
def Rh(r:List V->Hp->VK->Prop)(t:TA):TE:=λσ H Q=>t σ H λvs H1=>r vs H1 Q
theorem j8(hc:dD X (.builtin id) r)(hg:Gl X x)(hm:X.mg x=none)(hv:bootBuiltins x=some (.builtin id))(ha:PA X (e::es) t)(hn:x≠"__name__":=by decide)(pz:(x==("__debug__" : Str))=false:=by decide)
  (he:starEach (e::es) X.env=(false,eval e X.env)::starEach es X.env:=by rfl) (iP:(backTo pos (starEach es X.env)).any (·.1)=false:=by rfl):PE X (.Call (.Name x p) (e::es) [] pos) (Rh r t):=by
 intro pins s σ H Q I h
 refine wpAny_Call_Name_kw (pd I hg hm hv ?_ hn pz)
 exact PyProof.Rows.callWith_builtin1 (cw (ha pos pins s σ H _ I h) λus s1 ⟨vs,H1,I1,r1,q1⟩=>hc pins s1 σ H1 vs us Q I1 r1 q1) he iP
theorem iM(hc:dD X (.type T) r)(hg:Gl X x)(hm:X.mg x=none)(hv:bootBuiltins x=some (.type T))(ha:PA X (e::es) t)(hn:x≠"__name__":=by decide)(pz:(x==("__debug__" : Str))=false:=by decide)
  (he:starEach (e::es) X.env=(false,eval e X.env)::starEach es X.env:=by rfl) (iP:(backTo pos (starEach es X.env)).any (·.1)=false:=by rfl):PE X (.Call (.Name x p) (e::es) [] pos) (Rh r t):=by
 intro pins s σ H Q I h
 refine wpAny_Call_Name_kw (pd I hg hm hv ?_ hn pz)
 exact PyProof.Rows.callWith_type1 (cw (ha pos pins s σ H _ I h) λus s1 ⟨vs,H1,I1,r1,q1⟩=>hc pins s1 σ H1 vs us Q I1 r1 q1) he iP
end
end L2
namespace HT
open PySem PyProof.Rows
def lexLt:List Int->List Int->Bool
 | [],[]=>false
 | [],_::_=>true
 | _::_,[]=>false
 | x::xs,y::ys=>if x=y then lexLt xs ys else decide (x<y)
theorem zM(x y:Int)(xs ys:List Int):lexLt (x::xs) (y::ys)=if x=y then lexLt xs ys else decide (x<y):=rfl
theorem tE:lexLt [] []=false:=rfl
theorem rE(y:Int)(ys:List Int):lexLt [] (y::ys)=true:=rfl
theorem rF(x:Int)(xs:List Int):lexLt (x::xs) []=false:=rfl
theorem Kt(A:Around)(s:Shared)(a:Int)(t:Tok)(c:Int)(u:Tok):∃e,SeqAt.EqAt A s (.int a t) (.int c u) e/\(e=true↔a=c):=
 ⟨(a==c),SeqAt.EqAt.int_int a t c u,by simp⟩
theorem HB(A:Around)(s:Shared)(a:Int)(t:Tok)(c:Int)(u:Tok)(prog:Program)(w:World)(E:Value->Shared->Prop)(Q:Value->Shared->Prop)(h:Q (.bool (decide (a<c))) s) :
  wpAny (model prog w) A (richCompare .Lt (.int a t) (.int c u)) Q E s:=
 (PyProof.Rows.lt_int h:wpAny (model prog w) A (compareOp .Lt (.int a t) (.int c u)) Q E s)
section
open PySem.SeqAt
open PySem.AutoSeq1 (wpAny_loadPart')
open PySem.MeetsSeq PySem.MeetsSeq2 PySem.MeetsSeq3
theorem sN(l b:Addr)(items iC:Array Value)(n n2:Nat)(dd QS:Option Addr)(sl Ed:Array (Option Value))(ns ms:List Int)(hi:IntsAre items.toList ns)(hj:IntsAre iC.toList ms) :
  Meets (Builtin.«tuple.__lt__» ⟨[.ref l,.ref b],[]⟩)
   (λ_ R s=>s.heap.get? l=some { cls:=.type "tuple",dict:=dd,data:=.seq items n,slots:=sl }/\s.heap.get? b=some { cls:=.type "tuple",dict:=QS,data:=.seq iC n2,slots:=Ed }/\
    R (.ok (.ret (.bool (lexLt ns ms)))) s):=
 .of_wp λprog w A R s h=>by
  obtain⟨hp,g,d,tk,os⟩:=s;obtain⟨hl,hb,h⟩:=h
  have f2:=AutoSeq1.sub_tuple_tuple
  have z1:items.size=ns.length:=by rw[<-hi.length];simp
  have z2:iC.size=ms.length:=by rw[<-hj.length];simp
  wp_walk using wpAny_loadPart' hl,wpAny_loadPart' hb,wpAny_forIn_list _ (λrest b s'=>b.1=none/\s'=⟨hp,g,d,tk,os⟩/\∃(vs ws:List Value) (Gn Uv:List Int),rest=vs.zip ws/\
   IntsAre vs Gn/\IntsAre ws Uv/\Gn.length+iC.size=Uv.length+items.size/\R (.ok (.ret (.bool (lexLt Gn Uv)))) ⟨hp,g,d,tk,os⟩) _
  case turn=>
   rintro⟨y,x⟩ rest b s' ⟨Xf,rfl,vs,ws,Gn,Uv,hz,hvi,Ze,hlen,hR⟩
   cases hvi with
   | nil=>rw[List.zip_nil_left]at hz;cases hz
   | cons a t aB3=>
    cases Ze with
    | nil=>rw[List.zip_nil_right]at hz;cases hz
    | cons c u aB1=>
     rw[List.zip_cons_cons]at hz
     injection hz with hyx uK
     injection hyx with hy hx
     subst hy hx
     rw[zM]at hR
     simp only[List.length_cons]at hlen
     obtain⟨e,he,W5⟩:=Kt A.in1 ⟨hp,g,d,tk,os⟩ a t c u
     refine wpAny_bind (he prog w _ _ ?_)
     cases e with
     | true=>
      rw[if_pos (W5.mp rfl)]at hR
      wp_walk
      exact⟨rfl,rfl,_,_,_,_,uK,aB3,aB1,by lia,hR⟩
     | false=>
      rw[if_neg (λq=>absurd (W5.mpr q) Bool.false_ne_true)]at hR
      have hri:=HB A.in1 ⟨hp,g,d,tk,os⟩ a t c u prog w
      wp_walk using hri
      exact⟨_,rfl,by simpa using hR⟩
  case fin=>
   rintro⟨b1,b2⟩ s' ⟨Xf,rfl,vs,ws,Gn,Uv,hz,hvi,Ze,hlen,hR⟩
   simp only at Xf
   subst Xf
   have hv:lexLt Gn Uv=decide (items.size<iC.size):=by
    cases hvi with
    | nil=>
     cases Ze with
     | nil=>
      simp only[List.length_nil]at hlen
      rw[tE]
      exact(decide_eq_false (by lia)).symm
     | cons c u hw=>
      simp only[List.length_nil,List.length_cons]at hlen
      rw[rE]
      exact(decide_eq_true (by lia)).symm
    | cons a t hv=>
     cases Ze with
     | nil=>
      simp only[List.length_nil,List.length_cons]at hlen
      rw[rF]
      exact(decide_eq_false (by lia)).symm
     | cons c u hw=>
      rw[List.zip_cons_cons]at hz
      cases hz
   rw[hv]at hR
   wp_walk
   exact⟨_,rfl,by simpa [Builtin.Tuple.tupleCompareSizes]using hR⟩
  case h=>
   exact⟨rfl,rfl,items.toList,iC.toList,ns,ms,rfl,hi,hj,by lia,h⟩
end
section
variable {prog:Program}{w:World}{A:Around}{E:Value->Shared->Prop}{s:Shared}
theorem zJ{l b:Addr}{items iC:Array Value}{ns ms:List Int}{Q:Value->Shared->Prop}(hl:IsTup s.heap l items)(hb:IsTup s.heap b iC)(hi:IntsAre items.toList ns)(hj:IntsAre iC.toList ms)
  (hu:A.units<cLine) (h:Q (.bool (lexLt ns ms)) s):wpAny (model prog w) A (compareOp .Lt (.ref l) (.ref b)) Q E s:=by
 obtain⟨⟨cls,dd,data,sl⟩,ho,hc,n,hd⟩:=id hl
 obtain⟨⟨XM,QS,data2,Ed⟩,Lq,Qy,n2,hd2⟩:=id hb
 simp only at hc hd Qy hd2
 subst hc hd Qy hd2
 exact richCompare_meets_room (op:=.Lt) ⟨_,ho,rfl⟩ ⟨_,Lq,rfl⟩ PySem.F.slot_tuple_lt PySem.F.entry_tuple_lt (PySem.F.args_tuple_lt_2 _ _) (sN l b items iC n n2 dd QS sl Ed ns ms hi hj)
  ⟨ho,Lq,show Value.bool (lexLt ns ms)≠Value.notImplemented/\Q (.bool (lexLt ns ms)) s from ⟨(λx=>nomatch x),h⟩⟩ hu
theorem Pu{t b:Addr}{vs ws:List Value}{Q:Value->Shared->Prop}(ht:IsTup s.heap t vs.toArray)(hb:IsTup s.heap b ws.toArray)(hv:vs≠[])
  (h1:ws=[]->Q (.ref t) s) (h2:ws≠[]->Q (.ref s.heap.objs.size) { s with heap:=s.heap.push { cls:=.type "tuple",data:=.seq (vs++ws).toArray } })
  (hsz:vs.length+ws.length<=sizeLine):wpAny (model prog w) A (binaryOp .Add (.ref t) (.ref b)) Q E s:=by
 obtain⟨⟨cls,dd,data,sl⟩,ho,hc,n,hd⟩:=id ht
 obtain⟨⟨XM,QS,data2,Ed⟩,Lq,Qy,n2,hd2⟩:=id hb
 simp only at hc hd Qy hd2
 subst hc hd Qy hd2
 have e:vs.toArray++ws.toArray=(vs++ws).toArray:=by simp
 by_cases hw:ws=[]
 ·exact concat_meets ⟨_,ho,rfl⟩ ⟨_,Lq,rfl⟩ noFill_tuple_add seq_tuple_add PySem.F.slot_tuple_add PySem.F.entry_tuple_add (PySem.F.args_tuple_add_2 _ _)
   (tuple_addW1 t b vs.toArray ws.toArray n n2 dd QS sl Ed (by simpa using hv) (by simp[hw])) ⟨ho,Lq,h1 hw⟩
 ·refine concat_meets ⟨_,ho,rfl⟩ ⟨_,Lq,rfl⟩ noFill_tuple_add seq_tuple_add PySem.F.slot_tuple_add PySem.F.entry_tuple_add (PySem.F.args_tuple_add_2 _ _)
   (tuple_addW2 t b vs.toArray ws.toArray n n2 dd QS sl Ed (by simpa using hv) (by simpa using hw) (by rw[List.size_toArray,List.size_toArray];exact hsz)) ⟨ho,Lq,?_⟩
  rw[e]
  exact h2 hw
def cT(n d:Nat):Option Int->Nat
 | none=>d
 | some v=>if v<0 then (v+(n:Int)).toNat else min v.toNat n
theorem Ru(n d:Nat)(hd:d<=n)(o:Option Int):cT n d o<=n:=by
 cases o with
 | none=>exact hd
 | some v=>
  show(if v<0 then (v+(n:Int)).toNat else min v.toNat n)<=n
  by_cases hv:v<0
  ·rw[if_pos hv];lia
  ·rw[if_neg hv];exact Nat.min_le_right _ _
theorem Dh(v:Int)(n d:Nat):(if v<0 then max (v+(n:Int)) 0 else min v (n:Int))=((cT n d (some v):Nat):Int):=by
 show(if v<0 then max (v+(n:Int)) 0 else min v (n:Int))=(((if v<0 then (v+(n:Int)).toNat else min v.toNat n):Nat):Int)
 by_cases hv:v<0
 ·simp only[if_pos hv];lia
 ·simp only[if_neg hv];lia
theorem Ap(lo hi:Option Int)(n:Nat):Builtin.Slice.sliceAdjust lo hi 1 (n:Int)=(((cT n 0 lo:Nat):Int),((cT n n hi:Nat):Int)):=by
 have h1:¬((1:Int)<0):=by lia
 unfold Builtin.Slice.sliceAdjust
 simp only[h1,if_false]
 refine Prod.ext ?_ ?_
 ·cases lo with
  | none=>rfl
  | some v=>exact Dh v n 0
 ·cases hi with
  | none=>rfl
  | some v=>exact Dh v n n
theorem za(i j:Nat):Builtin.Slice.slicePlaces (i:Int) (j:Int) 1=j-i:=by
 unfold Builtin.Slice.slicePlaces
 have h1:(1:Int) > 0:=by lia
 simp only[h1,if_true,Int.ediv_one]
 split <;> lia
theorem qV{v:Value}{o:Option Int}{Q:Option Int->Shared->Prop}(p:IsPart v o)(h:Q o s):wpAny (model prog w) A (Builtin.Slice.slicePartIndex v) Q E s:=by
 cases p with
 | none=>exact slicePart_none h
 | int i t=>exact slicePart_int h
theorem iK{sl:Addr}{vl vu:Value}{lo hi:Option Int}{n:Nat}{Q:Int×Int×Nat->Shared->Prop}(hs:s.heap.IsSliceOf sl vl vu .none)(pl:IsPart vl lo)(pu:IsPart vu hi)
  (h:Q (((cT n 0 lo:Nat):Int),1,cT n n hi-cT n 0 lo) s):wpAny (model prog w) A (Builtin.Slice.sliceApplied (.ref sl) (pure (n:Int))) Q E s:=by
 obtain⟨os,Ts,Zo,W8⟩:=id hs
 unfold Builtin.Slice.sliceApplied Builtin.Slice.sliceFields
 refine wpAny_bind (wpAny_bind (wpAny_field Ts W8 (x:=vl) rfl (wpAny_bind (wpAny_field Ts W8 (x:=vu) rfl (wpAny_bind (wpAny_field Ts W8 (x:=.none) rfl (wpAny_pure ?_)))))))
 refine wpAny_bind (slicePart_none ?_)
 show wpAny _ _ (if ((1:Int)==0)=true then _ else _) _ _ s
 rw[if_neg (by decide)]
 refine wpAny_bind (qV pl (wpAny_bind (qV pu (wpAny_bind (wpAny_pure ?_)))))
 show wpAny _ _ (match Builtin.Slice.sliceAdjust lo hi 1 (n:Int) with | (lo,hi)=>pure (lo,(1:Int),Builtin.Slice.slicePlaces lo hi 1)) _ _ s
 rw[Ap lo hi n]
 show wpAny _ _ (pure (((cT n 0 lo:Nat):Int),(1:Int),Builtin.Slice.slicePlaces ((cT n 0 lo:Nat):Int) ((cT n n hi:Nat):Int) 1)) _ _ s
 rw[za]
 exact wpAny_pure h
theorem Iw(xs:Array Value)(i k:Nat):((List.range k).filterMap λ(m:Nat)=>xs[((i:Int)+(m:Int)*1).toNat]?).toArray=((xs.toList.drop i).take k).toArray:=by
 have e:(λ(m:Nat)=>xs[((i:Int)+(m:Int)*1).toNat]?)=λm=>xs[i+m]?:=by
  funext m
  have:((i:Int)+(m:Int)*1).toNat=i+m:=by lia
  rw[this]
 rw[e]
 have:=pick_run xs i k
 rw[List.filterMap_map]at this
 have e2:((λx=>xs[x]?) ∘ λx=>i+x)=λm=>xs[i+m]?:=rfl
 rw[e2]at this
 rw[this]
theorem oy{t sl:Addr}{items:Array Value}{vl vu:Value}{lo hi:Option Int}{Q:Value->Shared->Prop}(ht:IsTup s.heap t items)(hs:s.heap.IsSliceOf sl vl vu .none)(pl:IsPart vl lo)(pu:IsPart vu hi)
  (hw:¬(cT items.size 0 lo=0/\cT items.size items.size hi=items.size))
  (h:Q (.ref s.heap.objs.size) { s with heap:=s.heap.push { cls:=.type "tuple",data:=.seq ((items.toList.drop (cT items.size 0 lo)).take (cT items.size items.size hi-cT items.size 0 lo)).toArray } })
  (hsz:items.size<=sizeLine):wpAny (model prog w) A (getItem (.ref t) (.ref sl)) Q E s:=by
 have Ck:sizeOk (.seq ((items.toList.drop (cT items.size 0 lo)).take (cT items.size items.size hi-cT items.size 0 lo)).toArray):=by
  show((items.toList.drop (cT items.size 0 lo)).take (cT items.size items.size hi-cT items.size 0 lo)).toArray.size<=sizeLine
  rw[List.size_toArray,List.length_take,List.length_drop,Array.length_toList]
  lia
 have hj:cT items.size items.size hi<=items.size:=Ru _ _ (Nat.le_refl _) hi
 obtain⟨os,Ts,Zo,W8⟩:=id hs
 have U3:s.TypeIs (.ref sl) "slice":=⟨os,Ts,Zo⟩
 unfold getItem
 try with_reducible refine wpAny_holding ?_
 first | refine wpAny_bind (wpAny_pure ?_) | skip
 refine wpAny_bind (wpAny_sequenceKey ht.typeIs (by decide) ?_)
 refine wpAny_bind (wpAny_callSpecial?_slot (name:=Str.ofString "__getitem__") ht.typeIs PyProof.Rows.slot_tuple_getitem
  (wpAny_call_entry PyProof.Rows.slot_tuple_getitem ht.typeIs entry_tuple_getitem ?_ (args_tuple_getitem _ _)))
 show wpAny _ _ (Builtin.Tuple.tupleItemsOf (.ref t) >>= _) _ _ s
 refine wpAny_bind (tupleItemsOf_ ht ?_)
 refine wpAny_bind (wpAny_typeOf U3 ?_)
 rw[if_pos (by decide)]
 refine wpAny_bind (iK hs pl pu ?_)
 have tH:¬((((cT items.size 0 lo:Nat):Int)==0&&(1:Int)==1&&(cT items.size items.size hi-cT items.size 0 lo)==items.size)=true):=by
  intro q
  rw[Bool.and_eq_true,Bool.and_eq_true]at q
  have q1:((cT items.size 0 lo:Nat):Int)=0:=eq_of_beq q.1.1
  have q2:cT items.size items.size hi-cT items.size 0 lo=items.size:=eq_of_beq q.2
  exact hw ⟨by lia,by lia⟩
 show wpAny _ _ (if (((cT items.size 0 lo:Nat):Int)==0&&(1:Int)==1&&(cT items.size items.size hi-cT items.size 0 lo)==items.size)=true then _ else _) _ _ s
 rw[if_neg tH,Iw]
 first
  | exact wpAny_bind (m:=Builtin.Tuple.tupleExact _) (wpAny_newObj_type (wpAny_pure ⟨_,rfl,wpAny_pure h⟩) Ck)
  | exact wpAny_bind (m:=Builtin.Tuple.tupleExact _) (wpAny_newObj_type (wpAny_bind (wpAny_pure (wpAny_pure ⟨_,rfl,wpAny_pure h⟩))) Ck)
  | exact wpAny_bind (wpAny_bind (m:=Builtin.Tuple.tupleExact _) (wpAny_newObj_type (wpAny_pure (wpAny_pure ⟨_,rfl,wpAny_pure h⟩)) Ck))
  | exact wpAny_bind (wpAny_bind (m:=Builtin.Tuple.tupleExact _) (wpAny_newObj_type (wpAny_pure ⟨_,rfl,wpAny_pure h⟩) Ck))
end
end HT
namespace L2
open PySem PySem.Spec PyProof.Rows
abbrev TO:=St->Hp->(Option Int->Hp->Prop)->Prop
def PO(X:Cx)(e:Option Expr)(t:TO):Prop:=
 ∀(pins:List (Addr×Obj)) (s:Shared) (σ:St) (H:Hp) (Q:Option Int->Hp->Prop),Inv X pins σ H s->t σ H Q->
  wpAny (model X.prog X.w) X.A (evalPart e X.env) (λu s'=>∃o H',Inv X pins σ H' s'/\IsPart u o/\Q o H') X.xe s
def nM:TO:=λ_ H Q=>Q none H
def wU(t:TE):TO:=λσ H Q=>t σ H λx H1=>∃i,x=.int i/\Q (some i) H1
theorem intsAre_of{ns:List Int}:∀{us:List Value},Vals (ns.map V.int) us->IntsAre us ns:=by
 induction ns with
 | nil=>intro us r;rw[List.map_nil]at r;cases r;exact .nil
 | cons n ns ih=>
  intro us r
  rw[List.map_cons]at r
  cases r with
  | cons r1 r2=>
   obtain⟨t,e⟩:=r1
   subst e
   exact .cons n t (ih r2)
section
variable {X:Cx}{e:Expr}{te:TE}{lo hi:Option Expr}{tl th:TO}{pos p2:Pos}
theorem NK:PO X none nM:=by
 intro pins s σ H Q I h
 rw[evalPart_none]
 exact wpAny_pure ⟨none,H,I,.none,h⟩
theorem NC(h:PE X e te):PO X (some e) (wU te):=by
 intro pins s σ H Q I hw
 rw[evalPart_some]
 refine cw (h pins s σ H _ I hw) λu s1 ⟨x,H1,I1,r1,q1⟩=>?_
 obtain⟨i,rfl,q⟩:=q1
 obtain⟨t,rfl⟩:=r1
 exact⟨some i,H1,I1,.int i t,q⟩
def LR(X:Cx)(r:V->Option Int->Option Int->Hp->VK->Prop):Prop:=
 ∀(pins:List (Addr×Obj)) (s:Shared) (σ:St) (H:Hp) (x:V) (v vl vu:Value) (lo hi:Option Int) (sl:Addr) (Q:VK),Inv X pins σ H s->RelV x v->s.heap.IsSliceOf sl vl vu .none->IsPart vl lo->IsPart vu hi->r x lo hi H Q->
  ∃T id,typeLookup (.type T) "__getitem__" = pure (some (.builtin id))/\s.TypeIs v T/\wpAny (model X.prog X.w) X.A (getItem v (.ref sl)) (EP X pins σ Q) X.xe s
def Vl(r:V->Option Int->Option Int->Hp->VK->Prop)(te:TE)(tl th:TO):TE:=λσ H Q=>te σ H λx H1=>tl σ H1 λl H2=>th σ H2 λu H3=>r x l u H3 Q
theorem Ja{r:V->Option Int->Option Int->Hp->VK->Prop}(hr:LR X r)(he:PE X e te)(hl:PO X lo tl)(hu:PO X hi th):PE X (.Subscript e (.Slice lo hi none p2) pos) (Vl r te tl th):=by
 intro pins s σ H Q I h
 refine Subscript_ (cw (he pins s σ H _ I h) λv s1 ⟨x,H1,I1,r1,q1⟩=>?_)
 refine wpAny_Slice (cw (hl pins s1 σ H1 _ I1 q1) λvl s2 ⟨l,H2,I2,pl,q2⟩=>cw (hu pins s2 σ H2 _ I2 q2) λvu s3 ⟨u,H3,I3,pu,q3⟩=>?_)
 rw[evalPart_none]
 refine wpAny_pure ?_
 have I4:Inv X pins σ H3 { s3 with heap:=s3.heap.push { cls:=.type "slice",data:=.fields #[vl,vu,.none] } }:=I3.kept (t':=s3.toks) λb ob q=>Heap.get?_push_of_some _ q
 obtain⟨T,id,hT,ht,hg⟩:=hr pins { s3 with heap:=s3.heap.push { cls:=.type "slice",data:=.fields #[vl,vu,.none] } } σ H3 x v vl vu l u s3.heap.objs.size Q I4 r1 (Heap.IsSliceOf.new ..) pl pu q3
 show wpAny (model X.prog X.w) X.A (subscriptTail e (.Slice lo hi none p2) v (.ref s3.heap.objs.size)) (EP X pins σ Q) X.xe { s3 with heap:=s3.heap.push { cls:=.type "slice",data:=.fields #[vl,vu,.none] } }
 exact tail_any (ops:=[.ref s3.heap.objs.size,v]) ht hT hg (by with_unfolding_all rfl)
def gX(xs:List V)(lo hi:Option Int):List V:=(xs.drop (HT.cT xs.length 0 lo)).take (HT.cT xs.length xs.length hi-HT.cT xs.length 0 lo)
theorem p8(xs:List V)(lo hi:Option Int):(gX xs lo hi).length<=xs.length:=by
 unfold gX
 rw[List.length_take,List.length_drop]
 lia
def aAC(K:PySem.W.Frag):V->Option Int->Option Int->Hp->VK->Prop:=λx lo hi H Q=>∃a xs,x=.ref a/\tP K H a xs/\
 ¬(HT.cT xs.length 0 lo=0/\HT.cT xs.length xs.length hi=xs.length)/\∀p,H p=none->Q (.ref p) (upd H p (.tup (gX xs lo hi)))
theorem Rq:LR X (aAC X.K):=by
 intro pins s σ H x v vl vu lo hi sl Q I rx hs pl pu h
 obtain⟨a,xs,rfl,hx,hw,q⟩:=h
 cases rx
 obtain⟨its,r,ht,hz⟩:=I.tuple hx
 have hlen:its.toArray.size=xs.length:=by rw[List.size_toArray];exact r.length.symm
 refine⟨"tuple",_,PyProof.Rows.slot_tuple_getitem.lookup,ht.typeIs,?_⟩
 refine HT.oy ht hs pl pu (by rw[hlen];exact hw) ?_ (by rw[hlen];exact hz)
 rw[hlen]
 refine⟨.ref s.heap.objs.size,_,I.laid (t':=s.toks) (o:=.tup (gX xs lo hi)) (λb ob q=>Heap.get?_push_of_some _ q) (Nat.le_refl _) ?_,rfl,q _ (I.aY.fresh (Nat.le_refl _))⟩
 exact⟨Nat.le_trans (p8 xs lo hi) hz,_,(r.drop (HT.cT xs.length 0 lo)).take (HT.cT xs.length xs.length hi-HT.cT xs.length 0 lo),IsTup.new _ _⟩
def V0(K:PySem.W.Frag):R2:=λx y H Q=>∃a b xs ys,x=.ref a/\y=.ref b/\tP K H a xs/\tP K H b ys/\xs≠[]/\xs.length+ys.length<=sizeLine/\
 (ys=[]->Q (.ref a) H)/\(ys≠[]->∀p,H p=none->Q (.ref p) (upd H p (.tup (xs++ys))))
theorem Vals.vQ{xs:List V}{us:List Value}(r:Vals xs us):us=[]↔xs=[]:=by
 cases r with
 | nil=>simp
 | cons _ _=>simp
theorem N6:lH X (binaryOp .Add) (V0 X.K):=by
 intro pins s σ H x y v u Q I rx ry h
 obtain⟨a,b,xs,ys,rfl,rfl,ha,hb,hx,hz,q1,q2⟩:=h
 cases rx
 cases ry
 obtain⟨its,r1,p1,_⟩:=I.tuple ha
 obtain⟨xS,r2,p2,_⟩:=I.tuple hb
 refine HT.Pu p1 p2 (λz=>hx (r1.vQ.mp z)) (λz=>⟨.ref a,H,I,rfl,q1 (r2.vQ.mp z)⟩) (λz=>?_) (by rw[<-r1.length,<-r2.length];exact hz)
 refine⟨.ref s.heap.objs.size,_,I.laid (t':=s.toks) (o:=.tup (xs++ys)) (λb ob q=>Heap.get?_push_of_some _ q) (Nat.le_refl _) ?_,rfl,q2 (λw=>z (r2.vQ.mpr w)) _ (I.aY.fresh (Nat.le_refl _))⟩
 exact⟨by rw[List.length_append];exact hz,_,r1.append r2,IsTup.new _ _⟩
end
end L2
namespace L2
open PySem PySem.Spec PyProof.Rows
def zU(n:Nat)(i:Int):Option Nat:=if 0<=i then (if i<n then some i.toNat else none) else if -(n:Int)<=i then some (i+n).toNat else none
def qb{α:Type}(xs:List α)(i:Int):Option α:=(zU xs.length i).bind λj=>xs[j]?
theorem Ce{n:Nat}{i:Int}{j:Nat}(h:zU n i=some j):seqIndex? i n=some j/\j<n/\-(n:Int)<=i/\i<n:=by
 unfold zU at h
 by_cases h0:0<=i
 ·rw[if_pos h0]at h
  by_cases h1:i<n
  ·rw[if_pos h1]at h
   have e:i.toNat=j:=Option.some.inj h
   exact⟨by rw[seqIndex_of h0 h1,e],by lia,by lia,h1⟩
  ·rw[if_neg h1]at h;cases h
 ·rw[if_neg h0]at h
  by_cases h1 : -(n:Int)<=i
  ·rw[if_pos h1]at h
   have e:(i+n).toNat=j:=Option.some.inj h
   exact⟨by rw[seqIndex_neg (by lia) h1,e],by lia,h1,by lia⟩
  ·rw[if_neg h1]at h;cases h
theorem wu{α:Type}{xs:List α}{i:Int}{v:α}(h:qb xs i=some v):∃j,seqIndex? i xs.length=some j/\xs[j]?=some v/\j<xs.length/\-(xs.length:Int)<=i/\i<xs.length:=by
 unfold qb at h
 cases e:zU xs.length i with
 | none=>rw[e]at h;cases h
 | some j=>
  rw[e]at h
  obtain⟨h1,h2,h3,h4⟩:=Ce e
  exact⟨j,h1,h,h2,h3,h4⟩
theorem eK{α:Type}{xs:List α}{j:Nat}{v:α}(h:xs[j]?=some v):qb xs (j:Int)=some v:=by
 have hj:j<xs.length:=(List.getElem?_eq_some_iff.mp h).1
 have e:zU xs.length (j:Int)=some j:=by
  unfold zU
  rw[if_pos (by lia),if_pos (by lia)];simp
 unfold qb;rw[e];exact h
theorem K6{α:Type}(xs:List α)(v:α):qb (xs++[v]) (-1)=some v:=by
 have hl:(xs++[v]).length=xs.length+1:=by simp
 have e:zU (xs++[v]).length (-1)=some xs.length:=by
  unfold zU
  rw[hl,if_neg (by decide),if_pos (by lia)]
  congr 1
  lia
 unfold qb
 rw[e]
 show(xs++[v])[xs.length]?=some v
 simp
def Du(b:Expr):Prop:=∀o i,subscripted b false o i=operate [o,i] (getItem o i)
def P1(X:Cx)(r:R2):Prop:=
 ∀(value slice:Expr) (pins:List (Addr×Obj)) (s:Shared) (σ:St) (H:Hp) (x y:V) (v u:Value) (Q:VK),Inv X pins σ H s->RelV x v->RelV y u->r x y H Q->
  subscripted slice false v u=operate [v,u] (getItem v u)->wpAny (model X.prog X.w) X.A (subscriptTail value slice v u) (EP X pins σ Q) X.xe s
def MtR(X:Cx)(id:String)(r:V->List V->Hp->VK->Prop):Prop:=
 ∀(pins:List (Addr×Obj)) (s:Shared) (σ:St) (H:Hp) (x:V) (xs:List V) (v:Value) (us:List Value) (Q:VK),Inv X pins σ H s->RelV x v->Vals xs us->r x xs H Q->
  wpAny (model X.prog X.w) X.A (call (.builtin id) (v::us)) (EP X pins σ Q) X.xe s
section
variable {X:Cx}{a b:Expr}{ta tb:TE}{pos:Pos}
theorem V9{r:R2}(hr:P1 X r)(ha:PE X a ta)(hb:PE X b tb)(hs:Du b):PE X (.Subscript a b pos) (G6 r ta tb):=by
 intro pins s σ H Q I h
 exact Subscript_ (Ud ha hb I h λv u s2 x y H2 I2 rx ry q=>hr a b pins s2 σ H2 x y v u Q I2 rx ry q (hs _ _))
def aAF(K:PySem.W.Frag):R2:=λx y H Q=>∃p xs i v,x=.ref p/\y=.int i/\nv K H p xs/\qb xs i=some v/\Q v H
def aAE(K:PySem.W.Frag):R2:=λx y H Q=>∃p xs i v,x=.ref p/\y=.int i/\tP K H p xs/\qb xs i=some v/\Q v H
theorem Om:P1 X (aAF X.K):=by
 intro value slice pins s σ H x y v u Q I rx ry h hs
 obtain⟨p,xs,i,z,rfl,rfl,hq,he,q⟩:=h
 cases rx
 obtain⟨t,rfl⟩:=ry
 obtain⟨its,r,pl,hz⟩:=I.list hq
 obtain⟨j,h1,h2,h3,h4,h5⟩:=wu he
 obtain⟨w,ew,Hv⟩:=r.get h2
 have hl:=r.length
 have hn:=rD
 have fin:EP X pins σ Q w s:=⟨z,H,I,Hv,q⟩
 by_cases h0:0<=i
 ·have hj:i.toNat=j:=by
   rw[seqIndex_of h0 h5]at h1
   exact Option.some.inj h1
  exact item_listR pl.isList h0 (by lia) (by rw[hj];simpa using ew) fin hs
 ·have hj:(i+(its.toArray.size:Int)).toNat=j:=by
   rw[seqIndex_neg (by lia) h4]at h1
   rw[List.size_toArray,<-hl]
   exact Option.some.inj h1
  exact subscriptTail_builtinR (x:=w) pl.isList.typeIs slot_list_getitem.lookup
   (wpAny_getItem_list_neg (Q:=λr s'=>r=w/\EP X pins σ Q r s') pl.isList (by lia) (by rw[List.size_toArray] <;> lia) (by lia) (by rw[hj];simpa using ew) ⟨rfl,fin⟩) hs
theorem Tb:P1 X (aAE X.K):=by
 intro value slice pins s σ H x y v u Q I rx ry h hs
 obtain⟨p,xs,i,z,rfl,rfl,hq,he,q⟩:=h
 cases rx
 obtain⟨t,rfl⟩:=ry
 obtain⟨its,r,pl,hz⟩:=I.tuple hq
 obtain⟨j,h1,h2,h3,h4,h5⟩:=wu he
 obtain⟨w,ew,Hv⟩:=r.get h2
 have hl:=r.length
 have hn:=rD
 have fin:EP X pins σ Q w s:=⟨z,H,I,Hv,q⟩
 exact subscriptTail_builtinR (x:=w) pl.typeIs slot_tuple_getitem.lookup
  (getItem_tuple (j:=j) (Q:=λr s'=>r=w/\EP X pins σ Q r s') pl (by lia) (by lia) (by rw[List.size_toArray,<-hl];exact h1) (by simpa using ew) ⟨rfl,fin⟩) hs
theorem zB(its:List Value)(n j:Nat)(u:Value):Obj.mapSeq (·.setIfInBounds j u) { cls:=.type "list",data:=.seq its.toArray n }={ cls:=.type "list",data:=.seq (its.set j u).toArray n }:=by
 simp[Obj.mapSeq]
theorem Inv.lst{pins:List (Addr×Obj)}{σ:St}{H:Hp}{s:Shared}{p:Addr}{xs:List V}(I:Inv X pins σ H s)(h:H p=some (.lst xs)) :
  ∃(its:List Value) (n:Nat),Vals xs its/\s.heap.get? p=some { cls:=.type "list",data:=.seq its.toArray n }/\xs.length<=sizeLine:=by
 obtain⟨z,its,n,r,e⟩:=I.aY p _ h
 exact⟨its,n,r,e,z⟩
theorem Inv.SJ{pins:List (Addr×Obj)}{σ:St}{H:Hp}{s:Shared}{p:Addr}{xs ys:List V}{its its':List Value}{n n':Nat}{f:Obj->Obj}(I:Inv X pins σ H s)(h:H p=some (.lst xs))
  (ho:s.heap.get? p=some { cls:=.type "list",data:=.seq its.toArray n }) (hf:f { cls:=.type "list",data:=.seq its.toArray n }={ cls:=.type "list",data:=.seq its'.toArray n' }) (r:Vals ys its') (hz:ys.length<=sizeLine) (t:Nat) :
  Inv X pins σ (upd H p (.lst ys)) { s with heap:=s.heap.update p f,toks:=t }:=by
 have e:(s.heap.update p f).get? p=some { cls:=.type "list",data:=.seq its'.toArray n' }:=by
  rw[Heap.get?_update_self f ho (by rw[hf] <;> rfl),hf]
 refine I.write (x:=p) (e:=p) (by rw[h];trivial) (.inl rfl) (λb u hb q=>(Heap.get?_update_other _ _ (Ne.symm hb)).trans q) ⟨_,e⟩ ?_
 exact⟨hz,its',n',r,e⟩
def VR:V->V->V->Hp->(Hp->Prop)->Prop:=λo i v H Q=>∃p xs k j,o=.ref p/\i=.int k/\H p=some (.lst xs)/\zU xs.length k=some j/\Q (upd H p (.lst (xs.set j v)))
theorem set_list:Gf X VR:=by
 intro pins s σ H o i v ov iv u Q I ro ri rv h
 obtain⟨p,xs,k,j,rfl,rfl,hp,hj,q⟩:=h
 cases ro
 obtain⟨t,rfl⟩:=ri
 obtain⟨its,n,r,ho,hz⟩:=I.lst hp
 obtain⟨h1,h2,h3,h4⟩:=Ce hj
 have hl:=r.length
 have hn:=rD
 have I':Inv X pins σ (upd H p (.lst (xs.set j v))) { s with heap:=s.heap.update p (Obj.mapSeq (·.setIfInBounds j u)) }:=
  I.SJ hp ho (zB its n j u) (r.set rv j) (by rw[List.length_set];exact hz) s.toks
 by_cases h0:0<=k
 ·have hk:k.toNat=j:=by
   rw[seqIndex_of h0 h4]at h1
   exact Option.some.inj h1
  exact PySem.W.ki_setAt ho h0 (by lia) (by rw[List.size_toArray,<-hl];exact h4) (by rw[hk];exact⟨_,I',q⟩)
 ·have hk:(k+(its.toArray.size:Int)).toNat=j:=by
   rw[seqIndex_neg (by lia) h3]at h1
   rw[List.size_toArray,<-hl]
   exact Option.some.inj h1
  exact PySem.W.ki_setBack ho (by lia) (by rw[List.size_toArray,<-hl];exact h3) (by lia) (by rw[hk];exact⟨_,I',q⟩)
theorem vp(lo hi:Option Int)(n:Nat):(sliceBounds lo hi none n).1=((HT.cT n 0 lo:Nat):Int)/\(sliceBounds lo hi none n).2.1=((HT.cT n n hi:Nat):Int)/\(sliceBounds lo hi none n).2.2=1:=by
 refine⟨?_,?_,rfl⟩
 ·cases lo with
  | none=>simp[sliceBounds,HT.cT]
  | some i=>
   simp only[sliceBounds,HT.cT,Option.getD_none,show(1:Int) > 0 by decide,if_true]
   by_cases h:i<0
   ·simp only[h,if_true] <;> lia
   ·simp only[h,if_false] <;> lia
 ·cases hi with
  | none=>simp[sliceBounds,HT.cT]
  | some i=>
   simp only[sliceBounds,HT.cT,Option.getD_none,show(1:Int) > 0 by decide,if_true]
   by_cases h:i<0
   ·simp only[h,if_true] <;> lia
   ·simp only[h,if_false] <;> lia
theorem sO(its:List Value)(lo hi:Option Int):slicePick its.toArray lo hi none=((its.drop (HT.cT its.length 0 lo)).take (HT.cT its.length its.length hi-HT.cT its.length 0 lo)).toArray:=by
 obtain⟨h1,h2,h3⟩:=vp lo hi its.toArray.size
 unfold slicePick
 rw[h1,h2,h3]
 simp only[sliceRange_one,pick_run,List.size_toArray] <;> rfl
def aAD(K:PySem.W.Frag):V->Option Int->Option Int->Hp->VK->Prop:=λx lo hi H Q=>∃a xs,x=.ref a/\nv K H a xs/\∀p,H p=none->Q (.ref p) (upd H p (.lst (gX xs lo hi)))
theorem Bl:LR X (aAD X.K):=by
 intro pins s σ H x v vl vu lo hi sl Q I rx hs pl pu h
 obtain⟨a,xs,rfl,hx,q⟩:=h
 cases rx
 obtain⟨its,r,ht,hz⟩:=I.list hx
 have hlen:=r.length
 refine⟨"list",_,slot_list_getitem.lookup,ht.isList.typeIs,?_⟩
 refine wpAny_getItem_list_slice ht.isList hs pl pu .none (by simp) ?_ (by rw[List.size_toArray] <;> lia)
 rw[sO,<-hlen]
 refine⟨.ref s.heap.objs.size,_,I.laid (t':=s.toks) (o:=.lst (gX xs lo hi)) (λb ob q=>Heap.get?_push_of_some _ q) (Nat.le_refl _) ?_,rfl,q _ (I.aY.fresh (Nat.le_refl _))⟩
 exact⟨Nat.le_trans (p8 xs lo hi) hz,_,0,(r.drop (HT.cT xs.length 0 lo)).take (HT.cT xs.length xs.length hi-HT.cT xs.length 0 lo),Heap.get?_push_size _ rfl⟩
def gP:V->Bool
 | .non=>true
 | .bl _=>true
 | .int _=>true
 | .str _=>true
 | _=>false
def Gu:V->V->Bool
 | .non,.non=>true
 | .bl a,.bl b=>a==b
 | .bl a,.int b=>(if a then 1 else 0)==b
 | .int a,.bl b=>a==(if b then 1 else 0)
 | .int a,.int b=>a==b
 | .str a,.str b=>a==b
 | _,_=>false
theorem Ku{A:Around}{s:Shared}{y x:V}{u v:Value}(ry:RelV y u)(rx:RelV x v)(fy:gP y=true)(fx:gP x=true):SeqAt.EqAt A s u v (Gu y x):=by
 cases y with
 | non=>
  cases ry
  cases x with
  | non=>cases rx;exact SeqAt.EqAt.same _
  | bl b=>cases rx;exact SeqAt.EqAt.none_bool b
  | int b=>obtain⟨t,rfl⟩:=rx;exact SeqAt.EqAt.none_int b t
  | str b=>obtain⟨t,rfl⟩:=rx;exact SeqAt.EqAt.none_str b t
  | _=>exact absurd (show false=true from fx) Bool.false_ne_true
 | bl a=>
  cases ry
  cases x with
  | non=>cases rx;exact SeqAt.EqAt.bool_none a
  | bl b=>cases rx;exact SeqAt.EqAt.bool_bool a b
  | int b=>obtain⟨t,rfl⟩:=rx;exact SeqAt.EqAt.bool_int a b t
  | str b=>obtain⟨t,rfl⟩:=rx;exact SeqAt.EqAt.bool_str a b t
  | _=>exact absurd (show false=true from fx) Bool.false_ne_true
 | int a=>
  obtain⟨t',rfl⟩:=ry
  cases x with
  | non=>cases rx;exact SeqAt.EqAt.int_none a t'
  | bl b=>cases rx;exact SeqAt.EqAt.int_bool a t' b
  | int b=>obtain⟨t,rfl⟩:=rx;exact SeqAt.EqAt.int_int a t' b t
  | str b=>obtain⟨t,rfl⟩:=rx;exact SeqAt.EqAt.int_str a t' b t
  | _=>exact absurd (show false=true from fx) Bool.false_ne_true
 | str a=>
  obtain⟨t',rfl⟩:=ry
  cases x with
  | non=>cases rx;exact SeqAt.EqAt.str_none a t'
  | bl b=>cases rx;exact SeqAt.EqAt.str_bool a t' b
  | int b=>obtain⟨t,rfl⟩:=rx;exact SeqAt.EqAt.str_int a t' b t
  | str b=>obtain⟨t,rfl⟩:=rx;exact SeqAt.EqAt.str_str a t' b t
  | _=>exact absurd (show false=true from fx) Bool.false_ne_true
 | _=>exact absurd (show false=true from fy) Bool.false_ne_true
def z9(x:V)(u:Value):Bool:=match u with
 | .none=>Gu .non x
 | .bool b=>Gu (.bl b) x
 | .int i _=>Gu (.int i) x
 | .str z _=>Gu (.str z) x
 | _=>false
theorem Ks{x y:V}{u:Value}(r:RelV y u)(f:gP y=true):z9 x u=Gu y x:=by
 cases y with
 | non=>cases r;rfl
 | bl b=>cases r;rfl
 | int i=>obtain⟨t,rfl⟩:=r;rfl
 | str z=>obtain⟨t,rfl⟩:=r;rfl
 | _=>exact absurd (show false=true from f) Bool.false_ne_true
theorem oF{x:V}:∀{xs:List V} {us:List Value},Vals xs us->xs.all gP=true->us.any (z9 x)=xs.any λy=>Gu y x
 | _,_,.nil,_=>rfl
 | y::xs,u::us,.cons r t,f=>by
  rw[List.all_cons,Bool.and_eq_true]at f
  rw[List.any_cons,List.any_cons,Ks r f.1,oF t f.2]
theorem kf{A:Around}{s:Shared}{x:V}{v:Value}(rx:RelV x v)(fx:gP x=true):∀{xs:List V} {us:List Value},Vals xs us->xs.all gP=true->∀u∈us,SeqAt.EqAt A s u v (z9 x u)
 | _,_,.nil,_=>λu hu=>by cases hu
 | y::xs,u::us,.cons r t,f=>λu' hu=>by
  rw[List.all_cons,Bool.and_eq_true]at f
  rcases List.mem_cons.mp hu with rfl | hu
  ·rw[Ks r f.1];exact Ku r rx f.1 fx
  ·exact kf rx fx t f.2 u' hu
def Qk(x:V)(xs:List V):Bool:=xs.any λy=>Gu y x
def rIn(K:PySem.W.Frag)(neg:Bool):R2:=λx y H Q=>∃p xs,y=.ref p/\(nv K H p xs\/tP K H p xs)/\gP x=true/\xs.all gP=true/\Q (.bl (if neg then !Qk x xs else Qk x xs)) H
theorem Er:lH X (compareOp .In) (rIn X.K false):=by
 intro pins s σ H x y v u Q I rx ry h
 obtain⟨p,xs,rfl,hq,fx,fs,q⟩:=h
 cases ry
 rcases hq with hq | hq
 ·obtain⟨its,r,pl,hz⟩:=I.list hq
  refine SeqAt.in_listAt (z9 x) pl.isList (λw hw=>kf rx fx r fs w (by simpa using hw)) ⟨.bl _,H,I,rfl,?_⟩
  rw[show its.toArray.any (z9 x)=its.any (z9 x) by simp,oF r fs]
  exact q
 ·obtain⟨its,r,pl,hz⟩:=I.tuple hq
  refine SeqAt.in_tupleAt (z9 x) pl (λw hw=>kf rx fx r fs w (by simpa using hw)) ⟨.bl _,H,I,rfl,?_⟩
  rw[show its.toArray.any (z9 x)=its.any (z9 x) by simp,oF r fs]
  exact q
theorem vI:lH X (compareOp .NotIn) (rIn X.K true):=by
 intro pins s σ H x y v u Q I rx ry h
 obtain⟨p,xs,rfl,hq,fx,fs,q⟩:=h
 cases ry
 rcases hq with hq | hq
 ·obtain⟨its,r,pl,hz⟩:=I.list hq
  refine SeqAt.notIn_listAt (z9 x) pl.isList (λw hw=>kf rx fx r fs w (by simpa using hw)) ⟨.bl _,H,I,rfl,?_⟩
  rw[show its.toArray.any (z9 x)=its.any (z9 x) by simp,oF r fs]
  exact q
 ·obtain⟨its,r,pl,hz⟩:=I.tuple hq
  refine SeqAt.notIn_tupleAt (z9 x) pl (λw hw=>kf rx fx r fs w (by simpa using hw)) ⟨.bl _,H,I,rfl,?_⟩
  rw[show its.toArray.any (z9 x)=its.any (z9 x) by simp,oF r fs]
  exact q
theorem oC:dD X (.builtin "len") (λxs H Q=>∃p ys,xs=[.ref p]/\(nv X.K H p ys\/tP X.K H p ys)/\Q (.int ys.length) H):=by
 intro pins s σ H xs us Q I r h
 obtain⟨p,ys,rfl,hq,q⟩:=h
 obtain⟨u,rfl,rx⟩:=vals1 r
 cases rx
 have hn:=rD
 rcases hq with hq | hq
 ·obtain⟨its,r',pl,hz⟩:=I.list hq
  have hlen:=r'.length
  exact Calls.call_len_list pl.isList (by simp only[List.size_toArray] <;> lia) ⟨.int ys.length,H,I.tok _,⟨s.toks+1,by rw[List.size_toArray,hlen]⟩,q⟩
 ·obtain⟨its,r',pl,hz⟩:=I.tuple hq
  have hlen:=r'.length
  exact len_tuple pl (by simp only[List.size_toArray] <;> lia) ⟨.int ys.length,H,I.tok _,⟨s.toks+1,by rw[List.size_toArray,hlen]⟩,q⟩
theorem wj:dD X (.type "list") (λxs H Q=>∃p ys,xs=[.ref p]/\(nv X.K H p ys\/tP X.K H p ys)/\∀l,H l=none->Q (.ref l) (upd H l (.lst ys))):=by
 intro pins s σ H xs us Q I r h
 obtain⟨p,ys,rfl,hq,q⟩:=h
 obtain⟨u,rfl,rx⟩:=vals1 r
 cases rx
 have fin:∀(its:List Value),Vals ys its->ys.length<=sizeLine->∀(h':Heap) (c':Nat),(∀b o',s.heap.get? b=some o'->h'.get? b=some o')->
   h'.get? s.heap.objs.size=some { cls:=.type "list",dict:=none,data:=.seq its.toArray c',slots:=#[] }->EP X pins σ Q (.ref s.heap.objs.size) { s with heap:=h' }:=λits r' hz h' c' kp e=>
  ⟨.ref s.heap.objs.size,_,I.laid (t':=s.toks) kp (Nat.le_refl _) (show cI X.prog X.w _ h' _ (.lst ys) from ⟨hz,its,c',r',e⟩),rfl,q _ (I.aY.fresh (Nat.le_refl _))⟩
 rcases hq with hq | hq
 ·obtain⟨its,r',pl,hz⟩:=I.list hq
  have hlen:=r'.length
  obtain⟨o,ho,hc,n,hd⟩:=pl.isList
  exact call_list_seq p (.inl rfl) ho hc hd (λh' c' kp e=>fin its r' hz h' c' kp e) (by simp only[List.size_toArray] <;> lia)
 ·obtain⟨its,r',pl,hz⟩:=I.tuple hq
  have hlen:=r'.length
  obtain⟨o,ho,hc,n,hd⟩:=pl
  exact call_list_seq p (.inr rfl) ho hc hd (λh' c' kp e=>fin its r' hz h' c' kp e) (by simp only[List.size_toArray] <;> lia)
theorem tM:dD X (.type "tuple") (λxs H Q=>∃p ys,xs=[.ref p]/\((nv X.K H p ys/\∀l,H l=none->Q (.ref l) (upd H l (.tup ys)))\/(tP X.K H p ys/\Q (.ref p) H))):=by
 intro pins s σ H xs us Q I r h
 obtain⟨p,ys,rfl,h⟩:=h
 obtain⟨u,rfl,rx⟩:=vals1 r
 cases rx
 rcases h with ⟨hq,q⟩ | ⟨hq,q⟩
 ·obtain⟨its,r',pl,hz⟩:=I.list hq
  have hlen:=r'.length
  refine call_tuple_list pl.isList (λh' kp=>?_) (by simp only[List.size_toArray] <;> lia)
  have I1:Inv X pins σ H { s with heap:=h' }:=I.kept (t':=s.toks) kp
  have I2:Inv X pins σ (upd H h'.objs.size (.tup ys)) { s with heap:=h'.push { cls:=.type "tuple",data:=.seq its.toArray } }:=
   I1.laid (t':=s.toks) (λb o e=>Heap.get?_push_of_some _ e) (Nat.le_refl _) (show cI X.prog X.w _ _ _ (.tup ys) from ⟨hz,its,r',IsTup.new _ _⟩)
  exact⟨.ref h'.objs.size,_,I2,rfl,q _ (I1.aY.fresh (Nat.le_refl _))⟩
 ·obtain⟨its,r',pl,hz⟩:=I.tuple hq
  exact call_tuple_same pl ⟨.ref p,H,I,rfl,q⟩
def Yz(K:PySem.W.Frag)(T:String)(x:V)(H:Hp):Prop:=match x with
 | .str _=>T = "str"
 | .int _=>T = "int"
 | .ref p=>(T = "list"/\∃xs,nv K H p xs)\/(T = "tuple"/\∃o,K.lookup p=some o/\o.cls=.type "tuple"/\o.dict=none)\/
   (T = "dict"/\((∃aG,H p=some (.dK aG))\/∃aG,H p=some (.dT aG)))\/(T = "set"/\∃S n,H p=some (.set S n))
 | _=>False
theorem Ra{pins:List (Addr×Obj)}{σ:St}{H:Hp}{s:Shared}{T:String}{x:V}{v:Value}(I:Inv X pins σ H s)(r:RelV x v)(ty:Yz X.K T x H) :
  s.TypeIs v T/\∀a,v=.ref a->∃ob,s.heap.get? a=some ob/\ob.dict=none:=by
 cases x with
 | str z=>
  obtain⟨t,rfl⟩:=r
  cases (show T = "str" from ty)
  exact⟨typeIs_str s z t,λ_ e=>nomatch e⟩
 | int i=>
  obtain⟨t,rfl⟩:=r
  cases (show T = "int" from ty)
  exact⟨typeIs_int s i t,λ_ e=>nomatch e⟩
 | ref p=>
  cases r
  rcases ty with ⟨rfl,xs,hq⟩ | ⟨rfl,o,hk,hc,hd⟩ | ⟨rfl,hk⟩ | ⟨rfl,S,n,hk⟩
  ·obtain⟨its,_,pl,_⟩:=I.list hq
   refine⟨pl.isList.typeIs,λa e=>?_⟩
   cases e
   obtain⟨o,n,e,c,hd,_⟩:=pl
   exact⟨o,e,hd⟩
  ·refine⟨⟨o,I.jT p o hk,hc⟩,λa e=>?_⟩
   cases e
   exact⟨o,I.jT _ o hk,hd⟩
  ·have z:∃o,s.heap.get? p=some o/\o.ExactDict:=by
    rcases hk with ⟨aG,hk⟩ | ⟨aG,hk⟩
    ·obtain⟨_,_,_,_,o,_,_,e,ex,_⟩:=I.aY p _ hk
     exact⟨o,e,ex⟩
    ·obtain⟨_,_,_,_,o,_,_,e,ex,_⟩:=I.aY p _ hk
     exact⟨o,e,ex⟩
   obtain⟨o,e,ex⟩:=z
   refine⟨⟨o,e,ex.1⟩,λa e2=>?_⟩
   cases e2
   exact⟨o,e,ex.2.1⟩
  ·obtain⟨o,_,_,_,e,ex,_⟩:=I.aY p _ hk
   refine⟨⟨o,e,ex.1⟩,λa e2=>?_⟩
   cases e2
   exact⟨o,e,ex.2.1⟩
 | _=>exact False.elim ty
def Ri(K:PySem.W.Frag)(T:String)(r:V->List V->Hp->VK->Prop)(to:TE):TE:=λσ H Q=>to σ H λx H1=>Yz K T x H1/\r x [] H1 Q
def Vo(K:PySem.W.Frag)(T:String)(r:V->List V->Hp->VK->Prop)(to:TE)(t:TA):TE:=λσ H Q=>to σ H λx H1=>Yz K T x H1/\t σ H1 λxs H2=>r x xs H2 Q
variable {o e:Expr}{es:List Expr}{to:TE}{t:TA}{name:Str}{apos cG:Pos}{T id:String}{r:V->List V->Hp->VK->Prop}
theorem uA(pa:PlainAttrs T)(slot:Slot T name id)(hty:typeOf (.builtin id)=pure (.type "method_descriptor"))(hm:MtR X id r)(ho:PE X o to)(ha:PA X (e::es) t)
  (Xd:attributeBase o name X.env (eval o X.env)=eval o X.env:=by rfl)
  (aCj:((backTo cG (starEach (e::es) X.env)).all (λx=>!x.1)&&(backToKw cG (keywordEach [] X.env)).all (λx=>x.1.isSome)
   && decide ((e::es).length+([]:List Keyword).length+(if ([]:List Keyword).isEmpty then 0 else 1)<30))=true:=by rfl)
  (hline:(apos.endLine==cG.line)=true:=by rfl) (hs:starEach (e::es) X.env=(false,eval e X.env)::starEach es X.env:=by rfl) (Tq:(backTo cG (starEach es X.env)).any (·.1)=false:=by rfl) :
  PE X (.Call (.Attribute o name apos) (e::es) [] cG) (Vo X.K T r to t):=by
 intro pins s σ H Q I h
 refine wpAny_Call_method_late Xd aCj hline rfl (cw (ho pins s σ H _ I h) λv s1 ⟨x,H1,I1,r1,ty,q1⟩=>?_)
 obtain⟨h1,h2⟩:=Ra I1 r1 ty
 refine⟨T,id,pa,slot,hty,h1,h2,?_⟩
 have hA:=ha cG pins s1 σ H1 _ I1 q1
 rw[hs]at hA ⊢
 refine Calls.callWith_builtin (by show(false||(backTo cG (starEach es X.env)).any (·.1))=false;rw[Tq] <;> rfl) (Calls.evalArgs_plain ?_)
 exact cw hA λus s2 ⟨vs,H2,I2,r2,q2⟩=>hm pins s2 σ H2 x vs v us Q I2 r1 r2 q2
end
end L2
namespace L2
open PySem PySem.Spec PyProof.Rows
def MtM(X:Cx)(id:String)(r:V->List V->Hp->VK->Prop):Prop:=
 ∀(pins:List (Addr×Obj)) (s:Shared) (σ:St) (H:Hp) (x:V) (xs:List V) (v:Value) (us:List Value) (Q:VK),Inv X pins σ H s->RelV x v->Vals xs us->r x xs H Q->
  wpAny (model X.prog X.w) X.A (call (.builtin id) (v::us)) (EP X pins σ Q) X.xe s
theorem Vals.one:∀{x:V} {us:List Value},Vals [x] us->∃u,us=[u]/\RelV x u
 | _,_,.cons r .nil=>⟨_,rfl,r⟩
theorem Vals.two:∀{x y:V} {us:List Value},Vals [x,y] us->∃u v,us=[u,v]/\RelV x u/\RelV y v
 | _,_,_,.cons r (.cons q .nil)=>⟨_,_,rfl,r,q⟩
section
variable {X:Cx}{pins:List (Addr×Obj)}{σ:St}{H:Hp}{s:Shared}{l b:Addr}{xs ys zs:List V}
theorem Inv.aBE{its its':List Value}{n:Nat}{f:Array Value->Array Value}{t':Nat}(I:Inv X pins σ H s)(hH:H l=some (.lst xs))
  (e:s.heap.get? l=some { cls:=.type "list",data:=.seq its.toArray n }) (hf:f its.toArray=its'.toArray) (hv:Vals ys its') (hz:ys.length<=sizeLine) :
  Inv X pins σ (upd H l (.lst ys)) { s with heap:=s.heap.update l (Obj.mapSeq f),toks:=t' }:=by
 have q:=PySem.IsL.update e f
 rw[hf]at q
 refine I.write (x:=l) (e:=l) (by rw[hH];exact trivial) (.inl rfl) (λb' u hb hu=>(Heap.get?_update_other s.heap (Obj.mapSeq f) (Ne.symm hb)).trans hu) ⟨_,q⟩ ?_
 exact⟨hz,its',_,hv,q⟩
theorem Inv.aBF{its:List Value}{t':Nat}(I:Inv X pins σ H s)(hv:Vals ys its)(hz:ys.length<=sizeLine) :
  Inv X pins σ (upd H s.heap.objs.size (.lst ys)) { s with heap:=s.heap.push { cls:=.type "list",data:=.seq its.toArray },toks:=t' }:=
 I.laid (λ_ _ q=>Heap.get?_push_of_some _ q) (Nat.le_refl _) ⟨hz,its,0,hv,Heap.get?_push_size _ rfl⟩
theorem Inv.fresh(I:Inv X pins σ H s):H s.heap.objs.size=none:=I.aY.fresh (Nat.le_refl _)
theorem Inv.SM(I:Inv X pins σ H s)(hH:H l=some (.lst xs)):xs.length<=sizeLine/\∃(its:List Value) (n:Nat),Vals xs its/\xs.length=its.length/\s.heap.get? l=some { cls:=.type "list",data:=.seq its.toArray n }:=by
 obtain⟨z,its,n,r,e⟩:=I.aY l _ hH
 exact⟨z,its,n,r,r.length,e⟩
end
section
variable {X:Cx}
def qB:V->List V->Hp->VK->Prop:=λx vs H Q=>∃l xs y,x=.ref l/\vs=[y]/\H l=some (.lst xs)/\xs.length<sizeLine/\Q .non (upd H l (.lst (xs++[y])))
theorem fC:MtM X "list.append" qB:=by
 intro pins s σ H x vs v us Q I rx rv h
 obtain⟨l,xs,y,rfl,rfl,hH,hz,q⟩:=h
 cases rx
 obtain⟨u,rfl,ru⟩:=rv.one
 obtain⟨z,its,n,r,hl,e⟩:=I.SM hH
 refine call_meets F.slot_list_append ⟨_,e,rfl⟩ F.entry_list_append (F.args_list_append_2 _ _) (PySem.list_append l its.toArray n u (by rw[List.size_toArray];lia)) ⟨e,?_⟩
 refine⟨.non,_,I.aBE (its':=its++[u]) hH e (by simp) (r.append (.cons ru .nil)) ?_,rfl,q⟩
 rw[List.length_append,List.length_singleton]
 lia
def vA:V->List V->Hp->VK->Prop:=λx vs H Q=>∃l b xs zs,x=.ref l/\vs=[.ref b]/\H l=some (.lst xs)/\H b=some (.lst zs)/\xs.length+zs.length<=sizeLine/\Q .non (upd H l (.lst (xs++zs)))
def o5:V->List V->Hp->VK->Prop:=λx vs H Q=>∃l xs i k y,x=.ref l/\vs=[.int i]/\H l=some (.lst xs)/\-(2 ^ 63)<=i/\i<2 ^ 63/\seqIndex? i xs.length=some k/\xs[k]?=some y/\Q y (upd H l (.lst (xs.eraseIdx k)))
def q0:V->List V->Hp->VK->Prop:=λx vs H Q=>∃l xs,x=.ref l/\vs=[]/\H l=some (.lst xs)/\Q .non (upd H l (.lst xs.reverse))
def y0:V->List V->Hp->VK->Prop:=λx vs H Q=>∃l xs,x=.ref l/\vs=[]/\H l=some (.lst xs)/\Q .non (upd H l (.lst []))
def M9:R2:=λx y H Q=>∃l b xs zs,x=.ref l/\y=.ref b/\H l=some (.lst xs)/\H b=some (.lst zs)/\xs.length+zs.length<=sizeLine/\∀p,H p=none->Q (.ref p) (upd H p (.lst (xs++zs)))
theorem zi:lH X (binaryOp .Add) M9:=by
 intro pins s σ H x y v u Q I rx ry h
 obtain⟨l,b,xs,zs,rfl,rfl,hH,hB,hz,q⟩:=h
 cases rx
 cases ry
 obtain⟨z,its,n,r,hl,e⟩:=I.SM hH
 obtain⟨z2,xS,n2,r2,Cq,e2⟩:=I.SM hB
 refine PySem.P.add_list e e2 ?_ (by rw[List.size_toArray,List.size_toArray];lia)
 have ea:its.toArray++xS.toArray=(its++xS).toArray:=by simp
 rw[ea]
 exact⟨.ref _,_,I.aBF (t':=s.toks) (r.append r2) (by rw[List.length_append];lia),rfl,q _ I.fresh⟩
end
section
variable {prog:Program}{w:World}{A:Around}{E:Value->Shared->Prop}{s:Shared}
end
section
variable {X:Cx}
end
end L2
namespace L2
open PySem PySem.Spec PyProof.Rows
section
variable {κ:Type} [DecidableEq κ]
def eF(aG:List (κ×V))(k:κ):Option V:=(aG.find? λkv=>decide (kv.1=k)).map (·.2)
def putK(aG:List (κ×V))(k:κ)(v:V):List (κ×V):=
 if (aG.any λkv=>decide (kv.1=k))=true then aG.map (λkv=>if kv.1=k then (kv.1,v) else kv) else aG++[(k,v)]
def XB(aG:List (κ×V))(k:κ):List (κ×V):=aG.filter λkv=>decide (kv.1≠k)
theorem dn{p:κ×V}{r:List (κ×V)}{k:κ}(e:p.1=k):eF (p::r) k=some p.2:=by simp[eF,List.find?_cons,e]
theorem dq{p:κ×V}{r:List (κ×V)}{k:κ}(e:¬p.1=k):eF (p::r) k=eF r k:=by simp[eF,List.find?_cons,e]
theorem iJ(k:κ):∀aG:List (κ×V),(aG.any λkv=>decide (kv.1=k))=(eF aG k).isSome
 | []=>rfl
 | p::r=>by
  rw[List.any_cons]
  by_cases e:p.1=k
  ·simp only[dn e,decide_eq_true e,Bool.true_or,Option.isSome_some]
  ·rw[dq e,decide_eq_false e,Bool.false_or];exact iJ k r
theorem wN(k j:κ)(y:V):∀aG:List (κ×V),eF (aG.map λkv=>if kv.1=k then (kv.1,y) else kv) j=(eF aG j).map λx=>if j=k then y else x
 | []=>rfl
 | p::r=>by
  have ih:=wN k j y r
  rw[List.map_cons]
  by_cases h:p.1=k
  ·rw[if_pos h]
   by_cases e:p.1=j
   ·rw[dn (p:=(p.1,y)) e,dn e,Option.map_some,if_pos (e.symm.trans h)]
   ·rw[dq (p:=(p.1,y)) e,dq e,ih]
  ·rw[if_neg h]
   by_cases e:p.1=j
   ·rw[dn (p:=p) e,dn e,Option.map_some,if_neg (λz=>h (e.trans z))]
   ·rw[dq (p:=p) e,dq e,ih]
theorem t5(k j:κ)(y:V):∀aG:List (κ×V),eF aG k=none->eF (aG++[(k,y)]) j=if j=k then some y else eF aG j
 | [],_=>by
  by_cases e:k=j
  ·rw[if_pos e.symm];exact dn (p:=(k,y)) e
  ·rw[if_neg (λz=>e z.symm)];exact dq (p:=(k,y)) e
 | p::r,hn=>by
  rw[List.cons_append]
  have hk:¬p.1=k:=λz=>by rw[dn z]at hn;cases hn
  rw[dq hk]at hn
  have ih:=t5 k j y r hn
  by_cases e:p.1=j
  ·rw[dn e,dn e,if_neg (λz=>hk (e.trans z))]
  ·rw[dq e,dq e,ih]
theorem GQ(aG:List (κ×V))(k j:κ)(y:V):eF (putK aG k y) j=if j=k then some y else eF aG j:=by
 unfold putK
 by_cases a:(aG.any λkv=>decide (kv.1=k))=true
 ·rw[if_pos a,wN]
  rw[iJ]at a
  by_cases e:j=k
  ·obtain⟨x,hx⟩:=Option.isSome_iff_exists.mp a
   rw[if_pos e,e,hx,Option.map_some,if_pos rfl]
  ·rw[if_neg e]
   cases eF aG j with
   | none=>rfl
   | some x=>rw[Option.map_some,if_neg e]
 ·rw[if_neg a]
  refine t5 k j y aG ?_
  rw[iJ]at a
  cases q:eF aG k with
  | none=>rfl
  | some x=>rw[q]at a;exact(a rfl).elim
theorem kj(aG:List (κ×V))(k:κ)(v:V):(putK aG k v).length<=aG.length+1:=by
 unfold putK
 split
 ·rw[List.length_map];lia
 ·rw[List.length_append,List.length_cons,List.length_nil];lia
theorem Ik{aG:List (κ×V)}{k:κ}(v:V)(h:eF aG k=none):putK aG k v=aG++[(k,v)]:=by
 unfold putK
 rw[iJ,h]
 exact if_neg (by decide)
theorem lG.pk{o:Option V}{u:Option Value}(r:lG o u):o.isSome=u.isSome:=by
 cases o with
 | none=>cases u with
  | none=>rfl
  | some _=>exact(show False from r).elim
 | some _=>cases u with
  | none=>exact(show False from r).elim
  | some _=>rfl
theorem KV.val{aG:List (κ×V)}{vs:List (κ×Value)}(r:KV aG vs)(k:κ):lG (eF aG k) (valueAt vs k):=by
 unfold KV at r
 induction r with
 | nil=>exact True.intro
 | @cons p q ps qs h t ih=>
  obtain⟨h1,h2⟩:=h
  by_cases e:p.1=k
  ·have e':q.1=k:=h1.symm.trans e
   have b:valueAt (q::qs) k=some q.2:=by simp[valueAt,List.find?_cons,e']
   rw[dn e,b];exact h2
  ·have e':¬q.1=k:=λz=>e (h1.trans z)
   have b:valueAt (q::qs) k=valueAt qs k:=by simp[valueAt,List.find?_cons,e']
   rw[dq e,b];exact ih
theorem KV.any{aG:List (κ×V)}{vs:List (κ×Value)}(r:KV aG vs)(k:κ):(aG.any λkv=>decide (kv.1=k))=vs.any λkv=>decide (kv.1=k):=by
 unfold KV at r
 induction r with
 | nil=>rfl
 | cons h t ih=>rw[List.any_cons,List.any_cons,ih,h.1]
theorem KV.repl{aG:List (κ×V)}{vs:List (κ×Value)}(r:KV aG vs)(k:κ){y:V}{u:Value}(ry:RelV y u) :
  KV (aG.map λkv=>if kv.1=k then (kv.1,y) else kv) (vs.map λkv=>if kv.1=k then (kv.1,u) else kv):=by
 unfold KV at r ⊢
 induction r with
 | nil=>exact .nil
 | @cons p q ps qs h t ih=>
  rw[List.map_cons,List.map_cons]
  refine .cons ?_ ih
  obtain⟨h1,h2⟩:=h
  by_cases e:p.1=k
  ·rw[if_pos e,if_pos (h1.symm.trans e)];exact⟨h1,ry⟩
  ·rw[if_neg e,if_neg (λz=>e (h1.trans z))];exact⟨h1,h2⟩
theorem KV.put{aG:List (κ×V)}{vs:List (κ×Value)}(r:KV aG vs)(k:κ){y:V}{u:Value}(ry:RelV y u):KV (putK aG k y) (stored vs k u):=by
 unfold putK stored
 rw[r.any k]
 by_cases e:(vs.any λkv=>decide (kv.1=k))=true
 ·rw[if_pos e,if_pos e];exact r.repl k ry
 ·rw[if_neg e,if_neg e];exact Paired.snoc r ⟨rfl,ry⟩
theorem KV.length{aG:List (κ×V)}{vs:List (κ×Value)}(r:KV aG vs):aG.length=vs.length:=Paired.length r
end
theorem Cd{P:Program}{w:World}{k:Key}{u:Value}(r:RelV (kV k) u):(cX P w).is k u=true:=by
 cases k with
 | inl i=>obtain⟨t,e⟩:=(show ∃t,u=Value.int i t from r);subst e;exact xK P w i t
 | inr x=>obtain⟨t,e⟩:=(show ∃t,u=Value.str x t from r);subst e;exact xJ P w x t
theorem uJ{P:Program}{w:World}:∀{ks:List Key} {us:List Value},Vals (ks.map kV) us->ItemsAre (cX P w) ks us
 | [],_,r=>by rw[List.map_nil]at r;cases r;exact .nil
 | k::ks,_,r=>by
  rw[List.map_cons]at r
  cases r with
  | cons h t=>exact .cons (Cd h) (uJ t)
abbrev KT(H:Hp):List (List Key×V)->List (List Key×Addr×Value)->Prop:=Paired λp q=>p.1=q.1/\H q.2.1=some (.tup (p.1.map kV))/\RelV p.2 q.2.2
theorem KT.val{H:Hp}{aG:List (List Key×V)}{xs:List (List Key×Addr×Value)}(r:KT H aG xs)(k:List Key):lG (eF aG k) ((atKey xs k).map (·.2)):=by
 induction r with
 | nil=>exact True.intro
 | @cons p q ps qs h t ih=>
  obtain⟨h1,_,h2⟩:=h
  by_cases e:p.1=k
  ·have e':q.1=k:=h1.symm.trans e
   have b:atKey (q::qs) k=some q.2:=by simp[atKey,List.find?_cons,e']
   rw[dn e,b];exact h2
  ·have e':¬q.1=k:=λz=>e (h1.trans z)
   have b:atKey (q::qs) k=atKey qs k:=by simp[atKey,List.find?_cons,e']
   rw[dq e,b];exact ih
theorem KT.repl{H:Hp}{aG:List (List Key×V)}{xs:List (List Key×Addr×Value)}(r:KT H aG xs)(k:List Key){y:V}{u:Value}(ry:RelV y u) :
  KT H (aG.map λkv=>if kv.1=k then (kv.1,y) else kv) (xs.map (putAt k u)):=by
 induction r with
 | nil=>exact .nil
 | @cons p q ps qs h t ih=>
  rw[List.map_cons,List.map_cons]
  refine .cons ?_ ih
  obtain⟨h1,h2,h3⟩:=h
  unfold putAt
  by_cases e:p.1=k
  ·rw[if_pos e,if_pos (h1.symm.trans e)];exact⟨h1,h2,ry⟩
  ·rw[if_neg e,if_neg (λz=>e (h1.trans z))];exact⟨h1,h2,h3⟩
theorem KT.put{H:Hp}{aG:List (List Key×V)}{xs:List (List Key×Addr×Value)}(r:KT H aG xs)(k:List Key){b:Addr}{y:V}{u:Value}(hb:H b=some (.tup (k.map kV)))(ry:RelV y u) :
  KT H (putK aG k y) (storedH xs k b u):=by
 have e:(aG.any λkv=>decide (kv.1=k))=(atKey xs k).isSome:=by
  rw[iJ,(r.val k).pk,Option.isSome_map]
 unfold putK storedH
 rw[e]
 by_cases q:(atKey xs k).isSome=true
 ·rw[if_pos q,if_pos q];exact r.repl k ry
 ·rw[if_neg q,if_neg q];exact Paired.snoc r ⟨rfl,hb,ry⟩
theorem KT.keeps{H H':Hp}{aG:List (List Key×V)}{xs:List (List Key×Addr×Value)}(r:KT H aG xs)(ht:∀b ys,H b=some (.tup ys)->H' b=some (.tup ys)):KT H' aG xs:=
 Paired.Sw r λ_ _ z=>⟨z.1,ht _ _ z.2.1,z.2.2⟩
section
variable {P:Program}{w:World}{H:Hp}{h:Heap}{a:Addr}
theorem Qd{u:HO}(ok:fP P w H h)(e:Rd H a u):cI P w H h a u:=e.ok ok
theorem CK{aG:List (Key×V)}(ok:fP P w H h)(e:Rd H a (.dK aG)):aG.length<=sizeLine/\(a==sysModules)=false/\∃vs,KV aG vs/\h.DictOf (cX P w) a vs:=
 show cI P w H h a (.dK aG) from Qd ok e
theorem XD{aG:List (Key×V)}(ok:fP P w H h)(e:H a=some (.dK aG)):aG.length<=sizeLine/\(a==sysModules)=false/\∃vs,KV aG vs/\h.DictOf (cX P w) a vs:=CK ok (.inl e)
theorem vW{ks:List Key}(ok:fP P w H h)(e:H a=some (.tup (ks.map kV))):(tupleKind (cX P w)).is h ks a:=by
 obtain⟨_,its,r,o,h1,h2,n,h3⟩:=(show cI P w H h a (.tup (ks.map kV)) from ok a _ e)
 exact⟨o,its.toArray,n,h1,h2,h3,by simpa using uJ r⟩
theorem CG{aG:List (List Key×V)}(ok:fP P w H h)(e:Rd H a (.dT aG)):aG.length<=sizeLine/\(a==sysModules)=false/\
  ∃xs,KT H aG xs/\h.DictOfH (tupleKind (cX P w)) a xs:=by
 obtain⟨z,y,xs,r,o,es,ep,h1,h2,h3,h4,h5⟩:=(show cI P w H h a (.dT aG) from Qd ok e)
 refine⟨z,y,xs,r,o,es,ep,h1,h2,h3,h4,λx hx=>?_,h5⟩
 have all:∀{l:List (List Key×V)} {m:List (List Key×Addr×Value)},KT H l m->∀x∈m,(tupleKind (cX P w)).is h x.1 x.2.1:=by
  intro l m q
  induction q with
  | nil=>intro x hx;exact nomatch hx
  | @cons p q ps qs hq t ih=>
   intro x hx
   rcases List.mem_cons.mp hx with e | hx
   ·subst e
    exact vW ok (by rw[<-hq.1];exact hq.2.1)
   ·exact ih x hx
 exact all r x hx
theorem Xz{aG:List (List Key×V)}(ok:fP P w H h)(e:H a=some (.dT aG)):aG.length<=sizeLine/\(a==sysModules)=false/\
  ∃xs,KT H aG xs/\h.DictOfH (tupleKind (cX P w)) a xs:=CG ok (.inl e)
end
def oN(H:Hp)(a:Addr)(y:V)(r:Option V):Prop:=
 (∃aG k,Rd H a (.dK aG)/\y=kV k/\r=eF aG k)\/∃aG k b,Rd H a (.dT aG)/\y=.ref b/\H b=some (.tup (k.map kV))/\r=eF aG k
def sG(H:Hp)(a:Addr)(y v:V)(H':Hp):Prop:=
 (∃aG k,H a=some (.dK aG)/\y=kV k/\aG.length<sizeLine/\H'=upd H a (.dK (putK aG k v)))\/
 ∃aG k b,H a=some (.dT aG)/\y=.ref b/\H b=some (.tup (k.map kV))/\aG.length<sizeLine/\H'=upd H a (.dT (putK aG k v))
theorem oN.k{H:Hp}{a:Addr}{aG:List (Key×V)}{k:Key}(e:H a=some (.dK aG)):oN H a (kV k) (eF aG k):=.inl ⟨aG,k,.inl e,rfl,rfl⟩
theorem oN.t{H:Hp}{a b:Addr}{aG:List (List Key×V)}{k:List Key}(e:H a=some (.dT aG))(eb:H b=some (.tup (k.map kV))):oN H a (.ref b) (eF aG k):=.inr ⟨aG,k,b,.inl e,rfl,eb,rfl⟩
theorem sG.k{H:Hp}{a:Addr}{aG:List (Key×V)}{k:Key}{v:V}(e:H a=some (.dK aG))(hl:aG.length<sizeLine):sG H a (kV k) v (upd H a (.dK (putK aG k v))):=.inl ⟨aG,k,e,rfl,hl,rfl⟩
theorem sG.t{H:Hp}{a b:Addr}{aG:List (List Key×V)}{k:List Key}{v:V}(e:H a=some (.dT aG))(eb:H b=some (.tup (k.map kV)))(hl:aG.length<sizeLine) :
  sG H a (.ref b) v (upd H a (.dT (putK aG k v))):=.inr ⟨aG,k,b,e,rfl,eb,hl,rfl⟩
section
variable {X:Cx}{pins:List (Addr×Obj)}{σ:St}{H:Hp}{s:Shared}{a:Addr}{y v:V}{u r:Value}{o:Option V}{A:Around}{E:Value->Shared->Prop}
theorem Inv.big(I:Inv X pins σ H s):sysModules<s.heap.objs.size:=by
 have h:mainGlobals<s.heap.objs.size:=(I.mod.glob.keeps I.bk).lt
 exact Nat.lt_trans (by decide) h
theorem FN{Q:Value->Shared->Prop}(hu:A.units+1<cLine)(I:Inv X pins σ H s)(g:oN H a y (some v))(ry:RelV y u)(h:∀w' s',Inv X pins σ H s'->RelV v w'->Q w' s') :
  wpAny (model X.prog X.w) A (getItem (.ref a) u) Q E s:=by
 rcases g with ⟨aG,k,e,ey,l⟩ | ⟨aG,k,b,e,ey,eb,l⟩
 ·subst ey
  obtain⟨z,hd,vs,rel,dd⟩:=CK I.aY e
  obtain⟨w',hw,Hv⟩:=lG.some_of (v:=v) (o:=valueAt vs k) (by rw[l];exact rel.val k)
  exact wpAny_getItem_of (Cd ry) dd.mapOf hw (h w' _ (I.tok _) Hv)
 ·subst ey
  cases (show u=Value.ref b from ry)
  obtain⟨z,hd,xs,rel,dd⟩:=CG I.aY e
  obtain⟨w',hw,Hv⟩:=lG.some_of (v:=v) (o:=(atKey xs k).map (·.2)) (by rw[l];exact rel.val k)
  obtain⟨p,hp,Qr⟩:=Option.map_eq_some_iff.mp hw
  refine wpAny_getItem_heap (tupleKind_room_in1 hu) (vW I.aY eb) dd hp ?_
  rw[Qr]
  exact h w' _ (I.tok _) Hv
theorem Pn{Q:Value->Shared->Prop}(hu:A.units+1<cLine)(I:Inv X pins σ H s)(g:oN H a y o)(ry:RelV y u)(h:∀s',Inv X pins σ H s'->Q (.bool (!o.isSome)) s') :
  wpAny (model X.prog X.w) A (compareOp .NotIn u (.ref a)) Q E s:=by
 rcases g with ⟨aG,k,e,ey,l⟩ | ⟨aG,k,b,e,ey,eb,l⟩
 ·subst ey
  obtain⟨z,hd,vs,rel,dd⟩:=CK I.aY e
  refine wpAny_notIn_of (Cd ry) hd dd.mapOf ?_
  rw[<-(rel.val k).pk,<-l]
  exact h _ (I.tok _)
 ·subst ey
  cases (show u=Value.ref b from ry)
  obtain⟨z,hd,xs,rel,dd⟩:=CG I.aY e
  refine wpAny_notIn_heap (tupleKind_room_in1 hu) (vW I.aY eb) hd dd ?_
  have q:=(rel.val k).pk
  rw[Option.isSome_map]at q
  rw[<-q,<-l]
  exact h _ (I.tok _)
theorem CV{h':Heap}{t':Nat}{ob:HO}(I:Inv X pins σ H s)(mu:Yq (H a))(hs:Heap.SameBut a s.heap h')(he:∃q,h'.get? a=some q)(new:cI X.prog X.w (upd H a ob) h' a ob) :
  Inv X pins σ (upd H a ob) { s with heap:=h',toks:=t' }:=
 I.write (x:=a) (e:=a) mu (.inl rfl) (λb q hb z=>(hs.2 b hb).trans z) he new
theorem T9{P:Program}{w:World}{H':Hp}{h':Heap}{aG:List (Key×V)}{vs:List (Key×Value)}(z:aG.length<=sizeLine)(hd:(a==sysModules)=false)(rel:KV aG vs)(dd:h'.DictOf (cX P w) a vs) :
  cI P w H' h' a (.dK aG):=⟨z,hd,vs,rel,dd⟩
theorem FK{H':Hp}{Q:Unit->Shared->Prop}(hu:A.units+1<cLine)(I:Inv X pins σ H s)(g:sG H a y v H')(ry:RelV y u)(rv:RelV v r)(h:∀s',Inv X pins σ H' s'->Q () s') :
  wpAny (model X.prog X.w) A (setItem (.ref a) u r) Q E s:=by
 rcases g with ⟨aG,k,e,ey,l,eH⟩ | ⟨aG,k,b,e,ey,eb,l,eH⟩
 ·subst ey eH
  obtain⟨z,hd,vs,rel,dd⟩:=XD I.aY e
  have hz:vs.length<=sizeLine:=by rw[<-rel.length];exact z
  have hl:(putK aG k v).length<=sizeLine:=by have:=kj aG k v;lia
  refine wpAny_setItem_pairs (hsz:=hz) (Cd ry) dd λh' ZV hs=>h _ ?_
  have he:∃q,h'.get? a=some q:=let ⟨q,_,_,hq,_⟩:=ZV;⟨q,hq⟩
  exact CV I (by rw[e];exact True.intro) hs he (T9 hl hd (rel.put k rv) ZV)
 ·subst ey eH
  cases (show u=Value.ref b from ry)
  obtain⟨z,hd,xs,rel,dd⟩:=Xz I.aY e
  have hz:xs.length<=sizeLine:=by rw[<-Paired.length rel];exact z
  have hl:(putK aG k v).length<=sizeLine:=by have:=kj aG k v;lia
  refine wpAny_setItem_heap (hsz:=hz) (tupleKind_room_in1 hu) (vW I.aY eb) dd λh' ZV hs=>h _ ?_
  obtain⟨q,es,ep,hq,h2,h3,h4,_,h5⟩:=ZV
  refine CV I (by rw[e];exact True.intro) hs ⟨q,hq⟩ ⟨hl,hd,_,(rel.put k eb rv).keeps λc ys ec=>?_,q,es,ep,hq,h2,h3,h4,h5⟩
  rw[au (aW ec e (λz=>nomatch z))]
  exact ec
end
section
variable {X:Cx}{pins:List (Addr×Obj)}{σ:St}{H:Hp}{s:Shared}{a:Addr}{aG:List (Key×V)}{k:Key}{u:Value}{A:Around}{E:Value->Shared->Prop}
end
def Ul(i:Expr):Prop:=∀ov iv,subscripted i false ov iv=operate [ov,iv] (getItem ov iv)
theorem Mr{prog:Program}{w:World}{A:Around}{E:Value->Shared->Prop}{s:Shared}{env:Env}{value slice:Expr}{pos:Pos}{T id:String}{Q:Value->Shared->Prop}
  (hl:typeLookup (.type T) "__getitem__" = pure (some (.builtin id))) (hs:Ul slice)
  (h:wpAny (model prog w) A (eval value env) (λo s₁=>wpAny (model prog w) A (eval slice env) (λi s₂=>s₂.TypeIs o T/\wpAny (model prog w) A (getItem o i) Q E s₂) E s₁) E s) :
  wpAny (model prog w) A (eval (.Subscript value slice pos) env) Q E s:=by
 refine Subscript_ (wpAny_mono h (λo s₁ h₁=>wpAny_mono h₁ (λi s₂ h₂=>?_) λ_ _ x=>x) λ_ _ x=>x)
 obtain⟨hT,h₂⟩:=h₂
 unfold subscriptTail
 refine wpAny_bind ?_
 rw[getitemInPython_of_ne hT.not_modules]
 refine wpAny_bind (wpAny_specialOf hT hl ?_)
 have fin:wpAny (model prog w) A (subscripted slice false o i) (λr s₃=>wpAny (model prog w) A (letTemporaryGo value o r >>= λ_=>pure r) Q E s₃) E s₂:=by
  rw[hs o i]
  exact wpAny_operating (wpAny_mono h₂ (λr s₃ h₃=>wpAny_bind (wpAny_letTemporaryGo (wpAny_pure h₃))) λ_ _ x=>x)
 first
  | exact wpAny_pure (wpAny_bind fin)
  | exact wpAny_bind (wpAny_pure (wpAny_bind fin))
  | exact wpAny_bind fin
theorem ym{X:Cx}{pins:List (Addr×Obj)}{σ:St}{H:Hp}{s:Shared}{a:Addr}{y:V}{o:Option V}(I:Inv X pins σ H s)(g:oN H a y o):s.TypeIs (.ref a) "dict":=by
 rcases g with ⟨aG,k,e,_,_⟩ | ⟨aG,k,b,e,_,_,_⟩
 ·obtain⟨_,_,vs,_,dd⟩:=CK I.aY e
  exact dd.typeIs
 ·obtain⟨_,_,xs,_,dd⟩:=CG I.aY e
  exact dd.typeIs
def ua(td ty:TE):TE:=λσ H Q=>td σ H λx H1=>ty σ H1 λy H2=>∃a v,x=.ref a/\oN H2 a y (some v)/\Q v H2
def vg(ty td:TE):TE:=λσ H Q=>ty σ H λy H1=>td σ H1 λx H2=>∃a o,x=.ref a/\oN H2 a y o/\Q (.bl (!o.isSome)) H2
def qY(td ty tv:TE):TS:=λD σ H=>tv σ H λv H1=>td σ H1 λx H2=>ty σ H2 λy H3=>∃a H4,x=.ref a/\sG H3 a y v H4/\D.nx σ H4
section
variable {X:Cx}{o i e value:Expr}{pos pos' GZ:Pos}{td ty tv:TE}
theorem N0(hu:X.A.units+1<cLine)(ho:PE X o td)(hi:PE X i ty)(hs:Ul i):PE X (.Subscript o i pos) (ua td ty):=by
 intro pins s σ H Q I h
 refine Mr PySem.F.slot_dict_getitem.lookup hs (cw (ho pins s σ H _ I h) λu s1 ⟨x,H1,I1,rx,q1⟩=>cw (hi pins s1 σ H1 _ I1 q1) λiv s2 ⟨y,H2,I2,ry,a,v,ex,g,q2⟩=>?_)
 subst ex
 obtain rfl:u=Value.ref a:=rx
 exact⟨ym I2 g,FN hu I2 g ry λw' s3 I3 Hv=>⟨v,H2,I3,Hv,q2⟩⟩
theorem Eo(hu:X.A.units+1<cLine)(hi:PE X i ty)(ho:PE X o td):PC X .NotIn i o (vg ty td):=by
 intro pins s σ H Q I h
 refine cw (hi pins s σ H _ I h) λiv s1 ⟨y,H1,I1,ry,q1⟩=>cw (ho pins s1 σ H1 _ I1 q1) λu s2 ⟨x,H2,I2,rx,a,ov,ex,g,q2⟩=>?_
 subst ex
 obtain rfl:u=Value.ref a:=rx
 exact Pn hu I2 g ry λs3 I3=>⟨.bl (!ov.isSome),H2,I3,rfl,q2⟩
theorem Nz(hu:X.A.units+1<cLine)(ho:PE X o td)(hi:PE X i ty)(hv:PE X value tv)(hs:swapsWith value (some (.Subscript o i pos')) pos.line X.env=pure false) :
  PS X (.Assign [.Subscript o i pos'] value pos) (qY td ty tv):=by
 intro pins s σ H D I h
 refine wpAny_Assign_Subscript (cw (hv pins s σ H _ I h) λr s1 ⟨v,H1,I1,rv,q1⟩=>cw (ho pins s1 σ H1 _ I1 q1) λu s2 ⟨x,H2,I2,rx,q2⟩=>cw (hi pins s2 σ H2 _ I2 q2) λiv s3 ⟨y,H3,I3,ry,a,H4,ex,g,q3⟩=>?_) hs
 subst ex
 obtain rfl:u=Value.ref a:=rx
 exact FK hu I3 g ry rv λs4 I4=>⟨σ,H4,I4,q3⟩
end
theorem Kw{P:Program}{w:World}{H:Hp}(h:Heap)(hb:sysModules<h.objs.size):cI P w H (h.push { cls:=.type "dict",data:=.dict #[] }) h.objs.size (.dK []):=
 ⟨Nat.zero_le _,beq_eq_false_iff_ne.mpr (Ne.symm (Nat.ne_of_lt hb)),[],.nil,Heap.DictOf.new h⟩
theorem Kv{P:Program}{w:World}{H:Hp}(h:Heap)(hb:sysModules<h.objs.size):cI P w H (h.push { cls:=.type "dict",data:=.dict #[] }) h.objs.size (.dT []):=
 ⟨Nat.zero_le _,beq_eq_false_iff_ne.mpr (Ne.symm (Nat.ne_of_lt hb)),[],.nil,_,#[],0,Heap.get?_push_size _ rfl,⟨rfl,rfl,rfl⟩,rfl,rfl,List.nodup_nil⟩
def qQ:TE:=λ_ H Q=>∀p,H p=none->Q (.ref p) (upd H p (.dK []))
def qP:TE:=λ_ H Q=>∀p,H p=none->Q (.ref p) (upd H p (.dT []))
section
variable {X:Cx}{pos:Pos}
theorem Jd:PE X (.Dict [] [] pos) qQ:=λpins s σ H Q I h=>
 wpAny_Dict_empty ⟨.ref s.heap.objs.size,_,I.laid (a:=s.heap.objs.size) (o:=.dK []) (t':=s.toks) (λ_ _ q=>Heap.get?_push_of_some _ q) (Nat.le_refl _) (Kw s.heap I.big),rfl,h _ (I.aY.fresh (Nat.le_refl _))⟩
theorem Jc:PE X (.Dict [] [] pos) qP:=λpins s σ H Q I h=>
 wpAny_Dict_empty ⟨.ref s.heap.objs.size,_,I.laid (a:=s.heap.objs.size) (o:=.dT []) (t':=s.toks) (λ_ _ q=>Heap.get?_push_of_some _ q) (Nat.le_refl _) (Kv s.heap I.big),rfl,h _ (I.aY.fresh (Nat.le_refl _))⟩
end
def Sv(aG more:List (Key×V)):List (Key×V):=more.foldl (λacc kv=>putK acc kv.1 kv.2) aG
structure M1(X:Cx)(o:Expr)(m:Str)(apos:Pos)(e:Expr)(cG:Pos):Prop where
 base:attributeBase o m X.env (eval o X.env)=eval o X.env
 few:((backTo cG (starEach [e] X.env)).all (λx=>!x.1)&&(backToKw cG (keywordEach [] X.env)).all (λx=>x.1.isSome)
  && decide (([e]:List Expr).length+([]:List Keyword).length+(if ([]:List Keyword).isEmpty then 0 else 1)<30))=true
 line:(apos.endLine==cG.line)=true
 trees:backTo cG (starEach [e] X.env)=[(false,eval e X.env)]
structure M2(X:Cx)(o:Expr)(m:Str)(apos:Pos)(e f:Expr)(cG:Pos):Prop where
 base:attributeBase o m X.env (eval o X.env)=eval o X.env
 few:((backTo cG (starEach [e,f] X.env)).all (λx=>!x.1)&&(backToKw cG (keywordEach [] X.env)).all (λx=>x.1.isSome)
  && decide (([e,f]:List Expr).length+([]:List Keyword).length+(if ([]:List Keyword).isEmpty then 0 else 1)<30))=true
 line:(apos.endLine==cG.line)=true
 trees:backTo cG (starEach [e,f] X.env)=[(false,eval e X.env),(false,eval f X.env)]
def IsD(H:Hp)(a:Addr):Prop:=(∃aG,Rd H a (.dK aG))\/∃aG,Rd H a (.dT aG)
section
variable {X:Cx}{pins:List (Addr×Obj)}{σ:St}{H:Hp}{s:Shared}{a:Addr}{y d:V}{u r:Value}{o:Option V}{A:Around}{E:Value->Shared->Prop}
end
def G9(td ty:TE):TE:=λσ H Q=>td σ H λx H1=>∃a,x=.ref a/\IsD H1 a/\ty σ H1 λy H2=>∃aG k v,H2 a=some (.dK aG)/\y=kV k/\eF aG k=some v/\Q v (upd H2 a (.dK (XB aG k)))
section
variable {X:Cx}{o e f:Expr}{apos cG:Pos}{td ty tx:TE}
end
section
variable {X:Cx}{pins:List (Addr×Obj)}{σ:St}{H:Hp}{s:Shared}{a:Addr}{aG:List (Key×V)}{A:Around}{E:Value->Shared->Prop}
end
section
variable {X:Cx}{pins:List (Addr×Obj)}{σ:St}{H:Hp}{s:Shared}{a:Addr}{y:V}{u:Value}{A:Around}{E:Value->Shared->Prop}
end
end L2
namespace Att
open PySem PySem.W PySem.Calls PyProof.Rows
theorem ql{P:Params}{h:Heap}:∀(ns:List Int) (vs:List Value),WellAll P h vs (ns.map WData.int)->IntsAre vs ns:=by
 intro ns
 induction ns with
 | nil=>
  intro vs w
  rw[List.map_nil]at w
  cases w
  exact .nil
 | cons n ns ih=>
  intro vs w
  rw[List.map_cons]at w
  cases w with
  | cons a b=>
   cases a
   exact .cons _ _ (ih _ b)
theorem Eg{l:OpenLaw}{n:Nat}(hn:l.most=some n){P:Params}{h:Heap}{args:List WData}{vals:List Value}
  (Ox:l.row.toRowW.claim.pre args=true) (hwl:WellAll P h vals args) :
  ∃a vs ns,vals=[Value.ref a]/\args=[WData.list (ns.map WData.int)]/\h.get? a=some { cls:=.type "list",data:=.seq vs.toArray }/\IntsAre vs ns/\ns.length<=n:=by
 have hsh:WShape.hasAll [] args [.list .int]=true:=(pre_splitW Ox).1
 have hc:l.pre.holds [] { args:=args }=true:=(pre_splitW Ox).2
 obtain⟨d,r,rfl,h1,h2⟩:=hasAllW_cons hsh
 obtain rfl:=hasAllW_nil h2
 obtain⟨xs,rfl,h3⟩:=hasW_list h1
 obtain⟨ns,rfl⟩:=items_int h3
 have hlen:ns.length<=n:=by
  unfold OpenLaw.pre at hc
  have h4:(WTm.not (.lt (.lit (.int (n:Int))) (.len (.arg 0)))).holds [] { args:=[.list (ns.map .int)] }=true:=by
   have h4:=(holds_andW hc).1
   rw[hn]at h4
   exact h4
  have h5:=condW_of h4 (w_not (w_lt w_lit (w_len_list (w_arg rfl))))
  rw[List.length_map]at h5
  refine Nat.le_of_not_lt λq=>?_
  have q':(n:Int)<((ns.length:Nat):Int):=by lia
  first
   | (rw[decide_eq_true q']at h5;exact absurd h5 (by decide))
   | (simp at h5;lia)
 cases hwl with
 | cons w1 w2=>
  cases w2
  cases w1 with
  | list ho qo=>exact⟨_,_,ns,rfl,rfl,ho,ql ns _ qo,hlen⟩
theorem Em(l:OpenLaw)(args:List WData):l.row.toRowW.claim.post args (.bool true) args=true:=
 postW_of (r:=l.row.toRowW) (X:=(true==true))
  (show WShape.has [] (.bool true) .bool=true by first | rfl | decide | simp[WShape.has,WShape.arms,WShape.armsAll])
  (show(WTm.eq .res (.lit (.bool true))).value [] { args:=args,res:=some (.bool true),after:=args }=some (.bool (true==true)) from w_eq_bool (w_res rfl) w_lit) rfl
theorem yz{l:OpenLaw}{n:Nat}{q:Program}{loose:List Str}{XP:(Str->Option Value)->Heap->Prop}{YP:World->Heap->Prop}{d:DefRec}
  (hn:l.most=some n) (W9:d.params.defaults=[])
  (call:∀(w:World) (s₀ s₁:Shared) (mg mb:Str->Option Value) (fa:Addr) (o:Obj) (pm cd doc:Value) (a:Addr) (vs:List Value) (ns:List Int),
   Ground q loose [] XP w s₀ mg mb s₁.heap->YP w s₁.heap->
   s₁.heap.get? fa=some o->o.data=.func (docDef d.name d.params d.body d.scope pm cd doc)->s₁.heap.CodeRec cd d.name->mg d.name=some (.ref fa)->
   s₁.heap.get? a=some { cls:=.type "list",data:=.seq vs.toArray }->IntsAre vs ns->ns.length<=n->s₁.gens = #[]->
   codeAny (model l.prog w) callerA (.call (.ref fa) ⟨[.ref a],[]⟩) (λr s'=>r=.ok (.ret (.bool true))/\OldK s₁.heap s'.heap/\s'.os=s₁.os/\AllBare s'.gens) s₁) :
  WalkO q loose XP YP l.row.toRowW d [] (λf vs=>PySem.call f vs):=by
 intro w s₀ s₁ mg mb G Y fa o pm cd doc dV kV ho hd tK hD WW hg args vals as Ox hlay hrd hwl hlo
 obtain rfl:dV=.none:=Dflts.none hD W9
 obtain rfl:kV=.none:=Dflts.noKw hD
 obtain⟨a,vs,ns,rfl,rfl,Tv,hints,hlen⟩:=Eg hn Ox hwl
 refine enter_call (codeAny_mono (call w s₀ s₁ mg mb fa o pm cd doc a vs ns G Y ho (fd_plain hd) tK WW Tv hints hlen hg) λr s' hq=>?_)
 obtain⟨rfl,h2,h3,h4⟩:=hq
 exact⟨.inl ⟨.bool true,.bool true,[],rfl,λ_=>rfl,.bool true,Em l _,λ_=>⟨List.Pairwise.nil,λ_ hm=>(nomatch hm)⟩⟩,h2,h3,h4⟩
section
variable {prog:Program}{w:World}{A:Around}{E:Value->Shared->Prop}{s:Shared}{K:Frag}
end
end Att
namespace L2
open PySem PySem.Spec PyProof.Rows
theorem oX:∀{vs:List Value} {ns:List Int},IntsAre vs ns->Vals (ns.map V.int) vs
 | _,_,.nil=>.nil
 | _,_,.cons n t h=>.cons ⟨t,rfl⟩ (oX h)
end L2
namespace L2
open PySem PySem.Spec PyProof.Rows
end L2
namespace L2
open PySem PySem.Spec PyProof.Rows
def aN(s:Stmt):Arguments:=match s with
 | .FunctionDef _ a _ _ _ _ _ _ _ _=>a
 | _=>{ posonlyargs:=[],args:=[],vararg:=none,kwonlyargs:=[],kw_defaults:=[],kwarg:=none,defaults:=[] }
def aH(s:Stmt):List Stmt:=match s with
 | .FunctionDef _ _ b _ _ _ _ _ _ _=>b
 | _=>[]
def ag(s:Stmt):Scope:=match s with
 | .FunctionDef _ _ _ _ _ _ sc _ _ _=>sc
 | _=>{ kind:=.function,names:=[],isGenerator:=false,isCoroutine:=false }
abbrev eI:Dx:=λ_ _ _ _ _ _=>False
abbrev E0:XK:=λ_ _ _=>False
theorem aR{X:Cx}:Passes eI X E0:=λ_ _ _ _ _ _ _ h=>h.elim
structure gZ(K:PySem.W.Frag)(x qual:Str)(st:Stmt)(f:Addr)(fd:FuncData):Prop where
 ex:∃(oc:Value) (od:Option Addr) (kV doc pm:Value) (an:Option Addr) (cB ct:Value) (BR:Array (Option Value)),
  fd=PySem.W.fnOf x qual (aN st) (aH st) (ag st) .none kV doc pm an cB ct/\K.lookup f=some ⟨oc,od,.func fd,BR⟩/\PySem.W.codeIn K cB qual=true
 kp:PySem.W.keepIn K (.ref f)=true
section
variable {P:Program}{w:World}{K:PySem.W.Frag}{mg:Str->Option Value}{base:Heap}
theorem gZ.ok{x qual:Str}{st:Stmt}{f:Addr}{fd:FuncData}{N ps:List Str}{k:Nat}{sp:Sp}(F:gZ K x qual st f fd)(S:aO N ps (ag st))(len:∀vs H Q E,sp vs H Q E->vs.length=ps.length)
  (eG:∀(cB:Value) (A:Around) (outer:List Env) (s:Shared) (H:Hp) (vs:List V) (Q:VK) (E:XK),bW k (A.deeper (envOfC qual (ag st) s.heap.objs.size f cB))->sp vs H Q E->
   ∃t,wz (eZ eI P w K mg base N qual (ag st) f cB A outer s H E).sJ (aH st) t/\t { nx:=λ_ H'=>Q .non H',rt:=Q } (start N vs) H):bG P w K mg base eI (k+1) f fd ps sp:=by
 obtain⟨oc,od,kV,doc,pm,an,cB,ct,BR,rfl,lk,tK⟩:=F.ex
 refine Kq lk tK S len λA outer s H vs Q E hr yH=>?_
 obtain⟨t,h,q⟩:=eG cB A outer s H vs Q E hr yH
 exact⟨t,h.sJ,q⟩
theorem gZ.binds{x qual:Str}{st:Stmt}{f:Addr}{fd:FuncData}{ps:List Str}(F:gZ K x qual st f fd)
  (h:∀(kV doc pm:Value) (an:Option Addr) (cB ct:Value) (us:List Value),us.length=ps.length->bindArgs (PySem.W.fnOf x qual (aN st) (aH st) (ag st) .none kV doc pm an cB ct) ⟨us,[]⟩=pure (ps.zip us)):Binds K fd ps []:=by
 obtain⟨oc,od,kV,doc,pm,an,cB,ct,BR,rfl,lk,tK⟩:=F.ex
 exact .all (h kV doc pm an cB ct)
theorem bC{x qual:Str}{st:Stmt}{f:Addr}{oc:Value}{od an:Option Addr}{BR:Array (Option Value)}{kV doc pm cB ct:Value}(l:K.lookup f=some ⟨oc,od,.func (PySem.W.fnOf x qual (aN st) (aH st) (ag st) .none kV doc pm an cB ct),BR⟩)
  (c:PySem.W.codeIn K cB qual=true) (k:PySem.W.keepIn K (.ref f)=true):gZ K x qual st f (PySem.W.fnOf x qual (aN st) (aH st) (ag st) .none kV doc pm an cB ct):=⟨⟨oc,od,kV,doc,pm,an,cB,ct,BR,rfl,l,c⟩,k⟩
end
theorem kl{A:Around}{k:Nat}(hr:bW k A):A.units+1<cLine:=Nat.lt_of_le_of_lt (Nat.add_le_add_left (by decide:1<=64) _) hr.units
theorem bN{n:Nat}(h:n<=1000):n<sizeLine:=Nat.lt_of_le_of_lt h (by decide)
section
variable {X:Cx}
theorem pv(i:Nat){x:Str}{pos:Pos}(hN:X.N[i]?=some x:=by rfl)(hv:U8 X.env.scope x:=by first | exact Or.inl rfl | exact Or.inr (Or.inl rfl) | exact Or.inr (Or.inr rfl))(hd:(x==("__debug__" : Str))=false:=by decide)
  (tK:(x==("__classdict__" : Str))=false:=by decide):PE X (.Name x pos) (wQ i):=IV hN hv hd tK
end
def bD(H H':Hp):Prop:=∀b o,H b=some o->H' b=some o
theorem bD.refl(H:Hp):bD H H:=λ_ _ h=>h
theorem bD.trans{H H1 H2:Hp}(a:bD H H1)(b:bD H1 H2):bD H H2:=λc o h=>b c o (a c o h)
theorem bD.free{H H':Hp}(e:bD H H'){l:Addr}(h:H' l=Option.none):H l=Option.none:=by
 cases q:H l with
 | none=>rfl
 | some o=>
  rw[e l o q]at h
  cases h
section
variable {κ:Type} [DecidableEq κ]
end
end L2
end
section
theorem L2.hide{p:Prop}(h:∀q:Prop,(p->q)->q):p:=h p id
end
section
namespace L2
open PySem PySem.Spec PyProof.Rows
theorem p7{α β:Type}{f:α->β->Sem (ForInStep β)}(g:α->β->β):∀(l:List α) (b:β),(∀x∈l,∀c,f x c=pure (.yield (g x c)))->forIn l b f=pure (l.foldl (λc x=>g x c) b)
 | [],b,_=>rfl
 | x::l,b,h=>by
  rw[List.forIn_cons,h x List.mem_cons_self,pure_bind]
  exact p7 g l (g x b) λy hy=>h y (List.mem_cons_of_mem _ hy)
def dP(env:Env)(names:List (Str×NameKind))(cs:List (Str×Addr)):List (Str×Addr):=
 names.foldl (λc y=>if y.2==NameKind.free then (y.1,(env.cells.lookup y.1).getD 0)::c else c) cs
theorem iU{scope:Scope}{env:Env}(h:∀y∈scope.names,y.2=.free->∃c,env.cells.lookup y.1=some c):closureFor scope env=pure (dP env scope.names []):=by
 simp only[closureFor]
 rw[p7 (λy c=>if y.2==NameKind.free then (y.1,(env.cells.lookup y.1).getD 0)::c else c) scope.names [] (λx hx c=>by
  obtain⟨n,kind⟩:=x
  dsimp only
  by_cases hk:kind=.free
  ·subst hk
   obtain⟨a,e⟩:=h (n,.free) hx rfl
   have e':env.cells.lookup n=some a:=e
   have:cellOf env n=pure a:=by unfold cellOf;rw[e']
   rw[this,e']
   rfl
  ·have hb:(kind==NameKind.free)=false:=by simpa using hk
   rw[hb];rfl)]
 simp only[pure_bind]
 rfl
theorem pI{env:Env}:∀(names:List (Str×NameKind)) (cs:List (Str×Addr)),(∀y∈names,y.2=.free->∃c,env.cells.lookup y.1=some c)->(∀p∈cs,env.cells.lookup p.1=some p.2)->
  ∀p∈dP env names cs,env.cells.lookup p.1=some p.2
 | [],cs,_,hc=>hc
 | y::r,cs,h,hc=>by
  unfold dP
  rw[List.foldl_cons]
  refine pI r _ (λz hz=>h z (List.mem_cons_of_mem _ hz)) λp hp=>?_
  by_cases hk:y.2=.free
  ·have hb:(y.2==NameKind.free)=true:=by simpa using hk
   rw[if_pos hb]at hp
   rcases List.mem_cons.mp hp with e | hp
   ·obtain⟨c,e1⟩:=h y List.mem_cons_self hk
    rw[e];dsimp only;rw[e1];rfl
   ·exact hc p hp
  ·have hb:¬(y.2==NameKind.free)=true:=by simpa using hk
   rw[if_neg hb]at hp
   exact hc p hp
theorem qa{env:Env}{p:Str×Addr}:∀(names:List (Str×NameKind)) (cs:List (Str×Addr)),p∈cs->p∈dP env names cs
 | [],_,h=>h
 | y::r,cs,h=>by
  unfold dP
  rw[List.foldl_cons]
  refine qa r _ ?_
  split
  ·exact List.mem_cons_of_mem _ h
  ·exact h
theorem uU{env:Env}{x:Str}:∀(names:List (Str×NameKind)) (cs:List (Str×Addr)),(x,NameKind.free)∈names->∃c,(x,c)∈dP env names cs
 | y::r,cs,h=>by
  rcases List.mem_cons.mp h with e | h
  ·subst e
   exact⟨_,by
    unfold dP;rw[List.foldl_cons]
    refine qa r _ ?_
    rw[if_pos (by rfl)]
    exact List.mem_cons_self⟩
  ·obtain⟨c,hc⟩:=uU r (if y.2==NameKind.free then (y.1,(env.cells.lookup y.1).getD 0)::cs else cs) h
   exact⟨c,by unfold dP;rw[List.foldl_cons];exact hc⟩
theorem lN{f:Str->Option Addr}{x:Str}:∀{cs:List (Str×Addr)},(∀p∈cs,f p.1=some p.2)->(∃c,(x,c)∈cs)->cs.lookup x=f x
 | [],_,⟨_,h⟩=>nomatch h
 | (n,a)::r,hc,⟨c,h⟩=>by
  rw[List.lookup_cons]
  by_cases e:x=n
  ·subst e
   rw[beq_self_eq_true]
   exact(hc (x,a) List.mem_cons_self).symm
  ·have hb:(x==n)=false:=by simpa using e
   rw[hb]
   refine lN (λp hp=>hc p (List.mem_cons_of_mem _ hp)) ⟨c,?_⟩
   rcases List.mem_cons.mp h with q | q
   ·exact absurd (congrArg Prod.fst q) e
   ·exact q
theorem nZ{env : Env}{y : Str} : ∀ {names : List (Str × NameKind)}, (∀ z ∈ names, z.2 ≠ .cell) →
    ((names.map λ(n, k) => if (k==NameKind.free&&env.scope.kind == .function&&env.kindOf n==some .cell) then (n, NameKind.cell) else (n, k)).lookup y=some .cell ∨
     (names.map λ(n, k) => if (k==NameKind.free&&env.scope.kind == .function&&env.kindOf n==some .cell) then (n, NameKind.cell) else (n, k)).lookup y=some .free) → names.lookup y=some .free
  | [], _, h => by rcases h with h | h <;> cases h
  | (n, k)::r, hc, h => by
    have ih := @nZ env y r λz hz => hc z (List.mem_cons_of_mem _ hz)
    rw[List.map_cons]at h
    rw[List.lookup_cons]
    by_cases e : y=n
    · subst e
      rw[beq_self_eq_true]
      by_cases hb : (k==NameKind.free&&env.scope.kind == .function&&env.kindOf y==some .cell)=true
      · have hk : k=.free := by
          rw[Bool.and_eq_true, Bool.and_eq_true]at hb
          simpa using hb.1.1
        rw[hk]
      · dsimp only at h
        rw[if_neg hb, List.lookup_cons, beq_self_eq_true]at h
        dsimp only at h
        rcases h with h | h
        · exact absurd (Option.some.inj h) (hc (y, k) List.mem_cons_self)
        · exact h
    · have hn : (y==n)=false := by simpa using e
      rw[hn]
      dsimp only at h ⊢
      apply ih
      by_cases hb : (k==NameKind.free&&env.scope.kind == .function&&env.kindOf n==some .cell)=true
      · rw[if_pos hb, List.lookup_cons, hn]at h
        exact h
      · rw[if_neg hb, List.lookup_cons, hn]at h
        exact h
structure CB where
 C:Addr
 cl:List (Str×Addr)
 s2:Shared
 H2:Hp
 ex:List Addr
@[reducible] def jG (X:Cx) (scope:Scope) (N:List Str) (c:CB):Cx:=
 { prog:=X.prog,w:=X.w,K:=X.K,mg:=X.mg,base:=X.base,A:=X.A,N:=N,s₀:=c.s2,H₀:=c.H2,env:=compEnvC scope c.cl c.C X.env,outer:=X.stack,stack:=X.stack,ex:=c.ex,fn:=λ_=>false,calm:=X.calm,pn:=[],xe:=λ_ _=>False }
def bR(σ:St)(idx:List Nat):St:=idx.map λi=>(σ[i]?).join
def bP(N:List Str)(idx:List Nat):List Str:=idx.map λi=>N.getD i ""
def wA(X:Cx)(ifs:List Expr)(t:TT):Prop:=
 ∀(pins:List (Addr×Obj)) (s:Shared) (σ:St) (H:Hp) (Q:Bool->Hp->Prop),Inv X pins σ H s->t σ H Q->
  wpAny (model X.prog X.w) X.A (forIn ifs true λc r=>if r=true then do let ok <-isTrue c X.env (eval c X.env);pure (ForInStep.yield ok) else pure (ForInStep.yield r)) (TP X pins σ Q) X.xe s
def G0:TT:=λ_ H Q=>Q true H
theorem Iv{X:Cx}:wA X [] G0:=λ_ _ _ H _ I h=>wpAny_tests_nil ⟨H,I,h⟩
theorem Iu{X:Cx}{e:Expr}{t:TT}(h:PT X e t):wA X [e] t:=λpins s σ H Q I q=>wpAny_tests_one (h pins s σ H Q I q)
def qS(wi:TI)(k:Nat)(idx:List Nat)(g:CB->TG)(tt:CB->TT)(te:CB->TE):TE:=λσ H Q=>wi σ H λJ H1=>∀D,H1 D=none->∃W:Nat->Nat->List V->Hp->Prop,(∃m,W 0 m [] (upd H1 D (.lst [])))/\
 ∀i m ys H',W i m ys H'->(J.stop i H'/\Q (.ref D) H')\/(J.go i H'/\∃N:List V->Hp->Prop,(∀oV pQ,N oV pQ->∃m',m'<m/\W (i+1) m' oV pQ)/\∀(c:CB) (own:St),own.length=k->∀x H2,J.DK i H' x H2->g c x (own++bR σ idx) H2 λσ3 H3=>
  (∃dI,dI.length=k/\σ3=dI++bR σ idx)/\tt c σ3 H3 λb H4=>if b=true then te c σ3 H4 λy H5=>H5 D=some (.lst ys)/\ys.length<sizeLine/\N (ys++[y]) (upd H5 D (.lst (ys++[y]))) else N ys H4)
structure sI(X:Cx)(scope:Scope)(xs:List Str)(idx:List Nat):Prop where
 kind:scope.kind=.function
 iA:∀y∈scope.names,y.2≠.cell
 loc:∀y∈scope.names,y.2=.local->scope.names.lookup y.1=some .local
 free:∀y∈scope.names,y.2=.free->scope.names.lookup y.1=some .free/\(X.env.kindOf y.1=some .cell\/X.env.kindOf y.1=some .free)
 ix:∀i∈idx,∃y,X.N[i]?=some y/\scope.names.lookup y=some .free
section
variable {prog:Program}{w:World}{A:Around}{R:Result->Shared->Prop}{s:Shared}
theorem kB{elt target iter:Expr}{ifs:List Expr}{scope:Scope}{pos:Pos}{it acc:Value}{env:Env}(I:Nat->Shared->Prop)
  (turn:∀n s,I n s->wpAny (model prog w) A (pyNext it) (λr s₁=>match r with
   | none=>R (.ok .next) s₁
   | some v=>wpAny (model prog w) A (letOwnedTupleGo target it v) (λ_ s₁'=>wpAny (model prog w) A (assign target env v) (λ_ s₂=>
     wpAny (model prog w) A (forIn ifs true λc r=>if r=true then do let ok <-isTrue c env (eval c env);pure (ForInStep.yield ok) else pure (ForInStep.yield r)) (λok s₃=>
      if ok=true then wpAny (model prog w) A (eval elt env) (λx s₄=>
       wpAny (model prog w) A (call (.builtin "list.append") [acc,x]) (λ_ s₅=>∃m,m<n/\I m s₅) (λ_ _=>False) s₄) (λ_ _=>False) s₃
      else ∃m,m<n/\I m s₃) (λ_ _=>False) s₂) (λ_ _=>False) s₁') (λ_ _=>False) s₁) (λ_ _=>False) s)
  (n:Nat) (h:I n s) :
  codeAny (model prog w) A (.compLoop (.ListComp elt [⟨target,iter,ifs,0⟩] scope pos) 0 it acc env) R s:=by
 refine codeAny_loop rfl I (λn s hI=>?_) n h
 show wpAny _ A ((compTurn (.ListComp elt [⟨target,iter,ifs,0⟩] scope pos) 0 it acc env).onRaise (λx=>do noteFrame x env;theTreesLotGoes x)) _ _ s
 refine wpAny_noted ?_
 rw[compTurn_list]
 refine wpAny_bind (wpAny_standAt (wpAny_bind (wpAny_mono (turn n s hI) (λr s₁ h₁=>?_) λ_ _ h'=>False.elim h')))
 cases r with
 | none=>exact wpAny_pure h₁
 | some v=>
  refine wpAny_bind (wpAny_mono h₁ (λ_ s₁' h₁'=>?_) λ_ _ h'=>False.elim h')
  refine wpAny_bind (wpAny_mono h₁' (λ_ s₂ h₂=>wpAny_bind (wpAny_mono h₂ (λok s₃ h₃=>?_) λ_ _ h'=>False.elim h')) λ_ _ h'=>False.elim h')
  cases ok with
  | false=>exact wpAny_pure ⟨rfl,h₃⟩
  | true=>
   exact wpAny_bind (wpAny_bind (wpAny_mono h₃ (λx s₄ h₄=>wpAny_bind (wpAny_mono h₄ (λ_ s₅ h₅=>wpAny_pure (wpAny_pure ⟨rfl,h₅⟩)) λ_ _ h'=>False.elim h')) λ_ _ h'=>False.elim h'))
end
section
variable {X:Cx}{pins:List (Addr×Obj)}{σ:St}{H:Hp}{s:Shared}
theorem fP.but{P:Program}{w:World}{h h':Heap}{C:Addr}(x:fP P w H h)(hn:H C=none)(hs:Heap.SameBut C h h'):fP P w H h':=λb ob e=>by
 refine(x b ob e).stay (λc w' hc q=>(hs.2 c ?_).trans q) (λ_ q=>q) λ_ _ q=>q
 rintro rfl
 rcases hc with rfl | hc
 ·rw[hn]at e;cases e
 ·rw[hn]at hc;cases hc
theorem Un.but{fs ex:List Addr}{H':Hp}{h h1 h2:Heap}{C:Addr}(u:Un fs ex H H' h h1)(hC:h.get? C=none)(hs:Heap.SameBut C h1 h2):Un fs ex H H' h h2:=by
 have ne:∀b o,h.get? b=some o->b≠C:=λb o e z=>by rw[z,hC]at e;cases e
 exact⟨λb o e n h1 h2=>(hs.2 b (ne b o e)).trans (u.keep b o e n h1 h2),λb o e n h1 h2=>by
   obtain⟨sl,q⟩:=u.slot b o e n h1 h2
   exact⟨sl,(hs.2 b (ne b o e)).trans q⟩,u.free,λb o e h2=>by
   obtain⟨o',q⟩:=u.there b o e h2
   exact⟨o',(hs.2 b (ne b o e)).trans q⟩,u.tups,u.frzs,u.tbls⟩
theorem Hc{idx:List Nat}{j:Nat}{v:V}(h:(bR σ idx)[j]?=some (some v)):∃i,idx[j]?=some i/\σ[i]?=some (some v):=by
 unfold bR at h
 rw[List.getElem?_map]at h
 cases e:idx[j]? with
 | none=>rw[e]at h;cases h
 | some i=>
  rw[e]at h
  refine⟨i,rfl,?_⟩
  have h':(σ[i]?).join=some v:=Option.some.inj h
  cases q:σ[i]? with
  | none=>rw[q]at h';cases h'
  | some o=>rw[q]at h';cases o with
   | none=>cases h'
   | some z=>cases h';rfl
theorem He{N:List Str}{idx:List Nat}{j i:Nat}{y:Str}(h:idx[j]?=some i)(e:N[i]?=some y):(bP N idx)[j]?=some y:=by
 unfold bP
 rw[List.getElem?_map,h]
 show some (N.getD i "")=some y
 rw[List.getD_eq_getElem?_getD,e];rfl
theorem Inv.block{scope:Scope}{xs:List Str}{idx:List Nat}{fp:List Addr}{C:Addr}{h':Heap}{t':Nat}{H1:Hp}{D:Addr}{m0:Str->Option Value}(I:Inv X pins σ H s)(S:sI X scope xs idx)
  (Zn:∀b∈fp,wF X pins H b) (O1:∀b∈fp,∃o,s.heap.get? b=some o) (hC:s.heap.objs.size<=C) (ZF:D≠C) (hD:s.heap.objs.size<=D) (hn:h'.Ns C m0) (hk:∀b o,s.heap.get? b=some o->h'.get? b=some o)
  (hl:∃n,h'.get? D=some { cls:=.type "list",data:=.seq #[] n }) :
  Inv (jG X scope (xs++bP X.N idx) ⟨C,dP X.env scope.names [],s,H,fp⟩) [] (List.replicate xs.length none++bR σ idx) (upd H D (.lst [])) { s with heap:=h',toks:=t' }:=by
 have yg:∀y∈scope.names,y.2=.free->∃c,X.env.cells.lookup y.1=some c:=λy hy e=>I.ok.has y.1 (S.free y hy e).2
 have qo:=pI (env:=X.env) scope.names [] yg (λp hp=>(nomatch hp))
 have lO:∀y c,(dP X.env scope.names []).lookup y=some c->X.env.cells.lookup y=some c:=λy c e=>qo (y,c) (PySem.mem_of_lookup e)
 have W6:∀y,scope.names.lookup y=some .free->(dP X.env scope.names []).lookup y=X.env.cells.lookup y:=λy e=>lN (f:=λn=>X.env.cells.lookup n) qo (uU scope.names [] (PySem.mem_of_lookup e))
 have lt:∀b,(∃o,s.heap.get? b=some o)->b<s.heap.objs.size:=λb ⟨o,e⟩=>Heap.lt_size e
 have hDn:H D=none:=I.aY.fresh hD
 refine⟨⟨I.ok.mod,S.kind,I.ok.glob,I.ok.blt,hC,λx y c h1 h2=>I.ok.inj x y c (lO x c h1) (lO y c h2),λy hy=>?_,λ_ _ e=>(nomatch e),I.ok.hd,I.ok.frames,.inl rfl,λb hb=>⟨?_,λx c e=>(Zn b hb).2.2.2.2.1 x c (lO x c e)⟩,I.bs,Nat.le_trans I.ok.FW I.sz,λb o e hb=>?_,λb hb z=>?_,I.stack,I.vk⟩,
  rfl,I.bare,?_,⟨m0,hn,λi y v e1 e2 hv=>?_⟩,λx c e=>?_,?_,λx c e=>?_,λp hp=>(nomatch hp),?_,?_⟩
 ·
  have q:scope.names.lookup y=some .free:=nZ S.iA hy
  have q2:=PySem.mem_of_lookup q
  obtain⟨c,e⟩:=yg _ q2 rfl
  exact⟨c,(W6 y q).trans e⟩
 ·
  exact Nat.ne_of_lt (Nat.lt_of_lt_of_le (lt b (O1 b hb)) hC)
 ·
  rcases(Zn b hb).2.2.2.1 with z | z
  ·exact I.ok.Jx b o e z
  ·exact absurd (Nat.lt_of_lt_of_le (Heap.lt_size e) (Nat.le_trans I.ok.FW z)) (Nat.lt_irrefl _)
 ·
  rcases List.mem_cons.mp (I.oY b z) with q | q
  ·exact(Zn b hb).2.1 q
  ·exact(Zn b hb).2.2.1 q
 ·
  exact Un.laid hk hD hDn
 ·
  by_cases hi:i<xs.length
  ·rw[List.getElem?_append_left (by simpa using hi)]at e2
   rw[List.getElem?_replicate]at e2
   split at e2 <;> cases e2
  ·have zY:xs.length<=i:=Nat.le_of_not_lt hi
   rw[List.getElem?_append_right (by simpa using zY),List.length_replicate]at e2
   obtain⟨i0,ei,es⟩:=Hc e2
   obtain⟨y',ey,ef⟩:=S.ix i0 (List.mem_of_getElem? ei)
   have Cz:(xs++bP X.N idx)[i]?=some y:=e1
   rw[List.getElem?_append_right zY,He ei ey]at Cz
   cases Cz
   obtain⟨m,hm,hl'⟩:=I.loc
   have ef2:=S.free (y,.free) (PySem.mem_of_lookup ef) rfl
   have Z8:U8 X.env.scope y:=.inr ef2.2
   obtain⟨u,ru,lk⟩:=hl' i0 y v ey es Z8
   refine⟨u,ru,?_⟩
   rcases lk with ⟨k1,_⟩ | ⟨_,c,ec,hc⟩
   ·rcases ef2.2 with z | z
    ·have z':X.env.kindOf y=some .cell:=z
     rw[k1]at z';cases z'
    ·have z':X.env.kindOf y=some .free:=z
     rw[k1]at z';cases z'
   ·refine .inr ⟨?_,c,(W6 y ef).trans ec,hc.keeps hk⟩
    rcases hv with z | z | z
    ·exfalso
     have z':(relabel scope X.env).names.lookup y=some .local:=z
     have:∀(names:List (Str×NameKind)),names.lookup y=some .free->(names.map λ(n,k)=>if (k==NameKind.free&&X.env.scope.kind == .function&&X.env.kindOf n==some .cell) then (n,NameKind.cell) else (n,k)).lookup y≠some .local:=by
      intro names
      induction names with
      | nil=>intro h;cases h
      | cons p r ih=>
       obtain⟨n,k⟩:=p
       intro h
       rw[List.map_cons]
       by_cases e:y=n
       ·subst e
        rw[List.lookup_cons,beq_self_eq_true]at h
        cases h
        dsimp only
        split
        ·rw[List.lookup_cons,beq_self_eq_true];exact λq=>nomatch q
        ·rw[List.lookup_cons,beq_self_eq_true];exact λq=>nomatch q
       ·have hn:(y==n)=false:=by simpa using e
        rw[List.lookup_cons,hn]at h
        dsimp only
        split
        ·rw[List.lookup_cons,hn];exact ih h
        ·rw[List.lookup_cons,hn];exact ih h
     exact this scope.names ef z'
    ·exact .inl z
    ·exact .inr z
 ·
  obtain⟨v,q⟩:=I.cell x c (lO x c e)
  exact⟨v,q.keeps hk⟩
 ·
  show upd H D (.lst []) C=none
  rw[au (Ne.symm ZF)]
  exact I.aY.fresh hC
 ·
  have e':=lO x c e
  obtain⟨v,q⟩:=I.cell x c e'
  rw[au (Nat.ne_of_lt (Nat.lt_of_lt_of_le q.lt hD))]
  exact I.iR x c e'
 ·
  obtain⟨n,e⟩:=hl
  exact I.aY.laid hk hD ⟨Nat.zero_le _,[],n,.nil,e⟩
 ·show(List.replicate xs.length none++bR σ idx).length=(xs++bP X.N idx).length
  rw[List.length_append,List.length_append,List.length_replicate]
  unfold bR bP
  rw[List.length_map,List.length_map]
end
section
variable {X:Cx}{elt target iter:Expr}{ifs:List Expr}{scope:Scope}{pos:Pos}{xs:List Str}{idx:List Nat}{wi:TI}{g:CB->TG}{tt:CB->TT}{te:CB->TE}
theorem yq{pins:List (Addr×Obj)}{σ:St}{H2:Hp}{s2:Shared}{fp:List Addr}{it:Addr}{tn:Nat->Heap->Prop}{J:It}{Q:V->Hp->Prop}{RR:Value->Addr->Result->Shared->Prop}{E:Value->Shared->Prop}(hc:X.calm=true)(S:sI X scope xs idx)
  (hg:∀c,PG (jG X scope (xs++bP X.N idx) c) target (g c)) (ht:∀c,wA (jG X scope (xs++bP X.N idx) c) ifs (tt c)) (he:∀c,PE (jG X scope (xs++bP X.N idx) c) elt (te c))
  (I2:Inv X pins σ H2 s2) (T:Turn X.prog X.w X.K target J fp it tn) (Gk:tn 0 s2.heap) (f2:∀b∈fp,wF X pins H2 b)
  (h:∀D,H2 D=none->∃W:Nat->Nat->List V->Hp->Prop,(∃m,W 0 m [] (upd H2 D (.lst [])))/\
   ∀i m ys H',W i m ys H'->(J.stop i H'/\Q (.ref D) H')\/(J.go i H'/\∃N:List V->Hp->Prop,(∀oV pQ,N oV pQ->∃m',m'<m/\W (i+1) m' oV pQ)/\∀(c:CB) (own:St),own.length=xs.length->∀x H2,J.DK i H' x H2->g c x (own++bR σ idx) H2 λσ3 H3=>
    (∃dI,dI.length=xs.length/\σ3=dI++bR σ idx)/\tt c σ3 H3 λb H4=>if b=true then te c σ3 H4 λy H5=>H5 D=some (.lst ys)/\ys.length<sizeLine/\N (ys++[y]) (upd H5 D (.lst (ys++[y]))) else N ys H4))
  (hRR:∀D C σ' H' s',s2.heap.objs.size<=C->Inv (jG X scope (xs++bP X.N idx) ⟨C,dP X.env scope.names [],s2,H2,fp⟩) [] σ' H' s'->Q (.ref D) H'->RR (.ref D) C (.ok .next) s') :
  wpAny (model X.prog X.w) X.A (newList []) (λacc s₃=>wpAny (model X.prog X.w) X.A (newFunctionEnv scope X.env.globals (dP X.env scope.names []) [] X.env.qual none .none (some X.env)) (λXQ s₄=>
   codeAny (model X.prog X.w) X.A (.compStart (.ListComp elt [⟨target,iter,ifs,0⟩] scope pos) 0 (.ref it) acc { XQ with scope:=relabel scope X.env }) (RR acc XQ.locals) s₄) E s₃) E s2:=by
 refine wpAny_newObj_type (wpAny_newFunctionEnv S.iA (by intro y hy;simp at hy) (λh₁ Tw Ow=>?_) S.kind)
 dsimp only at Tw Ow ⊢
 generalize hH2:s2.heap.push { cls:=.type "list",dict:=none,data:=.seq ([]:List Value).toArray }=HH at Tw Ow ⊢
 have hCs:HH.objs.size=s2.heap.objs.size+1:=by rw[<-hH2,Heap.size_push]
 have ZF:s2.heap.objs.size≠HH.objs.size:=by rw[hCs];exact Nat.ne_of_lt (Nat.lt_succ_self _)
 have T3:s2.heap.objs.size<=HH.objs.size:=by rw[hCs];exact Nat.le_succ _
 have old:∀b o,s2.heap.get? b=some o->h₁.get? b=some o:=λb o e=>Ow.extBut b o (by rw[hCs];exact Nat.ne_of_lt (Nat.lt_succ_of_lt (Heap.lt_size e))) (Heap.get?_push_of_some _ (hH2 ▸ Heap.get?_push_of_some _ e))
 have yi:∃n,h₁.get? s2.heap.objs.size=some { cls:=.type "list",data:=.seq #[] n }:=⟨_,Ow.extBut _ _ ZF (Heap.get?_push_of_some _ (hH2 ▸ Heap.get?_push_size _ rfl))⟩
 have Qb:tn 0 h₁:=T.keep _ _ _ Gk λb _ o e=>old b o e
 obtain⟨W,⟨m0,w0⟩,turn⟩:=h s2.heap.objs.size I2.fresh
 have loop:∀s₃:Shared,s₃={ s2 with heap:=h₁,toks:=s2.toks+([]:List (Str×Value)).length }->
   codeAny (model X.prog X.w) X.A (.compLoop (.ListComp elt [⟨target,iter,ifs,0⟩] scope pos) 0 (.ref it) (.ref s2.heap.objs.size) (compEnvC scope (dP X.env scope.names []) HH.objs.size X.env)) (RR (.ref s2.heap.objs.size) HH.objs.size) s₃:=by
  rintro s₃ rfl
  have I3:=I2.block (t':=s2.toks+([]:List (Str×Value)).length) (H1:=H2) S f2 (λb hb=>let ⟨o,e,_⟩:=T.obj _ _ Gk b hb;⟨o,e⟩) T3 ZF (Nat.le_refl _) Tw old yi
  generalize hY:jG X scope (xs++bP X.N idx) ⟨HH.objs.size,dP X.env scope.names [],s2,H2,fp⟩=Y at I3
  have eY:Y=jG X scope (xs++bP X.N idx) ⟨HH.objs.size,dP X.env scope.names [],s2,H2,fp⟩:=hY.symm
  have nof:∀b∈fp,b∉Y.fs:=λb hb z=>by
   rw[eY]at z
   rcases List.mem_cons.mp (I2.oY b z) with q | q
   ·exact(f2 b hb).2.1 q
   ·exact(f2 b hb).2.2.1 q
  have stat:∀{H':Hp},(∀b∈fp,H' b=none)->∀b∈fp,wF Y [] H' b:=λ{H'} hn b hb=>by
   have lt:b<s2.heap.objs.size:=let ⟨o,e,_⟩:=T.obj _ _ Gk b hb;Heap.lt_size e
   refine⟨hn b hb,?_,nof b hb,.inl (by rw[eY];exact hb),λx c e=>?_,λp hp=>?_⟩
   ·rw[eY];exact Nat.ne_of_lt (Nat.lt_of_lt_of_le lt T3)
   ·rw[eY]at e
    have qo:=pI (env:=X.env) scope.names [] (λy hy e=>I2.ok.has y.1 (S.free y hy e).2) (λp hp=>nomatch hp)
    exact(f2 b hb).2.2.2.2.1 x c (qo (x,c) (PySem.mem_of_lookup e))
   ·rw[eY]at hp;exact nomatch hp
  have T':Turn Y.prog Y.w Y.K target J fp it tn:=by rw[eY];exact T
  have hg':PG Y target (g ⟨HH.objs.size,dP X.env scope.names [],s2,H2,fp⟩):=by rw[eY];exact hg _
  have Ov:wA Y ifs (tt ⟨HH.objs.size,dP X.env scope.names [],s2,H2,fp⟩):=by rw[eY];exact ht _
  have he':PE Y elt (te ⟨HH.objs.size,dP X.env scope.names [],s2,H2,fp⟩):=by rw[eY];exact he _
  have hcY:Y.calm=true:=by rw[eY];exact hc
  have eA:Y.A=X.A:=by rw[eY]
  have eP:Y.prog=X.prog:=by rw[eY]
  have eW:Y.w=X.w:=by rw[eY]
  have eE:Y.env=compEnvC scope (dP X.env scope.names []) HH.objs.size X.env:=by rw[eY]
  have eX:Y.xe=λ_ _=>False:=by rw[eY]
  have fin:∀σ' H' s',Inv Y [] σ' H' s'->Q (.ref s2.heap.objs.size) H'->RR (.ref s2.heap.objs.size) HH.objs.size (.ok .next) s':=λσ' H' s' I' q=>hRR _ _ σ' H' s' T3 (by rw[<-eY];exact I') q
  rw[<-eE,<-eA,<-eP,<-eW]
  have fr0:∀b∈fp,(upd H2 s2.heap.objs.size (.lst [])) b=none:=λb hb=>by
   have lt:b<s2.heap.objs.size:=let ⟨o,e,_⟩:=T.obj _ _ Gk b hb;Heap.lt_size e
   rw[au (Nat.ne_of_lt lt)];exact(f2 b hb).1
  refine kB (λn s'=>∃i ys own H',own.length=xs.length/\Inv Y [] (own++bR σ idx) H' s'/\tn i s'.heap/\(∀b∈fp,H' b=none)/\W i n ys H') ?_ m0
   ⟨0,[],_,_,List.length_replicate,I3,Qb,fr0,w0⟩
  rintro n s4 ⟨i,ys,own,H4,aCd,I4,st4,fr4,w4⟩
  rcases turn i n ys H4 w4 with ⟨stop,qn⟩ | ⟨go,NN,hNN,step⟩
  ·exact cw (T'.done Y rfl rfl rfl hcY i [] s4 _ H4 _ I4 (stat fr4) st4 stop) λr s5 ⟨hr,I5⟩=>by subst hr;exact fin _ _ _ I5 qn
  ·refine cw (T'.item Y rfl rfl rfl hcY i [] s4 _ H4 _ I4 (stat fr4) st4 go) λr s5 ⟨u,hr,h5⟩=>?_
   subst hr
   refine cw h5 λ_ s6 ⟨x,H6,I6,r6,y6,st6,fr6⟩=>?_
   have I6':=I6.pinned (stat fr6) (T'.obj _ _ st6)
   have step':=step ⟨HH.objs.size,dP X.env scope.names [],s2,H2,fp⟩ own aCd x H6 y6
   refine wpAny_mono (hg' _ s6 _ H6 x u _ I6' r6 step') (λ_ s7 ⟨σ7,H7,I7,q7⟩=>?_) (λ_ _ z=>by rw[eX]at z;exact z)
   obtain⟨⟨aAX,ho7,e7⟩,q7⟩:=q7
   refine wpAny_mono (Ov _ s7 σ7 H7 _ I7 q7) (λb s8 ⟨H8,I8,q8⟩=>?_) (λ_ _ z=>by rw[eX]at z;exact z)
   have again:∀{H9:Hp} {s9:Shared} {oV:List V},Inv Y ([]++rj fp s6.heap) σ7 H9 s9->NN oV H9->∃m,m<n/\∃i ys own H',own.length=xs.length/\Inv Y [] (own++bR σ idx) H' s9/\tn i s9.heap/\(∀b∈fp,H' b=none)/\W i m ys H':=λ{H9 s9 oV} I9 n9=>by
    obtain⟨m',hm,w9⟩:=hNN _ _ n9
    rw[e7]at I9
    refine⟨m',hm,i+1,oV,aAX,H9,ho7,I9.nL,T'.keep _ _ _ st6 λb hb o e=>(I9.pin (b,o) (List.mem_append_right _ (List.mem_append_right _ (ji hb e)))).1,λb hb=>?_,w9⟩
    obtain⟨o,e,d⟩:=T'.obj _ _ st6 b hb
    exact(I9.pin (b,o) (List.mem_append_right _ (List.mem_append_right _ (ji hb e)))).2.1
   cases b with
   | false=>exact again I8 q8
   | true=>
    refine wpAny_mono (he' _ s8 σ7 H8 _ I8 q8) (λu9 s9 ⟨y,H9,I9,r9,hy,hz,q9⟩=>?_) (λ_ _ z=>by rw[eX]at z;exact z)
    have ap:=fC (X:=Y) _ s9 σ7 H9 (.ref s2.heap.objs.size) [y] (.ref s2.heap.objs.size) [u9] (λ_ QZ=>NN (ys++[y]) QZ) I9 rfl (.cons r9 .nil) ⟨_,ys,y,rfl,rfl,hy,hz,q9⟩
    refine wpAny_mono ap (λ_ Lh ⟨_,QZ,I10,_,q10⟩=>again I10 q10) (λ_ _ z=>by rw[eX]at z;exact z)
 exact codeAny_compStart_list (loop _ rfl) (T.self _ 0 _ _ _ Qb (loop _ rfl))
theorem N1(hc:X.calm=true)(S:sI X scope xs idx)(hi:PI X target iter wi)
  (hg:∀c,PG (jG X scope (xs++bP X.N idx) c) target (g c)) (ht:∀c,wA (jG X scope (xs++bP X.N idx) c) ifs (tt c)) (he:∀c,PE (jG X scope (xs++bP X.N idx) c) elt (te c))
  (hs:∀x,foldedSetIterable iter X.env x=pure x:=by intro _;rfl):PE X (.ListComp elt [⟨target,iter,ifs,0⟩] scope pos) (qS wi xs.length idx g tt te):=by
 intro pins s σ H Q I h
 rw[eval_ListComp]
 have Kc:closureFor scope X.env=pure (dP X.env scope.names []):=iU λy hy e=>I.ok.has y.1 (S.free y hy e).2
 refine wpAny_comprehension_free (use:=none) rfl hs Kc S.kind S.loc (cw (hi pins s σ H _ I h) λxv s₁ h₁=>cw h₁ λZc s₂ h₂=>?_)
 obtain⟨it,fp,tn,J,H2,e,I2,T,Gk,f2,hW⟩:=h₂
 subst e
 refine yq (Q:=Q) (RR:=λacc C=>compPost (model X.prog X.w) X.A X.xe none (EP X pins σ Q) acc C) hc S hg ht he I2 T Gk f2 hW ?_
 intro D C σ' H' s' hC I' q
 obtain⟨m',hn,_⟩:=I'.loc
 refine⟨m',hn,λh'' Wz=>?_⟩
 obtain⟨hh,gg,d,t,os⟩:=s'
 obtain rfl:os=s₂.os:=I'.os
 have Cn:s₂.heap.get? C=none:=Heap.get?_none_of_le hC
 refine⟨.ref D,H',I2.call (s:=s₂) (h':=h'') (g':=gg) (d':=d) (t':=t) (ch:=fp) (I'.base.but Cn Wz) (I'.aY.but I'.free Wz) I'.bare (λb hb=>?_),rfl,q⟩
 obtain⟨_,f1,_,f3,f4,f5⟩:=f2 b hb
 exact⟨f3,f1,f4,f5⟩
end
theorem Ab{lo:Int}{n k:Nat}{idx:List Nat}{g:CB->TG}{tt:CB->TT}{te:CB->TE}{σ:St}{Q:VK}{H1:Hp}{D:Addr}(Pv:Nat->List V->Hp->Prop)(h0:Pv 0 [] (upd H1 D (.lst [])))
  (hs:∀i ys H,i<n->Pv i ys H->∀(c:CB) (own:St),own.length=k->g c (.int (lo+i)) (own++bR σ idx) H λσ3 H3=>
   (∃dI,dI.length=k/\σ3=dI++bR σ idx)/\tt c σ3 H3 λb H4=>if b=true then te c σ3 H4 λy H5=>H5 D=some (.lst ys)/\ys.length<sizeLine/\Pv (i+1) (ys++[y]) (upd H5 D (.lst (ys++[y]))) else Pv (i+1) ys H4)
  (hd:∀ys H,Pv n ys H->Q (.ref D) H) :
  ∃W:Nat->Nat->List V->Hp->Prop,(∃m,W 0 m [] (upd H1 D (.lst [])))/\
   ∀i m ys H',W i m ys H'->((Au lo n).stop i H'/\Q (.ref D) H')\/((Au lo n).go i H'/\∃N:List V->Hp->Prop,(∀oV pQ,N oV pQ->∃m',m'<m/\W (i+1) m' oV pQ)/\∀(c:CB) (own:St),own.length=k->∀x H2,(Au lo n).DK i H' x H2->g c x (own++bR σ idx) H2 λσ3 H3=>
    (∃dI,dI.length=k/\σ3=dI++bR σ idx)/\tt c σ3 H3 λb H4=>if b=true then te c σ3 H4 λy H5=>H5 D=some (.lst ys)/\ys.length<sizeLine/\N (ys++[y]) (upd H5 D (.lst (ys++[y]))) else N ys H4):=by
 refine⟨λi m ys H=>m=n-i/\i<=n/\Pv i ys H,⟨n,by simp,Nat.zero_le _,h0⟩,?_⟩
 rintro i m ys H ⟨rfl,hi,p⟩
 by_cases fE:i<n
 ·refine .inr ⟨fE,Pv (i+1),λoV H' p'=>⟨n-(i+1),by omega,rfl,fE,p'⟩,λc own ho x H' y=>?_⟩
  obtain⟨e,y⟩:=y
  subst e y
  exact hs i ys _ fE p c own ho
 ·have e:i=n:=by omega
  subst e
  exact .inl ⟨Nat.le_refl _,hd ys H p⟩
theorem FQ{K:PySem.W.Frag}{a:Addr}{zs:List V}{k:Nat}{idx:List Nat}{g:CB->TG}{tt:CB->TT}{te:CB->TE}{σ:St}{Q:VK}{H1:Hp}{D:Addr}(Pv:Nat->List V->Hp->Prop)(h0:Pv 0 [] (upd H1 D (.lst [])))
  (hl:∀i ys H,i<=zs.length->Pv i ys H->nv K H a zs)
  (hs:∀i x ys H,zs[i]?=some x->Pv i ys H->∀(c:CB) (own:St),own.length=k->g c x (own++bR σ idx) H λσ3 H3=>
   (∃dI,dI.length=k/\σ3=dI++bR σ idx)/\tt c σ3 H3 λb H4=>if b=true then te c σ3 H4 λy H5=>H5 D=some (.lst ys)/\ys.length<sizeLine/\Pv (i+1) (ys++[y]) (upd H5 D (.lst (ys++[y]))) else Pv (i+1) ys H4)
  (hd:∀ys H,Pv zs.length ys H->Q (.ref D) H) :
  ∃W:Nat->Nat->List V->Hp->Prop,(∃m,W 0 m [] (upd H1 D (.lst [])))/\
   ∀i m ys H',W i m ys H'->((Av K a).stop i H'/\Q (.ref D) H')\/((Av K a).go i H'/\∃N:List V->Hp->Prop,(∀oV pQ,N oV pQ->∃m',m'<m/\W (i+1) m' oV pQ)/\∀(c:CB) (own:St),own.length=k->∀x H2,(Av K a).DK i H' x H2->g c x (own++bR σ idx) H2 λσ3 H3=>
    (∃dI,dI.length=k/\σ3=dI++bR σ idx)/\tt c σ3 H3 λb H4=>if b=true then te c σ3 H4 λy H5=>H5 D=some (.lst ys)/\ys.length<sizeLine/\N (ys++[y]) (upd H5 D (.lst (ys++[y]))) else N ys H4):=by
 refine⟨λi m ys H=>m=zs.length-i/\i<=zs.length/\Pv i ys H,⟨zs.length,by simp,Nat.zero_le _,h0⟩,?_⟩
 rintro i m ys H ⟨rfl,hi,p⟩
 have q:=hl i ys H hi p
 by_cases fE:i<zs.length
 ·refine .inr ⟨⟨zs,zs[i],q,by simp[fE]⟩,Pv (i+1),λoV H' p'=>⟨zs.length-(i+1),by omega,rfl,fE,p'⟩,λc own ho x H' y=>?_⟩
  obtain⟨e,y⟩:=y
  subst e
  exact hs i x ys _ (y zs q) p c own ho
 ·have e:i=zs.length:=by omega
  subst e
  exact .inl ⟨⟨zs,q,Nat.le_refl _⟩,hd ys H p⟩
theorem Sd{own:St}{k:St}{x:V}(h:own.length=1):(own++k).set 0 (some x)=[some x]++k:=by
 match own,h with
 | [_],_=>rfl
theorem yr{lo:Int}{n:Nat}{idx:List Nat}{tt:CB->TT}{te:CB->TE}{σ:St}{Q:VK}{H1:Hp}{D:Addr}(Pv:Nat->List V->Hp->Prop)(h0:Pv 0 [] (upd H1 D (.lst [])))
  (hs:∀i ys H,i<n->Pv i ys H->∀(c:CB),tt c (some (.int (lo+i))::bR σ idx) H λb H4=>if b=true then te c (some (.int (lo+i))::bR σ idx) H4 λy H5=>H5 D=some (.lst ys)/\ys.length<sizeLine/\Pv (i+1) (ys++[y]) (upd H5 D (.lst (ys++[y]))) else Pv (i+1) ys H4)
  (hd:∀ys H,Pv n ys H->Q (.ref D) H) :
  ∃W:Nat->Nat->List V->Hp->Prop,(∃m,W 0 m [] (upd H1 D (.lst [])))/\
   ∀i m ys H',W i m ys H'->((Au lo n).stop i H'/\Q (.ref D) H')\/((Au lo n).go i H'/\∃N:List V->Hp->Prop,(∀oV pQ,N oV pQ->∃m',m'<m/\W (i+1) m' oV pQ)/\∀(c:CB) (own:St),own.length=1->∀x H2,(Au lo n).DK i H' x H2->dh 0 x (own++bR σ idx) H2 λσ3 H3=>
    (∃dI,dI.length=1/\σ3=dI++bR σ idx)/\tt c σ3 H3 λb H4=>if b=true then te c σ3 H4 λy H5=>H5 D=some (.lst ys)/\ys.length<sizeLine/\N (ys++[y]) (upd H5 D (.lst (ys++[y]))) else N ys H4):=
 Ab (g:=λ_=>dh 0) Pv h0 (λi ys H hi p c own ho=>by
  show(∃dI,dI.length=1/\(own++bR σ idx).set 0 _=dI++bR σ idx)/\tt c ((own++bR σ idx).set 0 _) H _
  rw[Sd ho]
  exact⟨⟨[_],rfl,rfl⟩,hs i ys H hi p c⟩) hd
theorem Ac{K:PySem.W.Frag}{a:Addr}{zs:List V}{idx:List Nat}{tt:CB->TT}{te:CB->TE}{σ:St}{Q:VK}{H1:Hp}{D:Addr}(Pv:Nat->List V->Hp->Prop)(h0:Pv 0 [] (upd H1 D (.lst [])))
  (hl:∀i ys H,i<=zs.length->Pv i ys H->nv K H a zs)
  (hs:∀i x ys H,zs[i]?=some x->Pv i ys H->∀(c:CB),tt c (some x::bR σ idx) H λb H4=>if b=true then te c (some x::bR σ idx) H4 λy H5=>H5 D=some (.lst ys)/\ys.length<sizeLine/\Pv (i+1) (ys++[y]) (upd H5 D (.lst (ys++[y]))) else Pv (i+1) ys H4)
  (hd:∀ys H,Pv zs.length ys H->Q (.ref D) H) :
  ∃W:Nat->Nat->List V->Hp->Prop,(∃m,W 0 m [] (upd H1 D (.lst [])))/\
   ∀i m ys H',W i m ys H'->((Av K a).stop i H'/\Q (.ref D) H')\/((Av K a).go i H'/\∃N:List V->Hp->Prop,(∀oV pQ,N oV pQ->∃m',m'<m/\W (i+1) m' oV pQ)/\∀(c:CB) (own:St),own.length=1->∀x H2,(Av K a).DK i H' x H2->dh 0 x (own++bR σ idx) H2 λσ3 H3=>
    (∃dI,dI.length=1/\σ3=dI++bR σ idx)/\tt c σ3 H3 λb H4=>if b=true then te c σ3 H4 λy H5=>H5 D=some (.lst ys)/\ys.length<sizeLine/\N (ys++[y]) (upd H5 D (.lst (ys++[y]))) else N ys H4):=
 FQ (g:=λ_=>dh 0) Pv h0 hl (λi x ys H hi p c own ho=>by
  show(∃dI,dI.length=1/\(own++bR σ idx).set 0 _=dI++bR σ idx)/\tt c ((own++bR σ idx).set 0 _) H _
  rw[Sd ho]
  exact⟨⟨[_],rfl,rfl⟩,hs i x ys H hi p c⟩) hd
def aCP(z:Str)(lo hi:Option Int):Str:=⟨((z.cps.toList.drop (HT.cT z.length 0 lo)).take (HT.cT z.length z.length hi-HT.cT z.length 0 lo)).toArray⟩
theorem jd{n:Nat}(h:n<=1000):n<=sizeLine:=Nat.le_of_lt (Nat.lt_of_le_of_lt h (by decide))
section
variable {X:Cx}
def Rv:V->Option Int->Option Int->Hp->VK->Prop:=λx lo hi H Q=>∃z,x=.str z/\z.length<=sizeLine/\Q (.str (aCP z lo hi)) H
def Rf(K:PySem.W.Frag)(te ts:TE):TE:=λσ H Q=>te σ H λx H1=>ts σ H1 λy H2=>∃a xs,x=.ref a/\y=.int (-1)/\nv K H2 a xs/\∀p,H2 p=none->Q (.ref p) (upd H2 p (.lst xs.reverse))
theorem KZ(c:Value):dD X (.builtin "isinstance") (λvs H Q=>∃x t b n,vs=[x,.ty n]/\oG X.K H x t/\PySem.W.kitOne X.K t (.type n)=some b/\Q (.bl b) H):=by
 intro pins s σ H vs us Q I rv h
 obtain⟨x,t,b,n,rfl,ty,e,q⟩:=h
 obtain⟨u,v,rfl,ru,rv'⟩:=rv.two
 obtain rfl:v=Value.type n:=rv'
 exact Fl I ru ty e λtk=>⟨.bl b,H,I.tok _,rfl,q⟩
def Xw(xs ys:List V):Bool:=xs.length==ys.length&&(List.range xs.length).all λj=>Gu (xs.getD j .non) (ys.getD j .non)
def vB:V->List V->Hp->VK->Prop:=λx vs H Q=>∃a aG,x=.ref a/\vs=[]/\H a=some (.dK aG)/\Q .non (upd H a (.dK []))
end
section
variable {X:Cx}{elt target iter:Expr}{ifs:List Expr}{scope:Scope}{pos spos py:Pos}{xs:List Str}{idx:List Nat}{wi:TI}{g:CB->TG}{tt:CB->TT}{te:CB->TE}
theorem Ny{i:Nat}{y:Str}(hN:X.N.Nodup)(Zm:X.N[i]?=some y)(hy:X.env.scope.names.lookup y=some .local)(hc:X.calm=true)(S:sI X scope xs idx)(hi:PI X target iter wi)
  (hg:∀c,PG (jG X scope (xs++bP X.N idx) c) target (g c)) (ht:∀c,wA (jG X scope (xs++bP X.N idx) c) ifs (tt c)) (he:∀c,PE (jG X scope (xs++bP X.N idx) c) elt (te c))
  (hsw:swapsWith (.ListComp elt [⟨target,iter,ifs,0⟩] scope pos) (some (.Name y py)) spos.line X.env=pure true:=by rfl)
  (hs:∀x,foldedSetIterable iter X.env x=pure x:=by intro _;rfl):PS X (.Assign [.Name y py] (.ListComp elt [⟨target,iter,ifs,0⟩] scope pos) spos) (qT (qS wi xs.length idx g tt te) (dh i)):=by
 intro pins s σ H D I h
 have Kc:closureFor scope X.env=pure (dP X.env scope.names []):=iU λy hy e=>I.ok.has y.1 (S.free y hy e).2
 rw[exec_Assign_Name_used _ _ _ _ hsw]
 refine wpAny_bind (wpAny_standAt (wpAny_bind ?_))
 show wpAny _ X.A (do let _ <-comprehension (.ListComp elt [⟨target,iter,ifs,0⟩] scope pos) scope X.env _ (newList []) false (eval iter X.env) (some (assign (.Name y py) X.env))) _ _ s
 refine wpAny_bind (wpAny_mono (wpAny_comprehension_free (use:=some (assign (.Name y py) X.env)) (Q:=λ_ s'=>SP X pins D .next s') rfl hs Kc S.kind S.loc
  (cw (hi pins s σ H _ I h) λxv s₁ h₁=>cw h₁ λZc s₂ h₂=>?_)) (λ_ s' hq=>wpAny_pure (wpAny_pure hq)) λ_ _ e=>e)
 obtain⟨it,fp,tn,J,H2,e,I2,T,Gk,f2,hW⟩:=h₂
 subst e
 refine yq (Q:=λv H'=>dh i v σ H' D.nx) (RR:=λacc C=>compPost (model X.prog X.w) X.A X.xe (some (assign (.Name y py) X.env)) (λ_ s'=>SP X pins D .next s') acc C) hc S hg ht he I2 T Gk f2 hW ?_
 intro DD C σ' H' s' hC I' q
 show wpAny _ X.A (assign (.Name y py) X.env (.ref DD)) _ _ _
 obtain⟨hh,gg,d,t,os⟩:=s'
 obtain rfl:os=s₂.os:=I'.os
 have Cn:s₂.heap.get? C=none:=Heap.get?_none_of_le hC
 have I3:Inv X pins σ H' { s₂ with heap:=hh,gens:=gg,drawn:=d,toks:=t }:=I2.call (s:=s₂) (h':=hh) (g':=gg) (d':=d) (t':=t) (ch:=fp) (I'.base.but Cn (Heap.SameBut.refl _ _)) I'.aY I'.bare (λb hb=>by
  obtain⟨_,f1,_,f3,f4,f5⟩:=f2 b hb
  exact⟨f3,f1,f4,f5⟩)
 obtain⟨m',hn,_⟩:=I'.loc
 have hLC:X.env.locals≠C:=Nat.ne_of_lt (Nat.lt_of_lt_of_le I2.lt hC)
 refine wpAny_assign_Name (uf I3 hN Zm (.inl hy) (v:=.ref DD) rfl (λVP I4 ⟨a,hs4,ha⟩=>?_) (.inr hy))
 have haC:C≠a:=by
  rcases ha with e | e
  ·rw[e];exact Ne.symm hLC
  ·obtain⟨v,q⟩:=I2.cell y a e
   exact Nat.ne_of_gt (Nat.lt_of_lt_of_le q.lt hC)
 refine⟨m',hn.sameBut hs4 haC,λh3 hs3=>?_⟩
 obtain⟨hh4,gg4,d4,t4,os4⟩:=VP
 have I5:Inv X pins (σ.set i (some (.ref DD))) H' { heap:=h3,gens:=gg4,drawn:=d4,toks:=t4,os:=os4 }:=
  I4.turned (s:={ heap:=hh4,gens:=gg4,drawn:=d4,toks:=t4,os:=os4 }) (h':=h3) (t':=t4) (it:=C) (λb o hb e=>(hs3.2 b hb).trans e) I'.free (Ne.symm hLC) (.inr (Nat.le_trans I2.sz hC)) (λx c e z=>by
   obtain⟨v,q⟩:=I2.cell x c e
   exact absurd (Nat.lt_of_lt_of_le q.lt hC) (by rw[z];exact Nat.lt_irrefl _)) (λp hp z=>by
   have:=(I2.pin p hp).1
   rw[z,Cn]at this;cases this)
 exact⟨_,H',I5,q⟩
end
def FP(iH:Scope)(N:List Str)(scope:Scope)(idx:List Nat):Bool:=
 scope.kind == .function&&scope.names.all (λy=>y.2 != .cell)&&scope.names.all (λy=>y.2 != .local||scope.names.lookup y.1==some .local) &&
 scope.names.all (λy=>y.2 != .free||(scope.names.lookup y.1==some .free&&(iH.names.lookup y.1==some .cell||iH.names.lookup y.1==some .free))) &&
 idx.all (λi=>match N[i]? with | some y=>scope.names.lookup y==some .free | none=>false)
theorem uT{X:Cx}{scope:Scope}{xs:List Str}{idx:List Nat}{iH:Scope}{N:List Str}(h:FP iH N scope idx=true)(e1:X.env.scope=iH:=by rfl)(e2:X.N=N:=by rfl):sI X scope xs idx:=by
 unfold FP at h
 simp only[Bool.and_eq_true]at h
 refine hide λgG hG=>?_
 obtain⟨⟨⟨⟨h1,h2⟩,h3⟩,h4⟩,h5⟩:=h
 refine hG ?_
 refine⟨by simpa using h1,λy hy e=>?_,λy hy e=>?_,λy hy e=>?_,λi hi=>?_⟩
 ·have:=List.all_eq_true.mp h2 y hy
  rw[e]at this;exact absurd this (by decide)
 ·have:=List.all_eq_true.mp h3 y hy
  rw[e]at this;simpa using this
 ·have:=List.all_eq_true.mp h4 y hy
  rw[e]at this
  have t:(scope.names.lookup y.1==some NameKind.free&&(iH.names.lookup y.1==some .cell||iH.names.lookup y.1==some .free))=true:=by simpa using this
  rw[Bool.and_eq_true,Bool.or_eq_true]at t
  refine⟨by simpa using t.1,?_⟩
  show X.env.scope.names.lookup y.1=_\/X.env.scope.names.lookup y.1=_
  rw[e1]
  exact t.2.imp (by simp) (by simp)
 ·have:=List.all_eq_true.mp h5 i hi
  rw[e2]
  cases e:N[i]? with
  | none=>rw[e]at this;cases this
  | some y=>rw[e]at this;exact⟨y,rfl,by simpa using this⟩
theorem yA{α:Type}(a:α)(xs:List α):qb (a::xs) 0=some a:=eK (j:=0) rfl
theorem Dl{α:Type}(a b:α)(xs:List α):qb (a::b::xs) 1=some b:=eK (j:=1) rfl
theorem Dk{α:Type}(a b c:α)(xs:List α):qb (a::b::c::xs) 2=some c:=eK (j:=2) rfl
theorem Dj{α:Type}(a b c d:α)(xs:List α):qb (a::b::c::d::xs) 3=some d:=eK (j:=3) rfl
theorem K9{α:Type}(a b c d e:α)(xs:List α):qb (a::b::c::d::e::xs) 4=some e:=eK (j:=4) rfl
theorem K8{α:Type}(a b c d e f:α)(xs:List α):qb (a::b::c::d::e::f::xs) 5=some f:=eK (j:=5) rfl
theorem zT:zU 6 1=some 1:=rfl
theorem zS:zU 6 2=some 2:=rfl
theorem zR:zU 6 3=some 3:=rfl
theorem zQ:zU 6 4=some 4:=rfl
theorem zP:zU 6 5=some 5:=rfl
theorem CZ(i:Int):jC i 48271/\jC i 40693/\jC i 3/\jC i 4294967296:=⟨.inr ⟨by decide,by decide⟩,.inr ⟨by decide,by decide⟩,.inr ⟨by decide,by decide⟩,.inr ⟨by decide,by decide⟩⟩
theorem KN(i:Int):jC i 48271:=(CZ i).1
theorem KJ(i:Int):jC i 40693:=(CZ i).2.1
theorem KH(i:Int):jC i 3:=(CZ i).2.2.1
theorem KD(i:Int):jC i 4294967296:=(CZ i).2.2.2
theorem Dc(i:Int):jC 5 i/\jC 3 i/\jC 7 i/\jC 10 i:=⟨.inl ⟨by decide,by decide⟩,.inl ⟨by decide,by decide⟩,.inl ⟨by decide,by decide⟩,.inl ⟨by decide,by decide⟩⟩
theorem Ah(i:Int):jC 5 i:=(Dc i).1
theorem Ag(i:Int):jC 3 i:=(Dc i).2.1
theorem Af(i:Int):jC 7 i:=(Dc i).2.2.1
theorem Ae(i:Int):jC 10 i:=(Dc i).2.2.2
theorem Aa:Yv 10 18:=⟨by decide,by decide,by decide⟩
def Ml(t u:TS):TS:=λD σ H=>∃N:St->Hp->Prop,t { D with nx:=N } σ H/\∀σ' H',N σ' H'->u D σ' H'
theorem Nt{X:Cx}{st:Stmt}{rest:List Stmt}{t u:TS}(h1:PS X st t)(h2:wz X rest u):wz X (st::rest) (Ml t u):=by
 intro pins s σ H D I ⟨N,hn,hu⟩
 refine wpAny_execs_cons (cw (h1 pins s σ H { D with nx:=N } I hn) λf s1 q=>?_)
 cases f with
 | next=>
  refine hide λgG hG=>?_
  obtain⟨σ',H',I',q⟩:=q
  refine hG ?_
  exact h2 pins s1 σ' H' D I' (hu σ' H' q)
 | ret v=>exact q
 | brk=>exact q
 | cont=>exact q
theorem K7{ns:List Int}{k:Int}(h0:0<=k)(h:k<(ns.length:Int)):∃v:Int,qb (ns.map V.int) k=some (.int v):=by
 have hk:k.toNat<ns.length:=by lia
 have ek:k=((k.toNat:Nat):Int):=by lia
 have q:qb (ns.map V.int) ((k.toNat:Nat):Int)=some (.int ns[k.toNat]):=eK (by rw[List.getElem?_map,List.getElem?_eq_getElem hk] <;> rfl)
 rw[<-ek]at q
 exact⟨_,q⟩
section
variable {X:Cx}
theorem lH.imp{f:Value->Value->Sem Value}{r r':R2}(h:lH X f r)(i:∀x y H Q,r' x y H Q->r x y H Q):lH X f r':=λpins s σ H x y v u Q I rx ry q=>h pins s σ H x y v u Q I rx ry (i _ _ _ _ q)
theorem P1.imp{r r':R2}(h:P1 X r)(i:∀x y H Q,r' x y H Q->r x y H Q):P1 X r':=λvalue slice pins s σ H x y v u Q I rx ry q hs=>h value slice pins s σ H x y v u Q I rx ry (i _ _ _ _ q) hs
theorem dD.imp{f:Value}{r r':List V->Hp->VK->Prop}(h:dD X f r)(i:∀x H Q,r' x H Q->r x H Q):dD X f r':=λpins s σ H vs us Q I rv q=>h pins s σ H vs us Q I rv (i _ _ _ q)
theorem LR.imp{r r':V->Option Int->Option Int->Hp->VK->Prop}(h:LR X r)(i:∀x lo hi H Q,r' x lo hi H Q->r x lo hi H Q):LR X r':=λpins s σ H x v vl vu lo hi sl Q I rx hs pl pu q=>h pins s σ H x v vl vu lo hi sl Q I rx hs pl pu (i _ _ _ _ _ q)
theorem aV{K:PySem.W.Frag}{H:Hp}{a:Addr}{xs:List V}(h:H a=some (.lst xs)):nv K H a xs:=nv.of h
theorem bE{K:PySem.W.Frag}{H:Hp}{a:Addr}{xs:List V}(h:H a=some (.tup xs)):tP K H a xs:=tP.of h
def Ie:R2:=λx y H Q=>∃p i,x=.ref p/\y=.int i/\∃xs,H p=some (.lst xs)/\∃v,qb xs i=some v/\Q v H
theorem gx:P1 X Ie:=Om.imp λx y H Q ⟨p,i,e1,e2,xs,h,v,e3,q⟩=>⟨p,xs,i,v,e1,e2,aV h,e3,q⟩
def Nk:R2:=λx y H Q=>∃p i,x=.ref p/\y=.int i/\∃xs,H p=some (.tup xs)/\∃v,qb xs i=some v/\Q v H
theorem pj:P1 X Nk:=Tb.imp λx y H Q ⟨p,i,e1,e2,xs,h,v,e3,q⟩=>⟨p,xs,i,v,e1,e2,bE h,e3,q⟩
def Rx:R2:=λx y H Q=>∃z i,x=.str z/\y=.int i/\z.length<=sizeLine/\∃c,qb z.cps.toList i=some c/\Q (.str ⟨#[c]⟩) H
def Ni:V->Option Int->Option Int->Hp->VK->Prop:=λx lo hi H Q=>∃a,x=.ref a/\∃xs,H a=some (.lst xs)/\∀p,H p=none->Q (.ref p) (upd H p (.lst (gX xs lo hi)))
theorem aAh:LR X Ni:=Bl.imp λx lo hi H Q ⟨a,e,xs,h,q⟩=>⟨a,xs,e,aV h,q⟩
def Nh:V->Option Int->Option Int->Hp->VK->Prop:=λx lo hi H Q=>∃a,x=.ref a/\∃xs,H a=some (.tup xs)/\¬(HT.cT xs.length 0 lo=0/\HT.cT xs.length xs.length hi=xs.length)/\∀p,H p=none->Q (.ref p) (upd H p (.tup (gX xs lo hi)))
theorem aAg:LR X Nh:=Rq.imp λx lo hi H Q ⟨a,e,xs,h,n,q⟩=>⟨a,xs,e,bE h,n,q⟩
def Bt:List V->Hp->VK->Prop:=λvs H Q=>∃p,vs=[.ref p]/\∃xs,H p=some (.lst xs)/\Q (.int xs.length) H
theorem lu:dD X (.builtin "len") Bt:=oC.imp λx H Q ⟨p,e,xs,h,q⟩=>⟨p,xs,e,.inl (aV h),q⟩
def Bs:List V->Hp->VK->Prop:=λvs H Q=>∃p,vs=[.ref p]/\∃xs,H p=some (.tup xs)/\Q (.int xs.length) H
theorem fL:dD X (.builtin "len") Bs:=oC.imp λx H Q ⟨p,e,xs,h,q⟩=>⟨p,xs,e,.inr (bE h),q⟩
def vE:List V->Hp->VK->Prop:=λvs H Q=>∃p,vs=[.ref p]/\∃xs,H p=some (.lst xs)/\∀l,H l=none->Q (.ref l) (upd H l (.lst xs))
theorem Ak:dD X (.type "list") vE:=wj.imp λx H Q ⟨p,e,xs,h,q⟩=>⟨p,xs,e,.inl (aV h),q⟩
def y7:List V->Hp->VK->Prop:=λvs H Q=>∃p,vs=[.ref p]/\∃xs,H p=some (.tup xs)/\∀l,H l=none->Q (.ref l) (upd H l (.lst xs))
def qC:List V->Hp->VK->Prop:=λvs H Q=>∃p,vs=[.ref p]/\∃xs,H p=some (.lst xs)/\∀l,H l=none->Q (.ref l) (upd H l (.tup xs))
theorem fX:dD X (.type "tuple") qC:=tM.imp λx H Q ⟨p,e,xs,h,q⟩=>⟨p,xs,e,.inl ⟨aV h,q⟩⟩
def y8:List V->Hp->VK->Prop:=λvs H Q=>∃a,vs=[.ref a]/\∃aG,H a=some (.dK aG)/\∀p,H p=none->Q (.ref p) (upd H p (.lst (aG.map λkv=>kV kv.1)))
def y9:List V->Hp->VK->Prop:=λvs H Q=>∃a,vs=[.ref a]/\∃aG,H a=some (.dK aG)/\∀p,H p=none->Q (.ref p) (upd H p (.dK aG))
def vC:List V->Hp->VK->Prop:=λvs H Q=>∃a,vs=[.ref a]/\∃ss:List Str,H a=some (.lst (ss.map V.str))/\ss.length<64/\
 ∀ss':List Str,ss'.Perm ss->sortedS ss'=true->∀p,H p=none->Q (.ref p) (upd H p (.lst (ss'.map V.str)))
def Ic:V->List V->Hp->VK->Prop:=λx vs H Q=>∃sep a,x=.str sep/\vs=[.ref a]/\∃ss:List Str,H a=some (.lst (ss.map V.str))/\JoinOk sep ss=true/\Q (.str (Txt.join sep ss)) H
def RB(neg:Bool):R2:=λx y H Q=>∃p,y=.ref p/\∃xs,H p=some (.lst xs)/\gP x=true/\xs.all gP=true/\Q (.bl (if neg then !Qk x xs else Qk x xs)) H
def Ij(neg:Bool):R2:=λx y H Q=>∃p,y=.ref p/\∃xs,H p=some (.tup xs)/\gP x=true/\xs.all gP=true/\Q (.bl (if neg then !Qk x xs else Qk x xs)) H
theorem Sh:lH X (compareOp .In) (Ij false):=Er.imp λx y H Q ⟨p,e,xs,h,f1,f2,q⟩=>⟨p,xs,e,.inr (bE h),f1,f2,q⟩
theorem uC:lH X (compareOp .NotIn) (Ij true):=vI.imp λx y H Q ⟨p,e,xs,h,f1,f2,q⟩=>⟨p,xs,e,.inr (bE h),f1,f2,q⟩
def RC(neg:Bool):R2:=λx y H Q=>∃a b,x=.ref a/\y=.ref b/\∃xs,H a=some (.lst xs)/\∃ys,H b=some (.lst ys)/\xs.all gP=true/\ys.all gP=true/\Q (.bl (if neg then !Xw xs ys else Xw xs ys)) H
def Nm(K:PySem.W.Frag):List V->Hp->VK->Prop:=λvs H Q=>∃x n,vs=[x,.ty n]/\∃t,oG K H x t/\∃b,PySem.W.kitOne K t (.type n)=some b/\Q (.bl b) H
theorem iV:dD X (.builtin "isinstance") (Nm X.K):=(KZ .none).imp λx H Q ⟨y,n,e,t,ty,b,h,q⟩=>⟨y,t,b,n,e,ty,h,q⟩
def Nj:V->V->V->Hp->(Hp->Prop)->Prop:=λo i v H Q=>∃p k,o=.ref p/\i=.int k/\∃xs,H p=some (.lst xs)/\∃j,zU xs.length k=some j/\Q (upd H p (.lst (xs.set j v)))
theorem nU:Gf X Nj:=λpins s σ H o i v ov iv u Q I ro ri rv ⟨p,k,e1,e2,xs,h,j,hj,q⟩=>set_list pins s σ H o i v ov iv u Q I ro ri rv ⟨p,xs,k,j,e1,e2,h,hj,q⟩
theorem QK:Uk X (λo i H Q=>Ie o i H Q):=by
 intro pins s σ H o i ov iv Q I ro ri h
 refine hide λgG hG=>?_
 obtain⟨p,i,rfl,rfl,xs,hp,z,he,q⟩:=h
 refine hG ?_
 cases ro
 refine hide λgG hG=>?_
 obtain⟨t,rfl⟩:=ri
 obtain⟨its,r,pl,hz⟩:=I.list (aV hp)
 obtain⟨j,h1,h2,h3,h4,h5⟩:=wu he
 obtain⟨w,ew,Hv⟩:=r.get h2
 refine hG ?_
 have hl:=r.length
 have hn:=rD
 have fin:EP X pins σ Q w s:=⟨z,H,I,Hv,q⟩
 by_cases h0:0<=i
 ·have hj:i.toNat=j:=by
   rw[seqIndex_of h0 h5]at h1
   exact Option.some.inj h1
  exact wpAny_getItem_list pl.isList h0 (by lia) (by rw[hj];simpa using ew) fin
 ·have hj:(i+(its.toArray.size:Int)).toNat=j:=by
   rw[seqIndex_neg (by lia) h4]at h1
   rw[List.size_toArray,<-hl]
   exact Option.some.inj h1
  exact wpAny_getItem_list_neg pl.isList (by lia) (by rw[List.size_toArray] <;> lia) (by lia) (by rw[hj];simpa using ew) fin
end
end L2
namespace L2
open PySem PySem.Spec PyProof.Rows
theorem yG{α:Type}{C:List α->Prop}(h:∀a,C [a]):∀us:List α,us.length=1->C us
 | [a],_=>h a
theorem of2{α:Type}{C:List α->Prop}(h:∀a b,C [a,b]):∀us:List α,us.length=2->C us
 | [a,b],_=>h a b
theorem of3{α:Type}{C:List α->Prop}(h:∀a b c,C [a,b,c]):∀us:List α,us.length=3->C us
 | [a,b,c],_=>h a b c
structure HC(X:Cx)(N:List Str)(sc:Scope):Prop where
 n:X.N=N
 s:X.env.scope=sc
def okV(N:List Str)(sc:Scope)(i:Nat)(x:Str):Bool:=
 N[i]? == some x&&(sc.names.lookup x==some .local||sc.names.lookup x==some .cell||sc.names.lookup x==some .free) && !(x==("__debug__" : Str)) && !(x==("__classdict__" : Str))
def Li(N:List Str)(sc:Scope)(i:Nat)(x:Str):Bool:=N[i]? == some x&&(sc.names.lookup x==some .local||sc.names.lookup x==some .cell)
def Eu(N:List Str)(sc:Scope)(i:Nat)(x:Str):Bool:=N[i]? == some x&&sc.names.lookup x==some .local
def okG(sc:Scope)(x:Str):Bool:=sc.names.lookup x==some .globalImplicit
section
variable {X:Cx}{N:List Str}{sc:Scope}{x:Str}{pos:Pos}
theorem pvk(hc:HC X N sc)(i:Nat)(h:okV N sc i x=true):PE X (.Name x pos) (wQ i):=by
 unfold okV at h
 simp only[Bool.and_eq_true,Bool.or_eq_true,beq_iff_eq,Bool.not_eq_true']at h
 obtain⟨⟨⟨h1,h2⟩,h3⟩,h4⟩:=h
 refine IV (by rw[hc.n];exact h1) ?_ h3 h4
 unfold U8
 rw[hc.s]
 rcases h2 with (h2 | h2) | h2
 ·exact .inl h2
 ·exact .inr (.inl h2)
 ·exact .inr (.inr h2)
theorem bZ(hc:HC X N sc)(h:okG sc x=true:=by decide +kernel):Gl X x:=by
 show X.env.scope.names.lookup x=some .globalImplicit
 rw[hc.s];simpa [okG]using h
theorem jh(hc:HC X N sc){i:Nat}(h:Li N sc i x=true):X.N[i]?=some x/\Loc X.env.scope x:=by
 unfold Li at h
 simp only[Bool.and_eq_true,Bool.or_eq_true,beq_iff_eq]at h
 refine⟨by rw[hc.n];exact h.1,?_⟩
 unfold Loc;rw[hc.s];exact h.2
theorem kc(hc:HC X N sc){i:Nat}(h:Eu N sc i x=true):X.N[i]?=some x/\X.env.scope.names.lookup x=some .local:=by
 unfold Eu at h
 simp only[Bool.and_eq_true,beq_iff_eq]at h
 exact⟨by rw[hc.n];exact h.1,by rw[hc.s];exact h.2⟩
theorem pgk(hc:HC X N sc)(nd:N.Nodup)(hf:∀x,X.fn x=true)(i:Nat)(h:Li N sc i x=true):PG X (.Name x pos) (dh i):=
 BP (by rw[hc.n];exact nd) (jh hc h).1 (jh hc h).2 (.inl (hf x))
theorem pgb(hc:HC X N sc)(nd:N.Nodup)(i:Nat)(h:Eu N sc i x=true):PG X (.Name x pos) (dh i):=
 BP (by rw[hc.n];exact nd) (kc hc h).1 (.inl (kc hc h).2) (.inr (kc hc h).2)
theorem Bz{e:Expr}{te:TE}{pos':Pos}(hc:HC X N sc)(nd:N.Nodup)(hf:∀x,X.fn x=true)(i:Nat)(h:Li N sc i x=true)(he:PE X e te)(hs:swapsWith e (some (.Name x pos')) pos.line X.env=pure false:=by rfl) :
  PS X (.Assign [.Name x pos'] e pos) (qT te (dh i)):=
 RM (by rw[hc.n];exact nd) (jh hc h).1 (jh hc h).2 he hs (.inl (hf x))
theorem Nv{e:Expr}{te:TE}{op:Operator}{ti:P0}{pos':Pos}(hc:HC X N sc)(nd:N.Nodup)(hf:∀x,X.fn x=true)(i:Nat)(h:Li N sc i x=true)(he:PE X e te)(ho:Uj X op ti):PS X (.AugAssign (.Name x pos') op e pos) (Mp i te ti):=
 RV (by rw[hc.n];exact nd) (jh hc h).1 (jh hc h).2 he ho (.inl (hf x))
end
def cP(scope iH:Scope):Scope:=
 { scope with names:=scope.names.map λ(n,k)=>if (k == .free&&iH.kind == .function&&iH.names.lookup n==some .cell) then (n,.cell) else (n,k) }
theorem xh{scope iH:Scope}{env:Env}(h:env.scope=iH):relabel scope env=cP scope iH:=by
 subst h;rfl
theorem iQ{X:Cx}{N:List Str}{iH scope:Scope}{xs:List Str}{idx:List Nat}(hc:HC X N iH)(c:CB):HC (jG X scope (xs++bP X.N idx) c) (xs++bP N idx) (cP scope iH):=
 ⟨by show xs++bP X.N idx=_;rw[hc.n],xh hc.s⟩
section
variable {X:Cx}{N:List Str}{iH:Scope}{elt target iter:Expr}{ifs:List Expr}{scope:Scope}{pos spos py:Pos}{xs:List Str}{idx:List Nat}{wi:TI}{g:CB->TG}{tt:CB->TT}{te:CB->TE}
theorem xr(hc:HC X N iH)(xs:List Str)(idx:List Nat)(Kd:X.calm=true)(S:FP iH N scope idx=true)(hi:PI X target iter wi)
  (hg:∀c,HC (jG X scope (xs++bP X.N idx) c) (xs++bP N idx) (cP scope iH)->PG (jG X scope (xs++bP X.N idx) c) target (g c))
  (ht:∀c,HC (jG X scope (xs++bP X.N idx) c) (xs++bP N idx) (cP scope iH)->wA (jG X scope (xs++bP X.N idx) c) ifs (tt c))
  (he:∀c,HC (jG X scope (xs++bP X.N idx) c) (xs++bP N idx) (cP scope iH)->PE (jG X scope (xs++bP X.N idx) c) elt (te c))
  (hs:∀x,foldedSetIterable iter X.env x=pure x:=by intro _;rfl):PE X (.ListComp elt [⟨target,iter,ifs,0⟩] scope pos) (qS wi xs.length idx g tt te):=
 N1 Kd (uT S hc.s hc.n) hi (λc=>hg c (iQ hc c)) (λc=>ht c (iQ hc c)) (λc=>he c (iQ hc c)) hs
theorem xm{y:Str}(hc:HC X N iH)(nd:N.Nodup)(i:Nat)(h:Eu N iH i y=true)(xs:List Str)(idx:List Nat)(Kd:X.calm=true)(S:FP iH N scope idx=true)(hi:PI X target iter wi)
  (hg:∀c,HC (jG X scope (xs++bP X.N idx) c) (xs++bP N idx) (cP scope iH)->PG (jG X scope (xs++bP X.N idx) c) target (g c))
  (ht:∀c,HC (jG X scope (xs++bP X.N idx) c) (xs++bP N idx) (cP scope iH)->wA (jG X scope (xs++bP X.N idx) c) ifs (tt c))
  (he:∀c,HC (jG X scope (xs++bP X.N idx) c) (xs++bP N idx) (cP scope iH)->PE (jG X scope (xs++bP X.N idx) c) elt (te c))
  (hsw:swapsWith (.ListComp elt [⟨target,iter,ifs,0⟩] scope pos) (some (.Name y py)) spos.line X.env=pure true)
  (hs:∀x,foldedSetIterable iter X.env x=pure x:=by intro _;rfl):PS X (.Assign [.Name y py] (.ListComp elt [⟨target,iter,ifs,0⟩] scope pos) spos) (qT (qS wi xs.length idx g tt te) (dh i)):=
 Ny (by rw[hc.n];exact nd) (kc hc h).1 (kc hc h).2 Kd (uT S hc.s hc.n) hi (λc=>hg c (iQ hc c)) (λc=>ht c (iQ hc c)) (λc=>he c (iQ hc c)) hsw hs
end
end L2
namespace L2
open PySem PySem.Spec PyProof.Rows
@[irreducible] def tQ (X:Cx) (st:List Stmt) (t:TS):Prop:=wz X st t
theorem tQ.to{X:Cx}{st:List Stmt}{t:TS}(h:tQ X st t):wz X st t:=by unfold tQ at h;exact h
theorem tQ.of{X:Cx}{st:List Stmt}{t:TS}(h:wz X st t):tQ X st t:=by unfold tQ;exact h
section
variable {X:Cx}{st:Stmt}{rest:List Stmt}{t u:TS}{pos:Pos}
theorem Nf:tQ X [] t9:=.of Nr
theorem Nc(h1:PS X st t):tQ X [st] t:=.of (Nq h1)
theorem HR(h1:PS X st t)(h2:tQ X rest u):tQ X (st::rest) (DX t u):=.of (Io h1 h2.to)
theorem Ng(h1:PS X st t)(h2:tQ X rest u):tQ X (st::rest) (Ml t u):=.of (Nt h1 h2.to)
theorem V1{c:Expr}{a b:List Stmt}{tc:TT}(hc:PT X c tc)(ha:tQ X a t)(hb:tQ X b u):PS X (.If c a b pos) (D' tc t u):=V5 hc ha.to hb.to
theorem HS{c:Expr}{body:List Stmt}{tc:TT}{tb:TS}(hp:PassesOwn (model X.prog X.w) X.A X.env X.xe)(hc:PT X c tc)(hb:tQ X body tb):PS X (.While c body [] pos) (yR tc tb):=Ip hp hc hb.to
theorem HW{tg iter:Expr}{body:List Stmt}{wi:TI}{g:TG}{tb:TS}(hp:PassesOwn (model X.prog X.w) X.A X.env X.xe)(hc:X.calm=true)(hi:PI X tg iter wi)(hg:PG X tg g)(hb:tQ X body tb)
  (hs:∀x,foldedSetIterable iter X.env x=pure x:=by intro _;rfl):PS X (.For tg iter body [] pos) (Mi wi g tb):=RP hp hc hi hg hb.to hs
end
theorem gZ.okK{P:Program}{w:World}{K:PySem.W.Frag}{mg:Str->Option Value}{base:Heap}{x qual:Str}{st:Stmt}{f:Addr}{fd:FuncData}{N ps:List Str}{k:Nat}{sp:Sp}(F:gZ K x qual st f fd)(S:aO N ps (ag st))(len:∀vs H Q E,sp vs H Q E->vs.length=ps.length)
  (eG:∀(cB:Value) (A:Around) (outer:List Env) (s:Shared) (H:Hp) (vs:List V) (Q:VK) (E:XK),bW k (A.deeper (envOfC qual (ag st) s.heap.objs.size f cB))->sp vs H Q E->
   HC (eZ eI P w K mg base N qual (ag st) f cB A outer s H E).sJ N (ag st)->(∀x,(eZ eI P w K mg base N qual (ag st) f cB A outer s H E).sJ.fn x=true)->
   ∃t,tQ (eZ eI P w K mg base N qual (ag st) f cB A outer s H E).sJ (aH st) t/\t { nx:=λ_ H'=>Q .non H',rt:=Q } (start N vs) H):bG P w K mg base eI (k+1) f fd ps sp:=
 F.ok S len λcB A outer s H vs Q E hr h=>let ⟨t,h1,h2⟩:=eG cB A outer s H vs Q E hr h ⟨rfl,rfl⟩ λ_=>rfl;⟨t,h1.to,h2⟩
end L2
namespace L2
open PySem PySem.Spec PyProof.Rows
def sD(J:It)(g:TG)(tb:TS)(D:Ends)(σ:St)(H:Hp):Prop:=∃W:Nat->Nat->St->Hp->Prop,(∃m,W 0 m σ H)/\∀i m σ H,W i m σ H->
 (J.stop i H/\D.nx σ H)\/(J.go i H/\∃N:St->Hp->Prop,(∀σ' H',N σ' H'->∃m',m'<m/\W (i+1) m' σ' H')/\∀x H',J.DK i H x H'->g x σ H' λσ2 H2=>tb { D with nx:=N,ct:=N,bk:=D.nx } σ2 H2)
theorem vf{wi:TI}{g:TG}{tb:TS}{D:Ends}{σ:St}{H:Hp}:Mi wi g tb D σ H=wi σ H (λJ H1=>sD J g tb D σ H1):=rfl
def iu(J:It)(k:Nat)(idx:List Nat)(g:CB->TG)(tt:CB->TT)(te:CB->TE)(σ:St)(Q:VK)(H1:Hp):Prop:=∀D,H1 D=none->∃W:Nat->Nat->List V->Hp->Prop,(∃m,W 0 m [] (upd H1 D (.lst [])))/\
 ∀i m ys H',W i m ys H'->(J.stop i H'/\Q (.ref D) H')\/(J.go i H'/\∃N:List V->Hp->Prop,(∀oV pQ,N oV pQ->∃m',m'<m/\W (i+1) m' oV pQ)/\∀(c:CB) (own:St),own.length=k->∀x H2,J.DK i H' x H2->g c x (own++bR σ idx) H2 λσ3 H3=>
  (∃dI,dI.length=k/\σ3=dI++bR σ idx)/\tt c σ3 H3 λb H4=>if b=true then te c σ3 H4 λy H5=>H5 D=some (.lst ys)/\ys.length<sizeLine/\N (ys++[y]) (upd H5 D (.lst (ys++[y]))) else N ys H4)
theorem qR{wi:TI}{k:Nat}{idx:List Nat}{g:CB->TG}{tt:CB->TT}{te:CB->TE}{σ:St}{H:Hp}{Q:VK}:qS wi k idx g tt te σ H Q=wi σ H (λJ H1=>iu J k idx g tt te σ Q H1):=rfl
theorem mX{lo:Int}{n:Nat}{g:TG}{tb:TS}{D:Ends}{σ:St}{H:Hp}(Pv:Nat->St->Hp->Prop)(h0:Pv 0 σ H)
  (hs:∀i σ H,i<n->Pv i σ H->g (.int (lo+i)) σ H λσ2 H2=>tb { D with nx:=Pv (i+1),ct:=Pv (i+1),bk:=D.nx } σ2 H2) (hd:∀σ H,Pv n σ H->D.nx σ H):sD (Au lo n) g tb D σ H:=Fx Pv h0 hs hd
theorem dN{K:PySem.W.Frag}{a:Addr}{xs:List V}{g:TG}{tb:TS}{D:Ends}{σ:St}{H:Hp}(Pv:Nat->St->Hp->Prop)(h0:Pv 0 σ H)(hl:∀i σ H,i<=xs.length->Pv i σ H->H a=some (.lst xs))
  (hs:∀i x σ H,xs[i]?=some x->Pv i σ H->g x σ H λσ2 H2=>tb { D with nx:=Pv (i+1),ct:=Pv (i+1),bk:=D.nx } σ2 H2) (hd:∀σ H,Pv xs.length σ H->D.nx σ H):sD (Av K a) g tb D σ H:=
 Ko Pv h0 (λi σ H hi p=>aV (hl i σ H hi p)) hs hd
theorem gO{K:PySem.W.Frag}{a:Addr}{xs:List V}{g:TG}{tb:TS}{D:Ends}{σ:St}{H:Hp}(Pv:Nat->St->Hp->Prop)(h0:Pv 0 σ H)(hl:∀i σ H,i<=xs.length->Pv i σ H->H a=some (.tup xs))
  (hs:∀i x σ H,xs[i]?=some x->Pv i σ H->g x σ H λσ2 H2=>tb { D with nx:=Pv (i+1),ct:=Pv (i+1),bk:=D.nx } σ2 H2) (hd:∀σ H,Pv xs.length σ H->D.nx σ H):sD (P4 K a) g tb D σ H:=
 Pa Pv h0 (λi σ H hi p=>bE (hl i σ H hi p)) hs hd
theorem p9{lo:Int}{n:Nat}{idx:List Nat}{tt:CB->TT}{te:CB->TE}{σ:St}{Q:VK}{H1:Hp}(Pv:Addr->Nat->List V->Hp->Prop)(h0:∀D,H1 D=none->Pv D 0 [] (upd H1 D (.lst [])))
  (hs:∀D,H1 D=none->∀i ys H,i<n->Pv D i ys H->∀(c:CB),tt c (some (.int (lo+i))::bR σ idx) H λb H4=>if b=true then te c (some (.int (lo+i))::bR σ idx) H4 λy H5=>H5 D=some (.lst ys)/\ys.length<sizeLine/\Pv D (i+1) (ys++[y]) (upd H5 D (.lst (ys++[y]))) else Pv D (i+1) ys H4)
  (hd:∀D,H1 D=none->∀ys H,Pv D n ys H->Q (.ref D) H):iu (Au lo n) 1 idx (λ_=>dh 0) tt te σ Q H1:=
 λD hD=>yr (Pv D) (h0 D hD) (hs D hD) (hd D hD)
theorem wd{K:PySem.W.Frag}{a:Addr}{zs:List V}{idx:List Nat}{tt:CB->TT}{te:CB->TE}{σ:St}{Q:VK}{H1:Hp}(Pv:Addr->Nat->List V->Hp->Prop)(h0:∀D,H1 D=none->Pv D 0 [] (upd H1 D (.lst [])))
  (hl:∀D,H1 D=none->∀i ys H,i<=zs.length->Pv D i ys H->H a=some (.lst zs))
  (hs:∀D,H1 D=none->∀i x ys H,zs[i]?=some x->Pv D i ys H->∀(c:CB),tt c (some x::bR σ idx) H λb H4=>if b=true then te c (some x::bR σ idx) H4 λy H5=>H5 D=some (.lst ys)/\ys.length<sizeLine/\Pv D (i+1) (ys++[y]) (upd H5 D (.lst (ys++[y]))) else Pv D (i+1) ys H4)
  (hd:∀D,H1 D=none->∀ys H,Pv D zs.length ys H->Q (.ref D) H):iu (Av K a) 1 idx (λ_=>dh 0) tt te σ Q H1:=
 λD hD=>Ac (Pv D) (h0 D hD) (λi ys H hi p=>aV (hl D hD i ys H hi p)) (hs D hD) (hd D hD)
end L2
namespace L2
open PySem PySem.Spec PyProof.Rows
def yS(ss:List Str):TA:=λ_ H Q=>Q (List.map V.str ss) H
structure ZE(X:Cx)(e:Expr)(t:TE):Prop where
 to:PE X e t
structure ZT(X:Cx)(e:Expr)(t:TT):Prop where
 to:PT X e t
structure ZW(X:Cx)(e:Expr)(t:TT):Prop where
 to:PW X e t
structure ZA(X:Cx)(e:List Expr)(t:TA):Prop where
 to:PA X e t
structure ZS(X:Cx)(e:Stmt)(t:TS):Prop where
 to:PS X e t
structure Dn(X:Cx)(e:List Stmt)(t:TS):Prop where
 to:wz X e t
structure ZG(X:Cx)(e:Expr)(t:TG):Prop where
 to:PG X e t
structure Z3(X:Cx)(e:List Expr)(t:LQ):Prop where
 to:Yp X e t
structure PN(X:Cx)(e:List Expr)(t:TT):Prop where
 to:wA X e t
structure ZO(X:Cx)(e:Option Expr)(t:TO):Prop where
 to:PO X e t
structure ZI(X:Cx)(tg iter:Expr)(t:TI):Prop where
 to:PI X tg iter t
structure ZC(X:Cx)(op:CmpOp)(a b:Expr)(t:TE):Prop where
 to:PC X op a b t
theorem eM{X:Cx}{b:Bool}{j:Nat}{pos:Pos}:ZE X (Expr.Constant (Const.bool b) j pos) (tC (V.bl b)):=⟨V'⟩
theorem aj{X:Cx}{i:Int}{j:Nat}{pos:Pos}:ZE X (Expr.Constant (Const.int i) j pos) (tC (V.int i)):=⟨R9⟩
theorem L7{X:Cx}{x:Str}{j:Nat}{pos:Pos}:ZE X (Expr.Constant (Const.str x) j pos) (tC (V.str x)):=⟨R5⟩
theorem ao{X:Cx}{N:List Str}{sc:Scope}{x:Str}{pos:Pos}(h1:HC X N sc)(i:Nat)(h2:okV N sc i x=true:=by decide +kernel):ZE X (Expr.Name x pos) (wQ i):=⟨pvk h1 i h2⟩
theorem jY{X:Cx}{x:Str}{v:V}{u:Value}{pos:Pos}(h1:Gl X x)(h2:Cx.mg X x=none)(h3:bootBuiltins x=some u)(h4:RelV v u)(h5:autoParam (x≠Str.ofString "__name__") vG._auto_1)(h6:autoParam ((x==Str.ofString "__debug__")=false) vG._auto_2):ZE X (Expr.Name x pos) (tC v):=⟨vG h1 h2 h3 h4 h5 h6⟩
theorem dC{X:Cx}{es:List Expr}{t:TA}{pos:Pos}(h1:ZA X es t):ZE X (Expr.List es pos) (G8 t):=⟨R8 h1.to⟩
theorem fT{X:Cx}{es:List Expr}{t:TA}{pos:Pos}{x1:Nat}(h1:ZA X es t):ZE X (Expr.Tuple es x1 pos) (G3 t):=⟨R4 h1.to⟩
theorem Dz{X:Cx}{pos:Pos}:ZE X (Expr.Dict [] [] pos) qQ:=⟨Jd⟩
theorem aT{X:Cx}{a b:Expr}{ta tb:TE}{pos:Pos}{op:Operator}{r:R2}(h1:lH X (binaryOp op) r)(h2:ZE X a ta)(h3:ZE X b tb):ZE X (Expr.BinOp a op b pos) (G6 r ta tb):=⟨V8 h1 h2.to h3.to⟩
theorem Bc{X:Cx}{a:Expr}{ta:TE}{pos:Pos}(h1:ZE X a ta):ZE X (Expr.UnaryOp UnaryOp.Not a pos) (wV ta):=⟨R7 h1.to⟩
theorem Q0{X:Cx}{a:Expr}{ta:TE}{pos:Pos}{op:UnaryOp}{r:V->Hp->VK->Prop}(h1:Z4 X (unaryOp op) r)(h2:ZE X a ta):ZE X (Expr.UnaryOp op a pos) (Vj r ta):=⟨V7 h1 h2.to⟩
theorem nG{X:Cx}{a b:Expr}{ta tb:TE}{pos:Pos}{op:CmpOp}{r:R2}(h1:lH X (compareOp op) r)(h2:ZE X a ta)(h3:ZE X b tb)(h4:behindInMarks op b=false):ZE X (Expr.Compare a [op] [b] pos) (G6 r ta tb):=⟨N2 h1 h2.to h3.to h4⟩
theorem L8{X:Cx}{a:Expr}{pos:Pos}{op:BoolOp}{t:TE}(h1:ZE X a t):ZE X (Expr.BoolOp op [a] pos) t:=⟨R6 h1.to⟩
theorem Ma{X:Cx}{a b:Expr}{ta tb:TE}{pos:Pos}{rest:List Expr}(h1:ZE X a ta)(h2:ZE X (Expr.BoolOp BoolOp.And (b::rest) pos) tb):ZE X (Expr.BoolOp BoolOp.And (a::b::rest) pos) (wZ ta tb):=⟨Sb h1.to h2.to⟩
theorem wK{X:Cx}:ZO X none nM:=⟨NK⟩
theorem nE{X:Cx}{e:Expr}{te:TE}(h1:ZE X e te):ZO X (some e) (wU te):=⟨NC h1.to⟩
theorem oR{X:Cx}{e:Expr}{te:TE}{lo hi:Option Expr}{tl th:TO}{pos p2:Pos}{r:V->Option Int->Option Int->Hp->VK->Prop}(h1:LR X r)(h2:ZE X e te)(h3:ZO X lo tl)(h4:ZO X hi th):ZE X (Expr.Subscript e (Expr.Slice lo hi none p2) pos) (Vl r te tl th):=⟨Ja h1 h2.to h3.to h4.to⟩
theorem nF{X:Cx}{o i:Expr}{pos:Pos}{td ty:TE}(h1:Around.units (Cx.A X)+1<cLine)(h2:ZE X o td)(h3:ZE X i ty)(h4:Ul i):ZE X (Expr.Subscript o i pos) (ua td ty):=⟨N0 h1 h2.to h3.to h4⟩
theorem bq{X:Cx}{a b:Expr}{ta tb:TE}{pos:Pos}{r:R2}(h1:P1 X r)(h2:ZE X a ta)(h3:ZE X b tb)(h4:Du b):ZE X (Expr.Subscript a b pos) (G6 r ta tb):=⟨V9 h1 h2.to h3.to h4⟩
theorem cg{X : Cx}{N : List Str}{iH : Scope}{elt target iter : Expr}{ifs : List Expr}{scope : Scope}{pos : Pos}{wi : TI}{g : CB → TG}{tt : CB → TT}{te : CB → TE}(h1 : HC X N iH)(xs : List Str)(idx : List Nat)(h2 : Cx.calm X=true)(h3 : FP iH N scope idx=true)(h4 : ZI X target iter wi)(h5 : (∀ (c : CB),
                HC (jG X scope (xs++bP (Cx.N X) idx) c) (xs++bP N idx) (cP scope iH) →
                  ZG (jG X scope (xs++bP (Cx.N X) idx) c) target (g c))) (h6 : (∀ (c : CB),
                  HC (jG X scope (xs++bP (Cx.N X) idx) c) (xs++bP N idx) (cP scope iH) →
                    PN (jG X scope (xs++bP (Cx.N X) idx) c) ifs (tt c))) (h7 : (∀ (c : CB),
                    HC (jG X scope (xs++bP (Cx.N X) idx) c) (xs++bP N idx) (cP scope iH) →
                      ZE (jG X scope (xs++bP (Cx.N X) idx) c) elt (te c))) (h8 : autoParam (∀ (x : Value), foldedSetIterable iter (Cx.env X) x=pure x) xr._auto_1) : ZE X (Expr.ListComp elt [{ target := target, iter := iter, ifs := ifs, is_async := 0 }] scope pos)
                      (qS wi (List.length xs) idx g tt te) := ⟨xr h1 xs idx h2 h3 h4.to (λc z => (h5 c z).to) (λc z => (h6 c z).to) (λc z => (h7 c z).to) h8⟩
theorem ah{X:Cx}:ZA X [] DY:=⟨zf⟩
theorem ae{X:Cx}{e:Expr}{es:List Expr}{te:TE}{t:TA}(h1:ZE X e te)(h2:ZA X es t)(h3:autoParam (starEach (e::es) (Cx.env X)=(false,eval e (Cx.env X))::starEach es (Cx.env X)) qE._auto_1):ZA X (e::es) (uc te t):=⟨qE h1.to h2.to h3⟩
theorem L5{X : Cx}{pos : Pos}{es : List Expr}{k : Nat}{t : LQ}{n : Nat}(h1 : Cx.calm X=true)(h2 : Z3 X es t)(h3 : autoParam (List.length (assignEach es (Cx.env X))=n) zb._auto_1)(h4 : autoParam (List.findIdx? (λ(x : Bool × (Value → Sem Unit)) => Prod.fst x) (assignEach es (Cx.env X))=none)
            zb._auto_2) : ZG X (Expr.Tuple es k pos) (O6 (Cx.K X) n t) := ⟨zb h1 h2.to h3 h4⟩
theorem jX{X:Cx}{N:List Str}{sc:Scope}{x:Str}{pos:Pos}(h1:HC X N sc)(h2:List.Nodup N)(i:Nat)(h3:Eu N sc i x=true):ZG X (Expr.Name x pos) (dh i):=⟨pgb h1 h2 i h3⟩
theorem cK{X:Cx}:PN X [] G0:=⟨Iv⟩
theorem iI{X:Cx}{e:Expr}{t:TT}(h1:ZT X e t):PN X [e] t:=⟨Iu h1.to⟩
theorem GC{X:Cx}:Z3 X [] O7:=⟨NR⟩
theorem tU{X : Cx}{e : Expr}{es : List Expr}{t : TG}{u : LQ}(h1 : ZG X e t)(h2 : Z3 X es u)(h3 : autoParam
          (List.map (λ(x : Bool × (Value → Sem Unit)) => Prod.snd x) (assignEach (e::es) (Cx.env X)) =
            assign e (Cx.env X) ::
              List.map (λ(x : Bool × (Value → Sem Unit)) => Prod.snd x) (assignEach es (Cx.env X)))
          xq._auto_1) : Z3 X (e::es) (Cv t u) := ⟨xq h1.to h2.to h3⟩
theorem gF{X:Cx}{tg a:Expr}{ta:TA}{p pos:Pos}(h1:Gl X (Str.ofString "range"))(h2:Cx.mg X (Str.ofString "range")=none)(h3:ZA X [a] ta)(h4:autoParam (starEach [a] (Cx.env X)=[(false,eval a (Cx.env X))]) uw._auto_1):ZI X tg (Expr.Call (Expr.Name (Str.ofString "range") p) [a] [] pos) (yc ta):=⟨uw h1 h2 h3.to h4⟩
theorem cp{X:Cx}{tg l:Expr}{tl:TE}(h1:ZE X l tl):ZI X tg l (yd (Cx.K X) tl):=⟨NQ h1.to⟩
theorem e8{X:Cx}{tg l:Expr}{tl:TE}(h1:ZE X l tl):ZI X tg l (JQ (Cx.K X) tl):=⟨RZ h1.to⟩
theorem yM{X:Cx}{o i:Expr}{td ty:TE}(h1:Around.units (Cx.A X)+1<cLine)(h2:ZE X i ty)(h3:ZE X o td):ZC X CmpOp.NotIn i o (vg ty td):=⟨Eo h1 h2.to h3.to⟩
theorem LW{X:Cx}{a b:Expr}{pos:Pos}{op:CmpOp}{t:TE}(h1:ZC X op a b t)(h2:autoParam (behindInMarks op b=false) Im._auto_1):ZT X (Expr.Compare a [op] [b] pos) (tB t):=⟨Im h1.to h2⟩
theorem bA{X:Cx}{a b:Expr}{ta tb:TE}{pos:Pos}{op:CmpOp}{r:R2}(h1:lH X (compareOp op) r)(h2:ZE X a ta)(h3:ZE X b tb)(h4:behindInMarks op b=false):ZT X (Expr.Compare a [op] [b] pos) (wR (G6 r ta tb)):=⟨Np h1 h2.to h3.to h4⟩
theorem dU{X:Cx}{a:Expr}{pos:Pos}{tA:TT}(h1:ZT X a tA):ZT X (Expr.UnaryOp UnaryOp.Not a pos) (G7 tA):=⟨RK h1.to⟩
theorem lK{X:Cx}{e:Expr}{t:TT}(h1:ZW X e t):ZT X e t:=⟨PW.pt h1.to⟩
theorem bQ{X:Cx}{e:Expr}{t:TE}(h1:ZE X e t)(h2:autoParam
    (∀(whole:Sem Value),
     PySem.isTrue e (Cx.env X) whole=do
      let v <-whole
      standAt (Expr.pos e)
      holding [v] (truthy v))
    Il._auto_1):ZT X e (tB t):=⟨Il h1.to h2⟩
theorem jV{X:Cx}{a:Expr}{pos:Pos}{tA:TT}(h1:ZT X a tA):ZW X (Expr.BoolOp BoolOp.And [a] pos) tA:=⟨Nn h1.to⟩
theorem ny{X:Cx}{a:Expr}{pos:Pos}{tA:TT}(h1:ZT X a tA):ZW X (Expr.BoolOp BoolOp.Or [a] pos) tA:=⟨RG h1.to⟩
theorem nA{X:Cx}{a b:Expr}{pos:Pos}{tA Lg:TT}{rest:List Expr}(h1:ZT X a tA)(h2:ZW X (Expr.BoolOp BoolOp.And (b::rest) pos) Lg):ZW X (Expr.BoolOp BoolOp.And (a::b::rest) pos) (Ha tA Lg):=⟨RJ h1.to h2.to⟩
theorem lZ{X:Cx}{a b:Expr}{pos:Pos}{tA Lg:TT}{rest:List Expr}(h1:ZT X a tA)(h2:ZW X (Expr.BoolOp BoolOp.Or (b::rest) pos) Lg):ZW X (Expr.BoolOp BoolOp.Or (a::b::rest) pos) (Vn tA Lg):=⟨V2 h1.to h2.to⟩
theorem aB{X : Cx}{CX : Dx}{k : Nat}{f : Addr}{fd : FuncData}{ps : List Str}{sp : Sp}{pD : List V}{ds : List Value}{E : XK}{x : Str}{p pos : Pos}{e : Expr}{es : List Expr}{t : TA}(h1 : bG (Cx.prog X) (Cx.w X) (Cx.K X) (Cx.mg X) (Cx.base X) CX k f fd ps sp)(h2 : bW k (Cx.A X))(h3 : Gl X x)(h4 : Cx.mg X x=some (Value.ref f))(h5 : W.keepIn (Cx.K X) (Value.ref f)=true)(h6 : Binds (Cx.K X) fd ps ds)(h7 : Vals pD ds)(h8 : Passes CX X E)(h9 : ZA X (e::es) t)(Xu : autoParam ((x==Str.ofString "__debug__")=false) qD._auto_1)(Xs : autoParam (starEach (e::es) (Cx.env X)=(false, eval e (Cx.env X))::starEach es (Cx.env X))
                          qD._auto_2) (h12 : autoParam
                            ((List.any (backTo pos (starEach es (Cx.env X))) λ(x : Bool × Sem Value) => Prod.fst x) =
                              false)
                            qD._auto_3) : ZE X (Expr.Call (Expr.Name x p) (e::es) [] pos) (wX sp pD E t) := ⟨qD h1 h2 h3 h4 h5 h6 h7 h8 h9.to Xu Xs h12⟩
theorem eL{X : Cx}{x : Str}{p pos : Pos}{e : Expr}{es : List Expr}{t : TA}{T : String}{r : List V → Hp → VK → Prop}(h1 : dD X (Value.type T) r)(h2 : Gl X x)(h3 : Cx.mg X x=none)(h4 : bootBuiltins x=some (Value.type T))(h5 : ZA X (e::es) t)(h6 : autoParam (x ≠ Str.ofString "__name__") iM._auto_1)(h7 : autoParam ((x==Str.ofString "__debug__")=false) iM._auto_2)(h8 : autoParam (starEach (e::es) (Cx.env X)=(false, eval e (Cx.env X))::starEach es (Cx.env X))
                    iM._auto_3) (h9 : autoParam
                      ((List.any (backTo pos (starEach es (Cx.env X))) λ(x : Bool × Sem Value) => Prod.fst x) =
                        false)
                      iM._auto_4) : ZE X (Expr.Call (Expr.Name x p) (e::es) [] pos) (Rh r t) := ⟨iM h1 h2 h3 h4 h5.to h6 h7 h8 h9⟩
theorem aP{X : Cx}{x : Str}{p pos : Pos}{e : Expr}{es : List Expr}{t : TA}{id : String}{r : List V → Hp → VK → Prop}(h1 : dD X (Value.builtin id) r)(h2 : Gl X x)(h3 : Cx.mg X x=none)(h4 : bootBuiltins x=some (Value.builtin id))(h5 : ZA X (e::es) t)(h6 : autoParam (x ≠ Str.ofString "__name__") j8._auto_1)(h7 : autoParam ((x==Str.ofString "__debug__")=false) j8._auto_2)(h8 : autoParam (starEach (e::es) (Cx.env X)=(false, eval e (Cx.env X))::starEach es (Cx.env X))
                    j8._auto_3) (h9 : autoParam
                      ((List.any (backTo pos (starEach es (Cx.env X))) λ(x : Bool × Sem Value) => Prod.fst x) =
                        false)
                      j8._auto_4) : ZE X (Expr.Call (Expr.Name x p) (e::es) [] pos) (Rh r t) := ⟨j8 h1 h2 h3 h4 h5.to h6 h7 h8 h9⟩
theorem oU{X : Cx}{o e : Expr}{es : List Expr}{to : TE}{t : TA}{name : Str}{apos cG : Pos}{T id : String}{r : V → List V → Hp → VK → Prop}(h1 : PlainAttrs T)(h2 : Slot T name id)(h3 : typeOf (Value.builtin id)=pure (Value.type "method_descriptor"))(h4 : MtR X id r)(h5 : ZE X o to)(h6 : ZA X (e::es) t)(h7 : autoParam (attributeBase o name (Cx.env X) (eval o (Cx.env X))=eval o (Cx.env X)) uA._auto_1)(h8 : autoParam
                    ((((List.all (backTo cG (starEach (e::es) (Cx.env X))) λ(x : Bool × Sem Value) =>
                            !Prod.fst x) &&
                          List.all (backToKw cG (keywordEach [] (Cx.env X))) λ(x : Option Str × Sem Value) =>
                            Option.isSome (Prod.fst x)) &&
                        decide
                          ((List.length (e::es)+List.length ([] : List Keyword)+if List.isEmpty ([] : List Keyword)=true then 0 else 1)<30)) =
                      true)
                    uA._auto_2) (h9 : autoParam ((Pos.endLine apos==Pos.line cG)=true) uA._auto_3) (Xu : autoParam (starEach (e::es) (Cx.env X)=(false, eval e (Cx.env X))::starEach es (Cx.env X))
                        uA._auto_4) (Xs : autoParam
                          ((List.any (backTo cG (starEach es (Cx.env X))) λ(x : Bool × Sem Value) => Prod.fst x) =
                            false)
                          uA._auto_5) : ZE X (Expr.Call (Expr.Attribute o name apos) (e::es) [] cG) (Vo (Cx.K X) T r to t) := ⟨uA h1 h2 h3 h4 h5.to h6.to h7 h8 h9 Xu Xs⟩
theorem aL{X:Cx}{e:Expr}{te:TE}{pos:Pos}(h1:ZE X e te):ZS X (Stmt.Return (some e) pos) (G5 te):=⟨RN h1.to⟩
theorem dm{X:Cx}{e:Expr}{te:TE}{pos:Pos}(h1:ZE X e te)(h2:autoParam (swapsWith e none (Pos.line pos) (Cx.env X)=pure false) BG._auto_1):ZS X (Stmt.Expr e pos) (wW te):=⟨BG h1.to h2⟩
theorem oQ{X : Cx}{N : List Str}{iH : Scope}{elt target iter : Expr}{ifs : List Expr}{scope : Scope}{pos spos py : Pos}{wi : TI}{g : CB → TG}{tt : CB → TT}{te : CB → TE}{y : Str}(h1 : HC X N iH)(h2 : List.Nodup N)(i : Nat)(h3 : Eu N iH i y=true)(xs : List Str)(idx : List Nat)(h4 : Cx.calm X=true)(h5 : FP iH N scope idx=true)(h6 : ZI X target iter wi)(h7 : (∀ (c : CB),
                      HC (jG X scope (xs++bP (Cx.N X) idx) c) (xs++bP N idx) (cP scope iH) →
                        ZG (jG X scope (xs++bP (Cx.N X) idx) c) target (g c))) (h8 : (∀ (c : CB),
                        HC (jG X scope (xs++bP (Cx.N X) idx) c) (xs++bP N idx) (cP scope iH) →
                          PN (jG X scope (xs++bP (Cx.N X) idx) c) ifs (tt c))) (h9 : (∀ (c : CB),
                          HC (jG X scope (xs++bP (Cx.N X) idx) c) (xs++bP N idx) (cP scope iH) →
                            ZE (jG X scope (xs++bP (Cx.N X) idx) c) elt (te c))) (Xu : swapsWith
                              (Expr.ListComp elt [{ target := target, iter := iter, ifs := ifs, is_async := 0 }] scope
                                pos)
                              (some (Expr.Name y py)) (Pos.line spos) (Cx.env X) =
                            pure true) (Xs : autoParam (∀ (x : Value), foldedSetIterable iter (Cx.env X) x=pure x) xm._auto_1) : ZS X
                              (Stmt.Assign [Expr.Name y py]
                                (Expr.ListComp elt [{ target := target, iter := iter, ifs := ifs, is_async := 0 }] scope
                                  pos)
                                spos)
                              (qT (qS wi (List.length xs) idx g tt te) (dh i)) := ⟨xm h1 h2 i h3 xs idx h4 h5 h6.to (λc z => (h7 c z).to) (λc z => (h8 c z).to) (λc z => (h9 c z).to) Xu Xs⟩
theorem aI{X:Cx}{N:List Str}{sc:Scope}{x:Str}{pos:Pos}{e:Expr}{te:TE}{pos':Pos}(h1:HC X N sc)(h2:List.Nodup N)(h3:(∀(x:Str),Cx.fn X x=true))(i:Nat)(h4:Li N sc i x=true)(h5:ZE X e te)(h6:autoParam (swapsWith e (some (Expr.Name x pos')) (Pos.line pos) (Cx.env X)=pure false) Bz._auto_1):ZS X (Stmt.Assign [Expr.Name x pos'] e pos) (qT te (dh i)):=⟨Bz h1 h2 h3 i h4 h5.to h6⟩
theorem nC{X:Cx}{o i value:Expr}{pos pos':Pos}{td ty tv:TE}(h1:Around.units (Cx.A X)+1<cLine)(h2:ZE X o td)(h3:ZE X i ty)(h4:ZE X value tv)(h5:swapsWith value (some (Expr.Subscript o i pos')) (Pos.line pos) (Cx.env X)=pure false):ZS X (Stmt.Assign [Expr.Subscript o i pos'] value pos) (qY td ty tv):=⟨Nz h1 h2.to h3.to h4.to h5⟩
theorem jb{X : Cx}{pos : Pos}{tg e : Expr}{te : TE}{g : TG}(h1 : ZE X e te)(h2 : ZG X tg g)(h3 : autoParam (swapsWithSole [tg] e (Pos.line pos) (Cx.env X)=pure false) vF._auto_1)(h4 : autoParam (swappedStores [tg] e (Cx.env X)=pure none) vF._auto_2)(h5 : autoParam
              (List.map (λ(x : Bool × (Value → Sem Unit)) => Prod.snd x) (assignEach [tg] (Cx.env X)) =
                [assign tg (Cx.env X)])
              vF._auto_3) : ZS X (Stmt.Assign [tg] e pos) (qT te g) := ⟨vF h1.to h2.to h3 h4 h5⟩
theorem jc{X : Cx}{pos : Pos}{o i : Expr}{to ti : TE}{t : Aq}(h1 : ZE X o to)(h2 : ZE X i ti)(h3 : Gf X t)(h4 : autoParam
            (∀ (v : Value),
              assign (Expr.Subscript o i pos) (Cx.env X) v=do
                let ov ← holding [v] (eval o (Cx.env X))
                let iv ← holding [v, ov] (eval i (Cx.env X))
                standAt pos
                holding [v, ov, iv] (setItem ov iv v)
                release [v, ov, iv] [])
            Iy._auto_1) : ZG X (Expr.Subscript o i pos) (Kn to ti t) := ⟨Iy h1.to h2.to h3 h4⟩
theorem wJ{X : Cx}{pos : Pos}{o i e : Expr}{to ti te : TE}{yQ : V → V → Hp → VK → Prop}{Rb : P0}{yP : Aq}{op : Operator}{GZ : Pos}(h1 : ZE X o to)(h2 : ZE X i ti)(h3 : Uk X yQ)(h4 : ZE X e te)(h5 : Uj X op Rb)(h6 : Gf X yP)(h7 : autoParam
                  (∀ (ov iv new : Value),
                    augStore i ov iv new=do
                      holding [new, ov, iv] (setItem ov iv new)
                      release [new, ov, iv] []
                      pure Flow.next)
                  BJ._auto_1) : ZS X (Stmt.AugAssign (Expr.Subscript o i GZ) op e pos) (wY to ti te yQ Rb yP) := ⟨BJ h1.to h2.to h3 h4.to h5 h6 h7⟩
theorem Gy{X:Cx}{N:List Str}{sc:Scope}{x:Str}{pos:Pos}{e:Expr}{te:TE}{op:Operator}{ti:P0}{pos':Pos}(h1:HC X N sc)(h2:List.Nodup N)(h3:(∀(x:Str),Cx.fn X x=true))(i:Nat)(h4:Li N sc i x=true)(h5:ZE X e te)(h6:Uj X op ti):ZS X (Stmt.AugAssign (Expr.Name x pos') op e pos) (Mp i te ti):=⟨Nv h1 h2 h3 i h4 h5.to h6⟩
theorem bX{X:Cx}{t u:TS}{pos:Pos}{c:Expr}{a b:List Stmt}{tc:TT}(h1:ZT X c tc)(h2:Dn X a t)(h3:Dn X b u):ZS X (Stmt.If c a b pos) (D' tc t u):=⟨V1 h1.to (.of h2.to) (.of h3.to)⟩
theorem tT{X:Cx}{pos:Pos}{c:Expr}{body:List Stmt}{tc:TT}{tb:TS}(h1:PassesOwn (model (Cx.prog X) (Cx.w X)) (Cx.A X) (Cx.env X) (Cx.xe X))(h2:ZT X c tc)(h3:Dn X body tb):ZS X (Stmt.While c body [] pos) (yR tc tb):=⟨HS h1 h2.to (.of h3.to)⟩
theorem jW{X:Cx}{N:List Str}{sc:Scope}{x:Str}{pos:Pos}(h1:HC X N sc)(h2:List.Nodup N)(h3:(∀(x:Str),Cx.fn X x=true))(i:Nat)(h4:Li N sc i x=true):ZG X (Expr.Name x pos) (dh i):=⟨pgk h1 h2 h3 i h4⟩
theorem cW{X:Cx}{pos:Pos}{tg iter:Expr}{body:List Stmt}{wi:TI}{g:TG}{tb:TS}(h1:PassesOwn (model (Cx.prog X) (Cx.w X)) (Cx.A X) (Cx.env X) (Cx.xe X))(h2:Cx.calm X=true)(h3:ZI X tg iter wi)(h4:ZG X tg g)(h5:Dn X body tb)(h6:autoParam (∀(x:Value),foldedSetIterable iter (Cx.env X) x=pure x) HW._auto_1):ZS X (Stmt.For tg iter body [] pos) (Mi wi g tb):=⟨HW h1 h2 h3.to h4.to (.of h5.to) h6⟩
theorem bt{X:Cx}:Dn X [] t9:=⟨tQ.to Nf⟩
theorem ay{X:Cx}{st:Stmt}{t:TS}(h1:ZS X st t):Dn X [st] t:=⟨tQ.to (Nc h1.to)⟩
theorem aq{X:Cx}{st:Stmt}{rest:List Stmt}{t u:TS}(h1:ZS X st t)(h2:Dn X rest u):Dn X (st::rest) (DX t u):=⟨tQ.to (HR h1.to (.of h2.to))⟩
theorem jU{X:Cx}{st:Stmt}{rest:List Stmt}{t u:TS}(h1:ZS X st t)(h2:Dn X rest u):Dn X (st::rest) (Ml t u):=⟨tQ.to (Ng h1.to (.of h2.to))⟩
theorem gZ.n6{P:Program}{w:World}{K:PySem.W.Frag}{mg:Str->Option Value}{base:Heap}{x qual:Str}{st:Stmt}{f:Addr}{fd:FuncData}{N ps:List Str}{k:Nat}{sp:Sp}(F:gZ K x qual st f fd)(S:aO N ps (ag st))(len:∀vs H Q E,sp vs H Q E->vs.length=ps.length)
  (eG:∀(cB:Value) (A:Around) (outer:List Env) (s:Shared) (H:Hp) (vs:List V) (Q:VK) (E:XK),bW k (A.deeper (envOfC qual (ag st) s.heap.objs.size f cB))->sp vs H Q E->
   HC (eZ eI P w K mg base N qual (ag st) f cB A outer s H E).sJ N (ag st)->(∀x,(eZ eI P w K mg base N qual (ag st) f cB A outer s H E).sJ.fn x=true)->
   ∃t,Dn (eZ eI P w K mg base N qual (ag st) f cB A outer s H E).sJ (aH st) t/\t { nx:=λ_ H'=>Q .non H',rt:=Q } (start N vs) H):bG P w K mg base eI (k+1) f fd ps sp:=
 F.okK S len λcB A outer s H vs Q E hr h hc hf=>let ⟨t,h1,h2⟩:=eG cB A outer s H vs Q E hr h hc hf;⟨t,.of h1.to,h2⟩
def pK(w:World):Bool:=w.params.followText "set-order"
theorem Oh(t:SetTable)(es:Array (Int×Value))(h:Int)(x:Value):(layNew t es h x).2.1.led=t.led:=by
 unfold layNew
 split
 ·dsimp only;unfold SetTable.orStandIn
  split <;> rfl
 ·rfl
theorem JL{mask finger moves:Nat}{led plain:Bool}{hs:Array Int}{t':SetTable}{o:Array Nat}(h:SetTable.laid mask finger moves led plain hs=some (t',o)):t'.led=led/\t'.plain=plain:=by
 unfold SetTable.laid at h
 cases q:SetTable.layClean mask hs with
 | none=>rw[q]at h;cases h
 | some owner=>rw[q]at h;cases h;exact⟨rfl,rfl⟩
theorem Ej(t:SetTable)(es:Array (Int×Value))(k:Nat):(relayAll t es k).2.1.led=t.led:=by
 unfold relayAll
 split
 ·rename_i t' o q
  dsimp only
  split
  ·exact(JL q).1
  ·rfl
 ·rfl
def aCu(w:World)(p:Str×Tok):Int×Value:=(hashStr w p.1,.str p.1 p.2)
def dE(es:Array (Int×Value))(ep:Nat)(t:SetTable):Obj:={ cls:=.type "set",dict:=none,data:=.set es ep t }
structure aDq(w:World)(h:Heap)(a:Addr)(l:List (Str×Tok)):Prop where
 ex:∃es ep t,h.get? a=some (dE es ep t)/\es.toList=l.map (aCu w)/\t.fits es.size=true/\t.led = !pK w/\(l≠[]->t.plain=false)
 nd:(l.map (·.1)).Nodup
 sz:l.length<scanBound
section
variable {P:Program}{w:World}{A:Around}{E:Value->Shared->Prop}{s:Shared}{a:Addr}{l:List (Str×Tok)}
end
section
variable {P:Program}{w:World}{A:Around}{R:Result->Shared->Prop}{I:Addr}{fp wr:List Addr}{G:Array GenState->Array GenState->Prop}{n:Nat}{Pv:Nat->Value->Prop}{St:Nat->Shared->Prop}
end
section
variable {P:Program}{w:World}{A:Around}{E:Value->Shared->Prop}{s:Shared}
theorem Bo{x:Value}{Q:Value->Shared->Prop}(h:Q (.ref s.heap.objs.size) { s with heap:=s.heap.push (dE #[] 0 (.fresh 0 0 (!pK w))) }) :
  codeAny (model P w) A (.call (.builtin "set.__new__") ⟨[.type "set",x],[]⟩) (wants Q E) s:=by
 refine codeAny_of_tree ?_
 refine wpAny_bind (m:=checkBuiltinCall "set.__new__" ⟨[.type "set",x],[]⟩) (wpAny_of_eq (PySem.F.newCall_set_1 x) (wpAny_pure ⟨plainId_quiet PySem.F.plain_set_new _,codeAny_builtin PySem.F.entry_set_new ?_⟩))
 rw[Around.under_plainId PySem.F.plain_set_new _]
 unfold Builtin.«set.__new__» Builtin.Frozenset.newClass
 have zW:=sub_set_self
 obtain⟨hp,g,d,tk,os⟩:=s
 dsimp only
 wp_walk
 refine wpAny_askSetting (wpAny_pure ?_)
 dsimp only
 simp only[newObj]
 refine wpAny_bind (wpAny_alloc (wpAny_pure (wpAny_pure h)))
end
theorem dW:Slot "set_iterator" "__next__" "set_iterator.__next__":=
 .of (owner:="set_iterator") (n:="__next__") (by rw[typeLookup_type,builtinLookup_eq_fast];kernel_rfl) (by decide +kernel) (by decide +kernel) (by decide +kernel)
  (.inl (by decide +kernel)) (by rw[isSubtype_type];kernel_rfl)
theorem nQ:Slot "set_iterator" "__iter__" "set_iterator.__iter__":=
 .of (owner:="set_iterator") (n:="__iter__") (by rw[typeLookup_type,builtinLookup_eq_fast];kernel_rfl) (by decide +kernel) (by decide +kernel) (by decide +kernel)
  (.inl (by decide +kernel)) (by rw[isSubtype_type];kernel_rfl)
theorem lL:entryFor table "set_iterator.__next__" = some Builtin.«set_iterator.__next__»:=entryFor_of_tree (by kernel_rfl)
theorem sP:entryFor table "set_iterator.__iter__" = some Builtin.«dict_keyiterator.__iter__»:=
 entryFor_alias (id':="dict_keyiterator.__iter__") (by kernel_rfl) rfl (by decide +kernel) (by kernel_rfl)
theorem sQ:entryFor table "set.__iter__" = some Builtin.«frozenset.__iter__»:=
 entryFor_alias (id':="frozenset.__iter__") (by kernel_rfl) rfl (by decide +kernel) (by kernel_rfl)
theorem w8:Manifest.owners.lookup (String.ofList "rotareti_tes".toList.reverse)=some Manifest.sig_set_iterator:=by kernel_rfl
theorem nR(a:Value):argsOk "set_iterator.__next__" ⟨[a],[]⟩:=by
 unfold argsOk;rw[signature?_of (id:="set_iterator.__next__") (n:="__txen__".toList) (o:="rotareti_tes".toList) (by kernel_rfl) w8];kernel_rfl
theorem vq(a:Value):argsOk "set_iterator.__iter__" ⟨[a],[]⟩:=by
 unfold argsOk;rw[signature?_of (id:="set_iterator.__iter__") (n:="__reti__".toList) (o:="rotareti_tes".toList) (by kernel_rfl) w8];kernel_rfl
def lM(first:Value)(i n ep:Nat)(a:Addr):Obj:={ cls:=.type "set_iterator",data:=.fields #[first,.int i 0,.ref a,.int n 0,.int ep 0] }
section
variable {P:Program}{w:World}{A:Around}{E:Value->Shared->Prop}{s:Shared}{a I:Addr}{es:Array (Int×Value)}{t:SetTable}{ep i n:Nat}{first:Value}
theorem nP(hI:s.heap.get? I=some (lM first i n ep a)):s.TypeIs (.ref I) "set_iterator":=⟨_,hI,rfl⟩
theorem Bm{Q:Value->Shared->Prop}(hI:s.heap.get? I=some (lM first i n ep a))(q:Q (.ref I) s):wpAny (model P w) A (pyIter (.ref I)) Q E s:=by
 refine wpAny_pyIter_slot (nP hI) nQ (wpAny_call_entry nQ (nP hI) sP ?_ (vq _))
 exact wpAny_pure ⟨_,rfl,"set_iterator",_,nP hI,dW.lookup,q⟩
theorem Ho{slot:Nat}{tk:Tok}{r:Option (Value×Nat)}{Q:Option Value->Shared->Prop}(hh:A.handled=none)(hI:s.heap.get? I=some (lM (.int slot tk) i n ep a))(hS:s.heap.get? a=some (dE es ep t))(hf:t.fits es.size=true)(hn:es.size=n)
  (hx:∀(B:Around) (E':Value->Shared->Prop) (Q':Option (Value×Nat)->Shared->Prop),Q' r s->wpAny (model P w) B (setNext a slot i ep) Q' E' s)
  (q:match r with
   | some (x,nx)=>∀h',h'.get? I=some (lM (.int (nx:Int) 0) (i+1) n ep a)->Heap.SameBut I s.heap h'->Q (some x) { s with heap:=h' }
   | none=>∀h',Heap.ExtBut I s.heap h'->Q none { s with heap:=h' }):wpAny (model P w) A (pyNext (.ref I)) Q E s:=by
 have hT:=nP hI
 unfold pyNext
 refine wpAny_bind (wpAny_attempt (wpAny_callSpecial?_slot (name:=Str.ofString "__next__") hT dW (wpAny_call_entry dW hT lL ?_ (nR _))))
 unfold Builtin.«set_iterator.__next__»
 refine wpAny_bind (m:=slotArgs _ _ _) (wpAny_pure ?_)
 refine wpAny_bind (wpAny_fieldsOf hI rfl ?_)
 refine wpAny_bind (m:=setEntries a) (wpAny_setEntries_of hS rfl hf ?_)
 rw[if_neg (by rw[hn];simp)]
 refine wpAny_bind (m:=setNext a slot i ep) (hx _ _ _ ?_)
 cases r with
 | some p=>
  obtain⟨x,nx⟩:=p
  dsimp only at q ⊢
  refine wpAny_bind (m:=setField (.ref I) 0 (rawInt nx)) (wpAny_setField_rec hI (by simp) λh1 e1 VD=>?_)
  refine wpAny_bind (m:=setField (.ref I) 1 (rawInt (i+1))) (wpAny_setField_rec e1 (by simp) λh2 e2 sb2=>?_)
  exact wpAny_pure ⟨x,rfl,wpAny_pure (q h2 (by rw[e2];rfl) (VD.trans sb2))⟩
 | none=>
  dsimp only at q ⊢
  refine wpAny_bind (m:=setField (.ref I) 2 .none) (wpAny_setField_rec hI (by simp) λh1 e1 VD=>?_)
  refine wpAny_bind (m:=newExc (.type "StopIteration") []) ?_
  simp only[newExc,newTuple]
  refine wpAny_bind (wpAny_newObj_type ?_ (by size_fits))
  refine wpAny_bind (m:=firstArgMember _ _) (wpAny_of_eq (a:=Value.none) (by first | rfl | (simp only[firstArgMember];rfl)) ?_)
  refine wpAny_newObj_type (wpAny_raiseNew_none hh ?_) (by size_fits)
  refine wpAny_bind (wpAny_isInstance (T:="StopIteration") (b:=true) ⟨_,Heap.get?_push_size _ rfl,rfl⟩ isSubtype_stop ?_)
  exact wpAny_pure (q _ ((VD.extBut.push _).push _))
theorem Hn{p:Addr}{vs:Array Value}{c:Nat}{r:Option Value}{Q:Option Value->Shared->Prop}(hh:A.handled=none)(hI:s.heap.get? I=some (lM (.ref p) i n ep a))(hS:s.heap.get? a=some (dE es ep t))(hf:t.fits es.size=true)(hn:es.size=n)
  (hp:s.heap.get? p=some { cls:=.type "tuple",data:=.seq vs c })
  (hv:match r with | some x=>∃(k:Nat) (z:Int),vs[i]?=some (.int k 0)/\es[k]?=some (z,x) | none=>vs[i]?=none)
  (q:match r with
   | some x=>∀h',h'.get? I=some (lM (.ref p) (i+1) n ep a)->Heap.SameBut I s.heap h'->Q (some x) { s with heap:=h' }
   | none=>∀h',Heap.ExtBut I s.heap h'->Q none { s with heap:=h' }):wpAny (model P w) A (pyNext (.ref I)) Q E s:=by
 have hT:=nP hI
 unfold pyNext
 refine wpAny_bind (wpAny_attempt (wpAny_callSpecial?_slot (name:=Str.ofString "__next__") hT dW (wpAny_call_entry dW hT lL ?_ (nR _))))
 unfold Builtin.«set_iterator.__next__»
 refine wpAny_bind (m:=slotArgs _ _ _) (wpAny_pure ?_)
 refine wpAny_bind (wpAny_fieldsOf hI rfl ?_)
 refine wpAny_bind (m:=setEntries a) (wpAny_setEntries_of hS rfl hf ?_)
 rw[if_neg (by rw[hn];simp)]
 refine wpAny_bind (m:=seqItems? (.ref p)) (wpAny_seqItems hp rfl ?_)
 cases r with
 | some x=>
  obtain⟨k,z,e1,e2⟩:=hv
  dsimp only at q ⊢
  simp only[Int.toNat_natCast,e1]
  refine wpAny_bind (m:=setNextDrawn a k ep) ?_
  unfold setNextDrawn
  refine wpAny_bind (wpAny_setState_of hS rfl hf ?_)
  dsimp only
  rw[if_neg (by simp)]
  simp only[e2]
  refine wpAny_pure ?_
  refine wpAny_bind (m:=setField (.ref I) 1 (rawInt (i+1))) (wpAny_setField_rec hI (by simp) λh2 e2 sb2=>?_)
  exact wpAny_pure ⟨x,rfl,wpAny_pure (q h2 (by rw[e2];rfl) sb2)⟩
 | none=>
  dsimp only at q hv ⊢
  simp only[Int.toNat_natCast,hv]
  refine wpAny_bind (m:=setField (.ref I) 0 (rawInt 0)) (wpAny_setField_rec hI (by simp) λh0 e0 sb0=>?_)
  refine wpAny_bind (m:=setField (.ref I) 2 .none) (wpAny_setField_rec e0 (by simp) λh1 e1 VD=>?_)
  refine wpAny_bind (m:=newExc (.type "StopIteration") []) ?_
  simp only[newExc,newTuple]
  refine wpAny_bind (wpAny_newObj_type ?_ (by size_fits))
  refine wpAny_bind (m:=firstArgMember _ _) (wpAny_of_eq (a:=Value.none) (by first | rfl | (simp only[firstArgMember];rfl)) ?_)
  refine wpAny_newObj_type (wpAny_raiseNew_none hh ?_) (by size_fits)
  refine wpAny_bind (wpAny_isInstance (T:="StopIteration") (b:=true) ⟨_,Heap.get?_push_size _ rfl,rfl⟩ isSubtype_stop ?_)
  exact wpAny_pure (q _ (((sb0.trans VD).extBut.push _).push _))
end
theorem mY{α:Type}:∀(l:List α) (i:Nat) (x:α),l[i]?=some x->(x::l.eraseIdx i).Perm l
 | [],i,x,h=>by cases i <;> cases h
 | y::l,0,x,h=>by cases h;exact List.Perm.refl _
 | y::l,i+1,x,h=>by
  rw[List.getElem?_cons_succ]at h
  rw[List.eraseIdx_cons_succ]
  exact(List.Perm.swap y x _).trans ((mY l i x h).cons y)
theorem BM{α:Type}(next:Nat->Nat):∀(f k:Nat) (l:List α) (out:Array α),l.length=f->(pickOrder.go next f k l out).toList.Perm (out.toList++l)
 | 0,k,l,out,h=>by
  rw[List.length_eq_zero_iff.mp h,List.append_nil]
  unfold pickOrder.go
  exact List.Perm.refl _
 | f+1,k,l,out,h=>by
  unfold pickOrder.go
  have lt:next k%l.length<l.length:=Nat.mod_lt _ (by lia)
  have e:l[next k%l.length]?=some l[next k%l.length]:=List.getElem?_eq_getElem lt
  rw[e]
  dsimp only
  refine(BM next f (k+1) _ _ (by rw[List.length_eraseIdx_of_lt lt];lia)).trans ?_
  rw[Array.toList_push,List.append_assoc]
  exact(mY l _ _ e).append_left _
theorem uv{α:Type}(next:Nat->Nat)(xs:Array α):(pickOrder next xs).toList.Perm xs.toList:=by
 unfold pickOrder
 have:=BM next xs.size 0 xs.toList #[] Array.length_toList
 simpa using this
section
variable {P:Program}{w:World}{A:Around}{E:Value->Shared->Prop}
theorem uR{α:Type}:∀(n:Nat) (xs:List α) (s:Shared) (Q:List α->Shared->Prop),xs.length=n->(∀ys d,ys.Perm xs->Q ys { s with drawn:=d })->wpAny (model P w) A (drawOrder n xs) Q E s
 | 0,xs,s,Q,h,q=>by
  have:xs=[]:=List.length_eq_zero_iff.mp h
  subst this
  unfold drawOrder
  exact wpAny_pure (by cases s;exact q [] _ (List.Perm.refl _))
 | n+1,[],s,Q,h,q=>by cases h
 | n+1,x::xs,s,Q,h,q=>by
  unfold drawOrder
  have lt:w.draws .order (s.drawn.get .order)%(x::xs).length<(x::xs).length:=Nat.mod_lt _ (by simp)
  refine wpAny_bind (m:=choose .order (x::xs).length) (λΓ p hΓ=>?_)
  refine⟨by simp,?_⟩
  have e:(x::xs)[w.draws .order (s.drawn.get .order)%(x::xs).length]?=some (x::xs)[w.draws .order (s.drawn.get .order)%(x::xs).length]:=List.getElem?_eq_getElem lt
  show wpAny (model P w) A (match (x::xs)[w.draws .order (s.drawn.get .order)%(x::xs).length]? with
   | some y=>do let r <-drawOrder n ((x::xs).eraseIdx (w.draws .order (s.drawn.get .order)%(x::xs).length));pure (y::r)
   | none=>unsupported "internal:drawOrder") Q E { s with drawn:=s.drawn.bump .order }
  rw[e]
  dsimp only
  refine wpAny_bind (uR n _ _ _ (by rw[List.length_eraseIdx_of_lt lt];simp at h ⊢;lia) λys d hp=>wpAny_pure ?_)
  exact q _ d ((hp.cons _).trans (mY _ _ _ e))
variable {s:Shared}{a:Addr}{es:Array (Int×Value)}{t:SetTable}{ep slot i:Nat}
theorem js{Q:Bool->Shared->Prop}(q:Q (pK w) s):wpAny (model P w) A setsByText Q E s:=by
 unfold setsByText
 exact wpAny_bind (wpAny_askSetting (wpAny_pure q))
theorem xG{Q:Option (Value×Nat)->Shared->Prop}(hb:pK w=true)(hS:s.heap.get? a=some (dE es ep t))(hf:t.fits es.size=true)(q:Q (((pickOrder (w.params.setOrder a ep) es)[i]?).map λe=>(e.2,slot)) s) :
  wpAny (model P w) A (setNext a slot i ep) Q E s:=by
 unfold setNext
 refine wpAny_bind (wpAny_setState_of hS rfl hf (wpAny_bind (js ?_)))
 rw[hb]
 dsimp only
 rw[if_pos rfl,if_neg (by simp)]
 refine wpAny_bind ?_
 unfold setWalk
 refine wpAny_bind (wpAny_setState_of hS rfl hf (wpAny_bind (js ?_)))
 rw[hb,if_pos rfl]
 exact wpAny_bind (wpAny_askSetting (wpAny_pure (wpAny_pure q)))
end
section
variable {P:Program}{w:World}{B:Around}{a I:Addr}{es:Array (Int×Value)}{t:SetTable}{ep n:Nat}{ord:List Value}
theorem tZ(slotAt:Nat->Nat)(hh:B.handled=none)(qH:a≠I)(hf:t.fits es.size=true)(hn:es.size=n)(ho:ord.length=n)
  (hx:∀i,i<=n->∀(s:Shared) (C:Around) (E':Value->Shared->Prop) (Q':Option (Value×Nat)->Shared->Prop),s.heap.get? a=some (dE es ep t)->Q' ((ord[i]?).map λv=>(v,slotAt (i+1))) s->wpAny (model P w) C (setNext a (slotAt i) i ep) Q' E' s) :
  WalksS P w B I [I,a] [I] (λx y=>y=x) n (λi v=>ord[i]?=some v) (λi s=>s.heap.get? I=some (lM (.int (slotAt i) 0) i n ep a)/\s.heap.get? a=some (dE es ep t)) where
 sub:=λb hb=>by rw[List.mem_singleton.mp hb];exact List.mem_cons_self
 grefl:=λ_=>rfl
 gtrans:=λ_ _ _ h1 h2=>h2.trans h1
 frame:=λi s h' tk st _ k=>⟨k I (by simp) _ st.1,k a (by simp) _ st.2⟩
 item:=λi s Q E hi st q=>by
  have e:ord[i]?=some ord[i]:=List.getElem?_eq_getElem (by rw[ho];exact hi)
  refine Ho (r:=some (ord[i],slotAt (i+1))) hh st.1 st.2 hf hn (λC E' Q' hq=>hx i (Nat.le_of_lt hi) s C E' Q' st.2 (by rw[e];exact hq)) λh' h1 h2=>?_
  exact q _ _ e ⟨h1,h2.extBut a _ qH st.2⟩ ⟨λb o hb z=>h2.extBut b o (λy=>hb (by rw[y];exact List.mem_singleton.mpr rfl)) z,rfl,rfl,rfl,Nat.le_refl _⟩
 done:=λs Q E st q=>by
  have e:ord[n]?=none:=List.getElem?_eq_none (by rw[ho];exact Nat.le_refl _)
  refine Ho (r:=none) hh st.1 st.2 hf hn (λC E' Q' hq=>hx n (Nat.le_refl _) s C E' Q' st.2 (by rw[e];exact hq)) λh' h1=>?_
  exact q _ ⟨λb o hb z=>h1 b o (λy=>hb (by rw[y];exact List.mem_singleton.mpr rfl)) z,rfl,rfl,rfl,Nat.le_refl _⟩
 self:=λi s Q E st q=>Bm st.1 q
theorem DQ{p:Addr}{pl:List Nat}{c:Nat}(hh:B.handled=none)(qH:a≠I)(hnp:p≠I)(hf:t.fits es.size=true)(hn:es.size=n)(ho:ord.length=n)(hl:pl.length=n)
  (hx:∀i:Nat,i<n->∃(k:Nat) (z:Int) (x:Value),pl[i]?=some k/\es[k]?=some (z,x)/\ord[i]?=some x) :
  WalksS P w B I [I,a,p] [I] (λx y=>y=x) n (λi v=>ord[i]?=some v)
   (λi s=>s.heap.get? I=some (lM (.ref p) i n ep a)/\s.heap.get? a=some (dE es ep t)/\s.heap.get? p=some { cls:=.type "tuple",data:=.seq (pl.map λ(j:Nat)=>Value.int j 0).toArray c }) where
 sub:=λb hb=>by rw[List.mem_singleton.mp hb];exact List.mem_cons_self
 grefl:=λ_=>rfl
 gtrans:=λ_ _ _ h1 h2=>h2.trans h1
 frame:=λi s h' tk st _ k=>⟨k I (by simp) _ st.1,k a (by simp) _ st.2.1,k p (by simp) _ st.2.2⟩
 item:=λi s Q E hi st q=>by
  obtain⟨k,z,x,e1,e2,e3⟩:=hx i hi
  refine Hn (r:=some x) hh st.1 st.2.1 hf hn st.2.2 ⟨k,z,by simp[e1],e2⟩ λh' h1 h2=>?_
  exact q _ _ e3 ⟨h1,h2.extBut a _ qH st.2.1,h2.extBut p _ hnp st.2.2⟩ ⟨λb o hb z=>h2.extBut b o (λy=>hb (by rw[y];exact List.mem_singleton.mpr rfl)) z,rfl,rfl,rfl,Nat.le_refl _⟩
 done:=λs Q E st q=>by
  refine Hn (r:=none) hh st.1 st.2.1 hf hn st.2.2 (by simp[hl]) λh' h1=>?_
  exact q _ ⟨λb o hb z=>h1 b o (λy=>hb (by rw[y];exact List.mem_singleton.mpr rfl)) z,rfl,rfl,rfl,Nat.le_refl _⟩
 self:=λi s Q E st q=>Bm st.1 q
end
section
variable {P:Program}{w:World}{A:Around}{E:Value->Shared->Prop}{s:Shared}{a:Addr}{l:List (Str×Tok)}
theorem Hq{Q:Bool->Shared->Prop}(hT:s.TypeIs (.ref a) "set")(q:Q false s):wpAny (model P w) A (Builtin.List.listLengthHint (.ref a)) Q E s:=by
 unfold Builtin.List.listLengthHint
 refine wpAny_bind (wpAny_specialOf hT PySem.F.slot_set_len.lookup ?_)
 generalize hid:("set.__len__" : String)=id0
 wp_delta
 rw[show splitId id0=some ("set","__len__") from by subst hid;decide +kernel]
 subst hid
 refine wpAny_bind (wpAny_isInstance (T:="set") (b:=true) hT (by rw[isSubtype_type];kernel_rfl) ?_)
 refine wpAny_ite_split (λz=>absurd z (by decide)) (λ_=>wpAny_ite_split (λ_=>?_) (λz=>absurd (by decide +kernel) z))
 exact wpAny_bind (wpAny_typeOf hT (wpAny_pure q))
end
theorem Inv.same{X:Cx}{pins:List (Addr×Obj)}{σ:List (Option V)}{H:Hp}{s s':Shared}(I:Inv X pins σ H s)(hh:s'.heap=s.heap)(hg:s'.gens=s.gens)(ho:s'.os=s.os):Inv X pins σ H s':=
 ⟨I.ok,by rw[ho];exact I.os,by rw[hg];exact I.bare,by rw[hh];exact I.base,by rw[hh];exact I.loc,by rw[hh];exact I.cell,I.free,I.iR,by rw[hh];exact I.pin,by rw[hh];exact I.aY,I.len⟩
def TxS(w:World)(p:Addr)(ss:List Str):HO:=.ext λh=>∃l,aDq w h p l/\∀z,z∈l.map (·.1)↔z∈ss
section
variable {X:Cx}
theorem uE{α:Type} [DecidableEq α]:∀{l m:List α},l.Nodup->(∀x∈l,x∈m)->l.length<=m.length
 | [],m,_,_=>Nat.zero_le _
 | x::l,m,h,k=>by
  have hx:=k x List.mem_cons_self
  have:=uE (m:=m.erase x) (List.nodup_cons.mp h).2 λy hy=>(List.mem_erase_of_ne (λ(e:y=x)=>(List.nodup_cons.mp h).1 (by rw[<-e];exact hy))).mpr (k y (List.mem_cons_of_mem _ hy))
  rw[List.length_erase_of_mem hx]at this
  have p:0<m.length:=List.length_pos_of_mem hx
  rw[List.length_cons];lia
end
theorem vd(K:PySem.W.Frag)(z:Str)(H:Hp):Yz K "str" (.str z) H=True:=eq_true rfl
theorem du{α:Type} [DecidableEq α]:∀{l r:List α},l.Nodup->(∀x∈l,x∈r)->l.length<=r.length
 | [],_,_,_=>Nat.zero_le _
 | x::l,r,hn,hs=>by
  have hx:=hs x List.mem_cons_self
  have uL:=List.nodup_cons.mp hn
  have:=du (l:=l) (r:=r.erase x) uL.2 λy hy=>(List.mem_erase_of_ne (λe:y=x=>uL.1 (by rw[<-e];exact hy))).mpr (hs y (List.mem_cons_of_mem _ hy))
  rw[List.length_erase_of_mem hx]at this
  have h0:0<r.length:=List.length_pos_of_mem hx
  rw[List.length_cons];lia
section
variable {X:Cx}
def Ia(w:World):List V->Hp->VK->Prop:=λvs H Q=>∃a,vs=[.ref a]/\∃ss:List Str,H a=some (.lst (ss.map V.str))/\ss.length<4000/\∀p,H p=none->Q (.ref p) (upd H p (TxS w p ss))
def rg(w:World):List V->Hp->VK->Prop:=λvs H Q=>∃a,vs=[.ref a]/\∃ss:List Str,H a=some (TxS w a ss)/\ss.length<64/\
 ∀ss':List Str,(∀z,z∈ss'↔z∈ss)->ss'.Nodup->sortedS ss'=true->∀p,H p=none->Q (.ref p) (upd H p (.lst (ss'.map V.str)))
def By:List V->Hp->VK->Prop:=λvs H Q=>∃a,vs=[.ref a]/\∃bs:List Bool,H a=some (.lst (bs.map V.bl))/\Q (.bl (bs.all id)) H
theorem K1:∀{bs:List Bool} {us:List Value},Vals (bs.map V.bl) us->∀(i:Nat) (v:Value),us[i]?=some v->v=.bool (bs.getD i true):=by
 intro bs
 induction bs with
 | nil=>intro us r i v h;cases r;cases i <;> cases h
 | cons b bs ih=>
  intro us r i v h
  rw[List.map_cons]at r
  cases r with
  | cons r1 r2=>
   cases r1
   cases i with
   | zero=>cases h;rfl
   | succ i=>exact ih r2 i v (by simpa using h)
theorem all_range:∀(bs:List Bool),((List.range bs.length).all λi=>bs.getD i true)=bs.all id
 | []=>rfl
 | b::bs=>by
  rw[List.length_cons,List.range_succ_eq_map,List.all_cons,List.all_map,List.all_cons,<-all_range bs]
  rfl
theorem pJ(hh:X.A.handled=none):dD X (.builtin "all") By:=by
 intro pins s σ H vs us Q I rv h
 obtain⟨a,rfl,bs,hq,q⟩:=h
 obtain⟨u,rfl,ru⟩:=vals1 rv
 cases ru
 obtain⟨its,r,pl,hz⟩:=I.list (aV hq)
 have hl:=r.length
 rw[List.length_map]at hl
 have lt:a<s.heap.objs.size:=let ⟨_,e,_⟩:=pl.isList;Heap.lt_size e
 refine call_all_walkS (wpAny_pyIter_list pl.isList ⟨s.heap.objs.size,_,_,_,its.toArray.size,_,_,λi=>bs.getD i true,rfl,(Walks.list (A:=X.A.in1) hh _ a (Nat.ne_of_lt lt) its.toArray).toS,⟨⟨_,Heap.get?_push_size _ rfl,rfl,rfl⟩,(pl.isList).push _⟩,?_,λs' mv=>?_⟩)
 ·intro i v s1 Q1 E1 hv hq1
  have:v=.bool (bs.getD i true):=K1 r i v (by simpa using hv)
  subst this
  exact wpAny_pure hq1
 ·rw[List.size_toArray,<-hl,all_range]
  have k:∀b o,s.heap.get? b=some o->s'.heap.get? b=some o:=λb o e=>mv.heap b o (λz=>absurd (Heap.lt_size e) (by rw[List.mem_singleton.mp z];exact Nat.lt_irrefl _)) (Heap.get?_push_of_some _ e)
  have I1:Inv X pins σ H { s with heap:=s'.heap,toks:=s.toks }:=I.un (Un.kept k) (I.aY.kept k)
  exact⟨.bl (bs.all id),H,I1.same rfl mv.gens mv.os,rfl,q⟩
end
section
variable {P:Program}{w:World}{κ:Type} [DecidableEq κ] {knd:PySem.KeyKind P w κ} {A:Around} {E:Value->Shared->Prop} {s:Shared} {a b:Addr} {aG JN:List (κ×Value)}
end
section
variable {X:Cx}
def RD(neg:Bool):R2:=λx y H Q=>∃a b,x=.ref a/\y=.ref b/\∃aG,H a=some (.dK aG)/\H b=some (.dK aG)/\(∀kv∈aG,∃c,kv.2=.bl c)/\Q (.bl (!neg)) H
def qZ:V->List V->Hp->VK->Prop:=λx vs H Q=>∃a b,x=.ref a/\vs=[.ref b]/\a≠b/\∃aG,H a=some (.dK aG)/\∃more,H b=some (.dK more)/\aG.length+more.length<=sizeLine/\Q .non (upd H a (.dK (Sv aG more)))
end
section
variable {X:Cx}{pins:List (Addr×Obj)}{s:Shared}{σ:St}{H:Hp}{A:Around}
theorem qx{xs:List V}{us:List Value}{j:Nat}{x:V}(r:Vals xs us)(h:j<us.toArray.size)(e:xs[j]?=some x):RelV x us.toArray[j]:=by
 have h':j<us.length:=by simpa using h
 obtain⟨u,eu,ru⟩:=r.get e
 have:=List.getElem?_eq_getElem h'
 rw[eu]at this
 have e1:us.toArray[j]=u:=by simpa using (Option.some.inj this).symm
 rw[e1];exact ru
end
section
variable {P:Program}{w:World}{A:Around}{E:Value->Shared->Prop}{s:Shared}
theorem yt{T:String}{r d:Addr}{n:Nat}{Pd:Nat->Value->Prop}{OK:Heap->Prop}{Q:List Value->Shared->Prop}(K:PySem.W.KdlSrc P w T r d n Pd OK)(hh:A.handled=none)(aY:OK s.heap)(hn:n<=sizeLine)
  (q:∀(s':Shared) (vs:List Value),(∀b o,s.heap.get? b=some o->s'.heap.get? b=some o)->s.heap.objs.size<=s'.heap.objs.size->s'.gens=s.gens->s'.os=s.os->vs.length=n->(∀(j:Nat) v,vs[j]?=some v->Pd j v)->Q vs s'):wpAny (model P w) A (collect (.ref r)) Q E s:=by
 have lt:=K.there _ aY
 unfold collect
 refine wpAny_bind (wpAny_runValue (codeAny_builtin entry_proto_collect' ?_))
 rw[Around.under_plainId PySem.F.plain_proto_collect _]
 refine wpAny_bind (m:=newList []) (wpAny_newObj_type ?_)
 refine wpAny_pure ⟨plainId_quiet PySem.F.plain_list_iadd _,codeAny_builtin entry_list_iadd' ?_⟩
 rw[Around.under_plainId PySem.F.plain_list_iadd _]
 let L0:Obj:={ cls:=.type "list",data:=.seq ([]:List Value).toArray }
 have k0:∀b o,s.heap.get? b=some o->(s.heap.push L0).get? b=some o:=λb o e=>Heap.get?_push_of_some _ e
 have hL:(s.heap.push L0).get? s.heap.objs.size=some L0:=Heap.get?_push_size _ rfl
 show wpAny _ A.in1 (Builtin.List.listExtendWith (.ref s.heap.objs.size) (.ref r) (.ref s.heap.objs.size)) _ _ { s with heap:=s.heap.push L0 }
 let R0:Result->Shared->Prop:=λr s'=>match r with
  | .ok (.ret v)=>wpAny (model P w) A (match v with
   | .ref a=>do
    let o <-load a
    match o.data with
     | .seq xs _=>pure xs.toList
     | _=>unsupported "internal:collect"
   | _=>unsupported "internal:collect") Q E s'
  | .ok _=>False
  | .error e=>E e s'
 refine PySem.W.kdl_extend (R:=R0) (s:={ s with heap:=s.heap.push L0 }) K hh (K.keep _ _ aY λb _ o e=>k0 b o e) s.heap.objs.size (Nat.ne_of_gt lt.1) (Nat.ne_of_gt lt.2) _ 0 hL (λh' tk acc c hk hS yi=>?_) hn
 refine wpAny_bind (m:=load s.heap.objs.size) (wpAny_load hS (wpAny_pure ?_))
 exact q _ acc.toList (λb o e=>hk b o (Nat.ne_of_lt (Heap.lt_size e)) (k0 b o e)) (Nat.le_of_lt (Heap.lt_size hS)) rfl rfl (by rw[Array.length_toList];exact yi.1) λj v e=>yi.2 j v (by rw[<-Array.getElem?_toList];exact e)
end
section
variable {X:Cx}
end
section
variable {X:Cx}{tg:Expr}
end
section
variable {X:Cx}
end
theorem ie{K:PySem.W.Frag}{a:Addr}{zs:List V}{idx:List Nat}{tt:CB->TT}{te:CB->TE}{σ:St}{Q:VK}{H1:Hp}(Pv:Addr->Nat->List V->Hp->Prop)(h0:∀D,H1 D=none->Pv D 0 [] (upd H1 D (.lst [])))
  (hl:∀D,H1 D=none->∀i ys H,i<=zs.length->Pv D i ys H->H a=some (.tup zs))
  (hs:∀D,H1 D=none->∀i x ys H,zs[i]?=some x->Pv D i ys H->∀(c:CB),tt c (some x::bR σ idx) H λb H4=>if b=true then te c (some x::bR σ idx) H4 λy H5=>H5 D=some (.lst ys)/\ys.length<sizeLine/\Pv D (i+1) (ys++[y]) (upd H5 D (.lst (ys++[y]))) else Pv D (i+1) ys H4)
  (hd:∀D,H1 D=none->∀ys H,Pv D zs.length ys H->Q (.ref D) H):iu (P4 K a) 1 idx (λ_=>dh 0) tt te σ Q H1:=by
 intro D hD
 refine⟨λi m ys H=>m=zs.length-i/\i<=zs.length/\Pv D i ys H,⟨zs.length,by simp,Nat.zero_le _,h0 D hD⟩,?_⟩
 rintro i m ys H ⟨rfl,hi,p⟩
 by_cases fE:i<zs.length
 ·refine .inr ⟨⟨zs,zs[i],bE (hl D hD i ys H hi p),List.getElem?_eq_getElem fE⟩,Pv D (i+1),λoV H' p'=>⟨zs.length-(i+1),by omega,rfl,fE,p'⟩,λc own ho y H' yl=>?_⟩
  obtain⟨e,hy⟩:=yl
  subst e
  have ey:=hy zs (bE (hl D hD i ys H' hi p))
  show(∃dI,dI.length=1/\(own++bR σ idx).set 0 _=dI++bR σ idx)/\tt c ((own++bR σ idx).set 0 _) H' _
  rw[Sd ho]
  exact⟨⟨[_],rfl,rfl⟩,hs D hD i y ys H' ey p c⟩
 ·have e:i=zs.length:=by omega
  subst e
  exact .inl ⟨⟨zs,bE (hl D hD _ ys H hi p),Nat.le_refl _⟩,hd D hD ys H p⟩
section
variable {X:Cx}
def Ry(neg:Bool):R2:=λx y H Q=>∃c d,x=.bl c/\y=.bl d/\Q (.bl (if neg then c != d else c==d)) H
theorem KS{prog:Program}{w:World}{A:Around}{E:Value->Shared->Prop}{s:Shared}{t b:Addr}{ws:List Value}{Q:Value->Shared->Prop}(ht:IsTup s.heap t (([]:List Value)).toArray)(hb:IsTup s.heap b ws.toArray)
  (h1:Q (.ref b) s):wpAny (model prog w) A (binaryOp .Add (.ref t) (.ref b)) Q E s:=by
 obtain⟨⟨cls,dd,data,sl⟩,ho,hc,n,hd⟩:=id ht
 obtain⟨⟨XM,QS,data2,Ed⟩,Lq,Qy,n2,hd2⟩:=id hb
 simp only at hc hd Qy hd2
 subst hc hd Qy hd2
 exact concat_meets ⟨_,ho,rfl⟩ ⟨_,Lq,rfl⟩ noFill_tuple_add seq_tuple_add PySem.F.slot_tuple_add PySem.F.entry_tuple_add (PySem.F.args_tuple_add_2 _ _)
   (tuple_addW0 t b _ ws.toArray n n2 dd QS sl Ed rfl) ⟨ho,Lq,h1⟩
def Bw:R2:=λx y H Q=>∃a b,x=.ref a/\y=.ref b/\∃xs,H a=some (.tup xs)/\∃ys,H b=some (.tup ys)/\xs.length+ys.length<=sizeLine/\
 ∀p H',bD H H'->(∀c,c≠p->H' c=H c)->H' p=some (.tup (xs++ys))->Q (.ref p) H'
theorem rk:lH X (binaryOp .Add) Bw:=by
 intro pins s σ H x y v u Q I rx ry h
 obtain⟨a,b,rfl,rfl,xs,ha,ys,hb,hz,q⟩:=h
 by_cases hx:xs=[]
 ·subst hx
  cases rx;cases ry
  obtain⟨its,r1,p1,_⟩:=I.tuple (bE ha)
  obtain⟨xS,r2,p2,_⟩:=I.tuple (bE hb)
  cases r1
  exact KS p1 p2 ⟨.ref b,H,I,rfl,q b H (bD.refl H) (λ_ _=>rfl) hb⟩
 ·exact N6 pins s σ H _ _ v u Q I rx ry ⟨a,b,xs,ys,rfl,rfl,bE ha,bE hb,hx,hz,λe=>q a H (bD.refl H) (λ_ _=>rfl) (by rw[e,List.append_nil];exact ha),λ_ p hp=>q p _ (λb u e=>by rw[au (av e hp)];exact e) (λc hc=>au hc) ai⟩
def aDr(lo st:Int)(n:Nat):It:=⟨λi _=>i<n,λi H x H'=>H'=H/\x=.int (lo+i*st),λi _=>n<=i⟩
def JR(ta:TA):TI:=λσ H R=>ta σ H λvs H1=>∃i j:Int,vs=[.int i,.int j,.int 2]/\(0<=i/\i<=1000/\-1<=j/\j<=1000)/\R (aDr i 2 ((j-i+1) / 2).toNat) H1
end
end L2
end
section
namespace L2
open PySem PySem.Spec PyProof.Rows Builtin Builtin.Str
section
variable {X:Cx}
end
end L2
end
section
namespace L2
open PySem PySem.W PyProof.Rows
structure Ord(b:Nat->Nat->Bool)(n:Nat):Prop where
 tr:∀i j k,i<n->j<n->k<n->b i j=true->b j k=true->b i k=true
 asy:∀i j,i<n->j<n->b i j=true->b j i=false
 tot:∀i j,i<n->j<n->i≠j->b i j=true\/b j i=true
abbrev sL(p:Array Nat)(i:Nat):Nat:=p.getD i 0
structure qu(p:Array Nat)(n:Nat):Prop where
 perm:p.Perm (List.range n).toArray
theorem qu.size{p:Array Nat}{n:Nat}(h:qu p n):p.size=n:=by rw[h.perm.size_eq];simp
theorem qu.lt{p:Array Nat}{n:Nat}(h:qu p n)(hn:0<n)(i:Nat):sL p i<n:=by
 unfold sL
 rw[Array.getD_eq_getD_getElem?]
 by_cases hi:i<p.size
 ·rw[Array.getElem?_eq_getElem hi]
  have:=(h.perm.mem_iff (a:=p[i])).mp (Array.getElem_mem hi)
  simpa using this
 ·rw[Array.getElem?_eq_none (by lia)]
  exact hn
theorem qu.ne{p:Array Nat}{n:Nat}(h:qu p n){i j:Nat}(hi:i<n)(hj:j<n)(d:i≠j):sL p i≠sL p j:=by
 have nd:p.toList.Nodup:=(Array.perm_iff_toList_perm.mp h.perm).nodup_iff.mpr (by simpa using List.nodup_range)
 have hs:=h.size
 intro e
 unfold sL at e
 rw[Array.getD_eq_getD_getElem?,Array.getD_eq_getD_getElem?,Array.getElem?_eq_getElem (by lia:i<p.size),Array.getElem?_eq_getElem (by lia:j<p.size)]at e
 have e':p.toList[i]'(by simpa using by lia)=p.toList[j]'(by simpa using by lia):=by simpa using e
 exact d ((List.getElem_inj nd).mp e')
def yF(b:Nat->Nat->Bool)(p:Array Nat)(m:Nat):Prop:=∀i,i+1<m->b (sL p i) (sL p (i+1))=true
section
variable {b:Nat->Nat->Bool}{n:Nat}
theorem yF.all(O:Ord b n){p:Array Nat}(h:qu p n)(hn:0<n){m:Nat}(a:yF b p m)(hm:m<=n):∀d i,i+(d+1)<m->b (sL p i) (sL p (i+(d+1)))=true
 | 0,i,hi=>a i hi
 | d+1,i,hi=>O.tr _ _ _ (h.lt hn _) (h.lt hn _) (h.lt hn _) (yF.all O h hn a hm d i (by lia)) (a (i+(d+1)) hi)
theorem yF.lt(O:Ord b n){p:Array Nat}(h:qu p n)(hn:0<n){m:Nat}(a:yF b p m)(hm:m<=n){i j:Nat}(J8:i<j)(hj:j<m):b (sL p i) (sL p j)=true:=by
 have:=yF.all O h hn a hm (j-i-1) i (by lia)
 rwa [show i+(j-i-1+1)=j by lia]at this
end
def QL:Bool->Keyed->Array Keyed->Nat->Nat->Nat->StateT SortSt Sem (Option Nat):=sortPriv% PySem.Builtin.gallop
def mLo:Array Keyed->Array Keyed->StateT SortSt Sem (Array Keyed):=sortPriv% PySem.Builtin.mergeLo
def mHi:Array Keyed->Array Keyed->StateT SortSt Sem (Array Keyed):=sortPriv% PySem.Builtin.mergeHi
abbrev cJ(st:SortSt)(g:Nat):SortSt:=SortSt.mk' (kindOf st) (arrOf st) (pendingOf st) g (failedOf st)
def Ui(lf:Bool)(ky:Keyed)(xs:Array Keyed)(bs i:Nat):StateT SortSt Sem (Option Bool):=do
 let z <-elem' xs (bs+i)
 if lf then lt' z ky else return (<-lt' ky z).map (!·)
theorem T5(lf:Bool)(ky:Keyed)(xs:Array Keyed)(bs m ht:Nat):QL lf ky xs bs m ht=(do
 let mut lst:=0
 let mut of:=1
 let mut l:=0
 let mut h:=0
 let some rgt <-Ui lf ky xs bs ht | return none
 if rgt then
  let mx:=m-ht
  for _ in [0:m] do
   if of>=mx then break
   let some mo <-Ui lf ky xs bs (ht+of) | return none
   if !mo then break
   lst:=of
   of:=2*of+1
  l:=ht+lst+1
  h:=ht+min of mx
 else
  let mx:=ht+1
  for _ in [0:m] do
   if of>=mx then break
   let some fd <-Ui lf ky xs bs (ht-of) | return none
   if fd then break
   lst:=of
   of:=2*of+1
  l:=ht+1-min of mx
  h:=ht-lst
 for _ in [0:m] do
  if l>=h then break
  let c:=l+(h-l) / 2
  let some mo <-Ui lf ky xs bs c | return none
  if mo then l:=c+1 else h:=c
 return some h):=rfl
theorem Sx(a b:Array Keyed):mLo a b=(do
 rule "list.sort.merge-lo"
 let tot:=a.size+b.size
 let fin (o:Array Keyed) (x y:Nat):=o++a.extract x a.size++b.extract y b.size
 let Za (o:Array Keyed) (x y:Nat):=o++b.extract y b.size++a.extract x a.size
 let mut o:Array Keyed:=#[<-elem' b 0]
 let mut x:=0
 let mut y:=1
 if y==b.size then return fin o x y
 if x+1==a.size then return Za o x y
 let mut mg:=gallopOf (<-get)
 for _ in [0:tot] do
  let mut na:=0
  let mut nb:=0
  for _ in [0:tot] do
   let some bw <-lt' (<-elem' b y) (<-elem' a x) | return fin o x y
   if bw then
    o:=o.push (<-elem' b y);y:=y+1;nb:=nb+1;na:=0
    if y==b.size then return fin o x y
    if nb>=mg then break
   else
    o:=o.push (<-elem' a x);x:=x+1;na:=na+1;nb:=0
    if x+1==a.size then return Za o x y
    if na>=mg then break
  rule "list.sort.gallop"
  mg:=mg+1
  for _ in [0:tot] do
   if mg > 1 then mg:=mg-1
   modify λst=>cJ st mg
   let some k <-QL false (<-elem' b y) a x (a.size-x) 0 | return fin o x y
   na:=k
   if k > 0 then
    o:=o++a.extract x (x+k);x:=x+k
    if x+1==a.size then return Za o x y
    if x==a.size then return fin o x y
   o:=o.push (<-elem' b y);y:=y+1
   if y==b.size then return fin o x y
   let some k <-QL true (<-elem' a x) b y (b.size-y) 0 | return fin o x y
   nb:=k
   if k > 0 then
    o:=o++b.extract y (y+k);y:=y+k
    if y==b.size then return fin o x y
   o:=o.push (<-elem' a x);x:=x+1
   if x+1==a.size then return Za o x y
   if na<7&&nb<7 then break
  mg:=mg+1
  modify λst=>cJ st mg
 unsupported "internal:list.sort.merge-bound"):=rfl
theorem Sy(a b:Array Keyed):mHi a b=(do
 rule "list.sort.merge-hi"
 let tot:=a.size+b.size
 let fin (o:Array Keyed) (x y:Nat):=a.extract 0 x++b.extract 0 y++o.reverse
 let ZP (o:Array Keyed) (x y:Nat):=b.extract 0 y++a.extract 0 x++o.reverse
 let mut x:=a.size-1
 let mut y:=b.size
 let mut o:Array Keyed:=#[<-elem' a x]
 if x==0 then return fin o x y
 if y==1 then return ZP o x y
 let mut mg:=gallopOf (<-get)
 for _ in [0:tot] do
  let mut na:=0
  let mut nb:=0
  for _ in [0:tot] do
   let some aw <-lt' (<-elem' b (y-1)) (<-elem' a (x-1)) | return fin o x y
   if aw then
    x:=x-1;o:=o.push (<-elem' a x);na:=na+1;nb:=0
    if x==0 then return fin o x y
    if na>=mg then break
   else
    y:=y-1;o:=o.push (<-elem' b y);nb:=nb+1;na:=0
    if y==1 then return ZP o x y
    if nb>=mg then break
  rule "list.sort.gallop"
  mg:=mg+1
  for _ in [0:tot] do
   if mg > 1 then mg:=mg-1
   modify λst=>cJ st mg
   let some e <-QL false (<-elem' b (y-1)) a 0 x (x-1) | return fin o x y
   let k:=x-e
   na:=k
   if k > 0 then
    o:=o++(a.extract e x).reverse;x:=e
    if x==0 then return fin o x y
   y:=y-1;o:=o.push (<-elem' b y)
   if y==1 then return ZP o x y
   let some e <-QL true (<-elem' a (x-1)) b 0 y (y-1) | return fin o x y
   let k:=y-e
   nb:=k
   if k > 0 then
    o:=o++(b.extract e y).reverse;y:=e
    if y==1 then return ZP o x y
    if y==0 then return fin o x y
   x:=x-1;o:=o.push (<-elem' a x)
   if x==0 then return fin o x y
   if na<7&&nb<7 then break
  mg:=mg+1
  modify λst=>cJ st mg
 unsupported "internal:list.sort.merge-bound"):=rfl
theorem Sz(i:Nat):mergeAt' i=(do
 let st <-get
 let (some (sa,na,pw),some (sb,nb,_)):=((pendingOf st)[i]?,(pendingOf st)[i+1]?) | unsupported "internal:list.sort.pending"
 set (setPending st (((pendingOf st).setIfInBounds i (sa,na+nb,pw)).eraseIdxIfInBounds (i+1)))
 let some k <-QL false (<-elem' (arrOf st) sb) (arrOf st) sa na 0 | return false
 let (sa,na):=(sa+k,na-k)
 if na==0 then return true
 let some nb <-QL true (<-elem' (arrOf st) (sa+na-1)) (arrOf st) sb nb (nb-1) | return false
 if nb==0 then return true
 let x:=(arrOf st).extract sa sb
 let y:=(arrOf st).extract sb (sb+nb)
 let mgd <-if na<=nb then mLo x y else mHi x y
 modify λst=>setArr st (mgd.toList.zipIdx.foldl (λa (p,j)=>a.setIfInBounds (sa+j) p) (arrOf st))
 return (failedOf (<-get)).isNone):=rfl
section
variable {prog:Program}{w:World}{A:Around}{E:Value->Shared->Prop}{s:Shared}{κ:SortKind}{r:Keyed->Int}{U:Keyed->Prop}
def U9(prog:Program)(w:World)(A:Around)(s:Shared)(κ:SortKind)(r:Keyed->Int)(U:Keyed->Prop):Prop:=
 ∀x y (Q:Bool->Shared->Prop),U x->U y->Q (decide (r x<r y)) s->wpAny (model prog w) A (keyLt' κ x.1 y.1) Q (λ_ _=>False) s
theorem Ht(C:U9 prog w A s κ r U){x y:Keyed}{Q:Option Bool->SortSt->Prop}{st:SortSt}(hx:U x)(hy:U y)(hk:kindOf st=κ)(h:Q (some (decide (r x<r y))) st):wpS (model prog w) A E s (lt' x y) Q st:=by
 rw[lt'_eq]
 refine wpS_bind (wpS_get ?_)
 rw[hk]
 refine wpS_bind (wpS_lift (wpAny_attempt (wpAny_mono (C x y (λb s'=>s'=s/\b=decide (r x<r y)) hx hy ⟨rfl,rfl⟩) (λb s' h'=>?_) λ_ _ hF=>hF.elim)))
 obtain⟨rfl,rfl⟩:=h'
 exact⟨rfl,wpS_pure h⟩
theorem cE{xs:Array Keyed}{i:Nat}{Q:Keyed->SortSt->Prop}{st:SortSt}(hi:i<xs.size)(h:Q xs[i] st):wpS (model prog w) A E s (elem' xs i) Q st:=by
 rw[elem'_eq,Array.getElem?_eq_getElem hi]
 exact wpS_pure h
def isA(r:Keyed->Int)(lf:Bool)(ky z:Keyed):Bool:=if lf then decide (r z<r ky) else decide (r z<=r ky)
theorem VJ(C:U9 prog w A s κ r U){lf:Bool}{ky:Keyed}{xs:Array Keyed}{bs i:Nat}{Q:Option Bool->SortSt->Prop}{st:SortSt}(hi:bs+i<xs.size)(hU:∀z∈xs,U z)(hy:U ky)(hk:kindOf st=κ)(h:Q (some (isA r lf ky xs[bs+i])) st) :
  wpS (model prog w) A E s (Ui lf ky xs bs i) Q st:=by
 unfold Ui
 refine wpS_bind (cE hi ?_)
 have hu:=hU _ (Array.getElem_mem hi)
 unfold isA at h
 cases lf with
 | true=>exact Ht C hu hy hk h
 | false=>
  simp only[Bool.false_eq_true,if_false]at h ⊢
  refine wpS_bind (Ht C hy hu hk (wpS_pure ?_))
  have e:(!decide (r ky<r xs[bs+i]))=decide (r xs[bs+i]<=r ky):=by
   rw[Bool.eq_iff_iff];simp
  show Q (some (!decide (r ky<r xs[bs+i]))) st
  rw[e];exact h
theorem uk(C:U9 prog w A s κ r U){lf:Bool}{ky:Keyed}{xs:Array Keyed}{bs m ht:Nat}{Q:Option Nat->SortSt->Prop}{st:SortSt}(hm:bs+m<=xs.size)(hh:ht<m)(hU:∀z∈xs,U z)(hy:U ky)(hk:kindOf st=κ)
  (srt:∀i j (h1:i<=j) (h2:bs+j<xs.size),j<m->r (xs[bs+i]'(by lia))<=r xs[bs+j])
  (h:∀k,k<=m->(∀i,i<k->∀(h2:bs+i<xs.size),isA r lf ky xs[bs+i]=true)->(∀i,k<=i->i<m->∀(h2:bs+i<xs.size),isA r lf ky xs[bs+i]=false)->Q (some k) st) :
  wpS (model prog w) A E s (QL lf ky xs bs m ht) Q st:=by
 obtain⟨f,hf⟩:∃f:Nat->Bool,∀i (h2:bs+i<xs.size),isA r lf ky xs[bs+i]=f i:=⟨λi=>if h2:bs+i<xs.size then isA r lf ky xs[bs+i] else false,λi h2=>by dsimp only;rw[dif_pos h2]⟩
 have mono:∀i j,i<=j->j<m->f j=true->f i=true:=λi j J8 hj e=>by
  have h2:bs+j<xs.size:=by lia
  rw[<-hf j h2]at e
  rw[<-hf i (by lia)]
  have:=srt i j J8 h2 hj
  unfold isA at e ⊢
  cases lf <;> simp at e ⊢ <;> lia
 have BZ:∀i j,i<=j->j<m->f i=false->f j=false:=λi j J8 hj e=>by
  cases e':f j with
  | false=>rfl
  | true=>rw[mono i j J8 hj e']at e;cases e
 have h':∀k,k<=m->(∀i,i<k->f i=true)->(∀i,k<=i->i<m->f i=false)->Q (some k) st:=λk hk1 h1 h2=>
  h k hk1 (λi hi hb=>by rw[hf];exact h1 i hi) (λi hi O0 hb=>by rw[hf];exact h2 i hi O0)
 have ask:∀i (Q':Option Bool->SortSt->Prop),i<m->Q' (some (f i)) st->wpS (model prog w) A E s (Ui lf ky xs bs i) Q' st:=λi Q' hi q=>by
  have h2:bs+i<xs.size:=by lia
  exact VJ C h2 hU hy hk (by rw[hf i h2];exact q)
 rw[T5]
 refine wpS_bind (ask ht _ hh ?_)
 cases hr:f ht with
 | true=>
  simp only[if_true]
  refine wpS_bind (wpS_mono (wpS_forRange (I:=λx c bf=>bf=st/\∃la of,c=(none,la,of)/\la<of/\ht+la<m/\x+1<=of/\f (ht+la)=true)
   (Q:=λc bf=>bf=st/\∃la of,c=(none,la,of)/\la<of/\ht+la<m/\f (ht+la)=true/\(of>=m-ht\/f (ht+of)=false)) ?step ?fin ⟨rfl,0,1,rfl,by lia,by lia,by lia,hr⟩) ?post)
  case post=>
   intro c σ0 fi
   refine hide λgG hG=>?_
   obtain⟨rfl,la,of,rfl,a1,a2,a3,a4⟩:=fi
   refine hG ?_
   have tI:ht+la+1<=ht+min of (m-ht):=by lia
   have Cq:ht+min of (m-ht)<=m:=by lia
   have Cp:∀i,i<ht+la+1->f i=true:=λi hi=>mono i _ (by lia) a2 a3
   have Qs:∀i,ht+min of (m-ht)<=i->i<m->f i=false:=λi hi O0=>a4.elim (λa4=>by lia) λa4=>BZ _ i (by lia) O0 a4
   dsimp only
   generalize ht+la+1=l0 at tI Cp ⊢
   generalize ht+min of (m-ht)=h0 at tI Cq Qs ⊢
   refine wpS_bind (wpS_mono (wpS_forRange (I:=λx c bf=>bf=σ0/\∃l hI,c=(none,l,hI)/\l<=hI/\hI<=m/\hI-l<=m-x/\(∀i,i<l->f i=true)/\(∀i,hI<=i->i<m->f i=false))
    (Q:=λc bf=>bf=σ0/\∃hI l,c=(none,l,hI)/\hI<=m/\(∀i,i<hI->f i=true)/\(∀i,hI<=i->i<m->f i=false)) ?bstep ?bfin ⟨rfl,l0,h0,rfl,tI,Cq,by lia,Cp,Qs⟩) ?bpost)
   case bpost=>
    intro c bf fi
    refine hide λgG hG=>?_
    obtain⟨rfl,hI,l,rfl,a1,a2,a3⟩:=fi
    refine hG ?_
    exact wpS_pure (h' hI a1 a2 a3)
   case bfin=>
    intro c bf fi
    refine hide λgG hG=>?_
    obtain⟨rfl,l,hI,rfl,a1,a2,a3,a4,a5⟩:=fi
    refine hG ?_
    have:l=hI:=by lia
    subst this
    exact⟨rfl,l,l,rfl,a2,a4,a5⟩
   case bstep=>
    intro x c bf _ hx rL
    refine hide λgG hG=>?_
    obtain⟨rfl,l,hI,rfl,a1,a2,a3,a4,a5⟩:=rL
    refine hG ?_
    dsimp only
    by_cases p6:l>=hI
    ·rw[if_pos p6]
     have:l=hI:=by lia
     subst this
     exact wpS_pure ⟨rfl,l,l,rfl,a2,a4,a5⟩
    ·rw[if_neg p6]
     refine wpS_bind (ask _ _ (by lia) ?_)
     cases hc:f (l+(hI-l) / 2) with
     | true=>
      simp only[if_true]
      exact wpS_pure ⟨rfl,_,_,rfl,by lia,by lia,by lia,λi hi=>mono i _ (by lia) (by lia) hc,a5⟩
     | false=>
      simp only[Bool.false_eq_true,if_false]
      exact wpS_pure ⟨rfl,_,_,rfl,by lia,by lia,by lia,a4,λi hi O0=>BZ _ i hi O0 hc⟩
  case fin=>
   intro c bf fi
   refine hide λgG hG=>?_
   obtain⟨rfl,la,of,rfl,a1,a2,a3,a4⟩:=fi
   refine hG ?_
   exact⟨rfl,la,of,rfl,a1,a2,a4,.inl (by lia)⟩
  case step=>
   intro x c bf _ hx rL
   refine hide λgG hG=>?_
   obtain⟨rfl,la,of,rfl,a1,a2,a3,a4⟩:=rL
   refine hG ?_
   dsimp only
   by_cases p6:of>=m-ht
   ·rw[if_pos p6]
    exact wpS_pure ⟨rfl,la,of,rfl,a1,a2,a4,.inl p6⟩
   ·rw[if_neg p6]
    refine wpS_bind (ask _ _ (by lia) ?_)
    cases hc:f (ht+of) with
    | true=>
     simp only[Bool.not_true,Bool.false_eq_true,if_false]
     exact wpS_pure ⟨rfl,of,_,rfl,by lia,by lia,by lia,hc⟩
    | false=>
     simp only[Bool.not_false,if_true]
     exact wpS_pure ⟨rfl,la,of,rfl,a1,a2,a4,.inr hc⟩
 | false=>
  simp only[Bool.false_eq_true,if_false]
  refine wpS_bind (wpS_mono (wpS_forRange (I:=λx c bf=>bf=st/\∃la of,c=(none,la,of)/\la<of/\la<=ht/\x+1<=of/\f (ht-la)=false)
   (Q:=λc bf=>bf=st/\∃la of,c=(none,la,of)/\la<of/\la<=ht/\f (ht-la)=false/\(of>=ht+1\/f (ht-of)=true)) ?step ?fin ⟨rfl,0,1,rfl,by lia,by lia,by lia,hr⟩) ?post)
  case post=>
   intro c σ0 fi
   refine hide λgG hG=>?_
   obtain⟨rfl,la,of,rfl,a1,a2,a3,a4⟩:=fi
   refine hG ?_
   have tI:ht+1-min of (ht+1)<=ht-la:=by lia
   have Cq:ht-la<=m:=by lia
   have Cp:∀i,i<ht+1-min of (ht+1)->f i=true:=λi hi=>a4.elim (λa4=>by lia) λa4=>mono i _ (by lia) (by lia) a4
   have Qs:∀i,ht-la<=i->i<m->f i=false:=λi hi O0=>BZ _ i hi O0 a3
   dsimp only
   generalize ht+1-min of (ht+1)=l0 at tI Cp ⊢
   generalize ht-la=h0 at tI Cq Qs ⊢
   refine wpS_bind (wpS_mono (wpS_forRange (I:=λx c bf=>bf=σ0/\∃l hI,c=(none,l,hI)/\l<=hI/\hI<=m/\hI-l<=m-x/\(∀i,i<l->f i=true)/\(∀i,hI<=i->i<m->f i=false))
    (Q:=λc bf=>bf=σ0/\∃hI l,c=(none,l,hI)/\hI<=m/\(∀i,i<hI->f i=true)/\(∀i,hI<=i->i<m->f i=false)) ?bstep ?bfin ⟨rfl,l0,h0,rfl,tI,Cq,by lia,Cp,Qs⟩) ?bpost)
   case bpost=>
    intro c bf fi
    refine hide λgG hG=>?_
    obtain⟨rfl,hI,l,rfl,a1,a2,a3⟩:=fi
    refine hG ?_
    exact wpS_pure (h' hI a1 a2 a3)
   case bfin=>
    intro c bf fi
    refine hide λgG hG=>?_
    obtain⟨rfl,l,hI,rfl,a1,a2,a3,a4,a5⟩:=fi
    refine hG ?_
    have:l=hI:=by lia
    subst this
    exact⟨rfl,l,l,rfl,a2,a4,a5⟩
   case bstep=>
    intro x c bf _ hx rL
    refine hide λgG hG=>?_
    obtain⟨rfl,l,hI,rfl,a1,a2,a3,a4,a5⟩:=rL
    refine hG ?_
    dsimp only
    by_cases p6:l>=hI
    ·rw[if_pos p6]
     have:l=hI:=by lia
     subst this
     exact wpS_pure ⟨rfl,l,l,rfl,a2,a4,a5⟩
    ·rw[if_neg p6]
     refine wpS_bind (ask _ _ (by lia) ?_)
     cases hc:f (l+(hI-l) / 2) with
     | true=>
      simp only[if_true]
      exact wpS_pure ⟨rfl,_,_,rfl,by lia,by lia,by lia,λi hi=>mono i _ (by lia) (by lia) hc,a5⟩
     | false=>
      simp only[Bool.false_eq_true,if_false]
      exact wpS_pure ⟨rfl,_,_,rfl,by lia,by lia,by lia,a4,λi hi O0=>BZ _ i hi O0 hc⟩
  case fin=>
   intro c bf fi
   refine hide λgG hG=>?_
   obtain⟨rfl,la,of,rfl,a1,a2,a3,a4⟩:=fi
   refine hG ?_
   exact⟨rfl,la,of,rfl,a1,a2,a4,.inl (by lia)⟩
  case step=>
   intro x c bf _ hx rL
   refine hide λgG hG=>?_
   obtain⟨rfl,la,of,rfl,a1,a2,a3,a4⟩:=rL
   refine hG ?_
   dsimp only
   by_cases p6:of>=ht+1
   ·rw[if_pos p6]
    exact wpS_pure ⟨rfl,la,of,rfl,a1,a2,a4,.inl p6⟩
   ·rw[if_neg p6]
    refine wpS_bind (ask _ _ (by lia) ?_)
    cases hc:f (ht-of) with
    | true=>
     simp only[if_true]
     exact wpS_pure ⟨rfl,la,of,rfl,a1,a2,a4,.inr hc⟩
    | false=>
     simp only[Bool.false_eq_true,if_false]
     exact wpS_pure ⟨rfl,of,_,rfl,by lia,by lia,by lia,hc⟩
end
theorem aD{M:Model}{A:Around}{E:Value->Shared->Prop}{s:Shared}{σ α:Type}{c:Prop} [Decidable c] {m n:StateT σ Sem α} {Q:α->σ->Prop} {st:σ} (h1:c->wpS M A E s m Q st) (h2:¬c->wpS M A E s n Q st):wpS M A E s (if c then m else n) Q st:=by
 by_cases h:c
 ·rw[if_pos h];exact h1 h
 ·rw[if_neg h];exact h2 h
theorem vt{α:Type}{P R:α->Nat->Prop}{G:Prop}(k:(∀o x,R o x->P o x)->G)(h:∀o x,R o x->P o x):G:=k h
theorem share{P:Nat->Prop}{G:Prop}(k:(∀g,P g)->G)(h:∀g,P g):G:=k h
def gY(r:Keyed->Int)(l:List Keyed):Prop:=l.Pairwise λx y=>r x<=r y
structure MI(r:Keyed->Int)(tot o ra rb:List Keyed):Prop where
 perm:(o++(ra++rb)).Perm tot
 so:gY r o
 sa:gY r ra
 sb:gY r rb
 la:∀u∈o,∀v∈ra,r u<=r v
 lb:∀u∈o,∀v∈rb,r u<=r v
section
variable {r:Keyed->Int}{tot o ra rb p:List Keyed}
theorem MI.t8(h:MI r tot o (p++ra) rb)(hp:∀u∈p,∀v∈rb,r u<=r v):MI r tot (o++p) ra rb:=by
 have sa:=List.pairwise_append.mp h.sa
 refine⟨by simpa [List.append_assoc]using h.perm,List.pairwise_append.mpr ⟨h.so,sa.1,λu hu v hv=>h.la u hu v (List.mem_append_left _ hv)⟩,sa.2.1,h.sb,λu hu v hv=>?_,λu hu v hv=>?_⟩
 ·rcases List.mem_append.mp hu with hu | hu
  ·exact h.la u hu v (List.mem_append_right _ hv)
  ·exact sa.2.2 u hu v hv
 ·rcases List.mem_append.mp hu with hu | hu
  ·exact h.lb u hu v hv
  ·exact hp u hu v hv
theorem MI.t7(h:MI r tot o ra (p++rb))(hp:∀u∈p,∀v∈ra,r u<=r v):MI r tot (o++p) ra rb:=by
 have sb:=List.pairwise_append.mp h.sb
 refine⟨?_,List.pairwise_append.mpr ⟨h.so,sb.1,λu hu v hv=>h.lb u hu v (List.mem_append_left _ hv)⟩,h.sa,sb.2.1,λu hu v hv=>?_,λu hu v hv=>?_⟩
 ·refine List.Perm.trans ?_ h.perm
  rw[List.append_assoc]
  refine List.Perm.append_left o ?_
  rw[<-List.append_assoc,<-List.append_assoc]
  exact List.Perm.append_right rb List.perm_append_comm
 ·rcases List.mem_append.mp hu with hu | hu
  ·exact h.la u hu v hv
  ·exact hp u hu v hv
 ·rcases List.mem_append.mp hu with hu | hu
  ·exact h.lb u hu v (List.mem_append_right _ hv)
  ·exact sb.2.2 u hu v hv
theorem MI.Ph(h:MI r tot o ra []):(o++ra).Perm tot/\gY r (o++ra):=⟨by simpa using h.perm,List.pairwise_append.mpr ⟨h.so,h.sa,h.la⟩⟩
theorem MI.Pg(h:MI r tot o [] rb):(o++rb).Perm tot/\gY r (o++rb):=⟨by simpa using h.perm,List.pairwise_append.mpr ⟨h.so,h.sb,h.lb⟩⟩
theorem MI.aCv{z:Keyed}(h:MI r tot o [z] rb)(hz:∀v∈rb,r v<=r z):(o++rb++[z]).Perm tot/\gY r (o++rb++[z]):=by
 have h':=(MI.t7 (p:=rb) (rb:=[]) (by simpa using h) λu hu v hv=>by rw[List.mem_singleton.mp hv];exact hz u hu).Ph
 exact h'
end
section
variable {r:Keyed->Int}{a b o:Array Keyed}{x y k:Nat}
abbrev tot(a b:Array Keyed):List Keyed:=a.toList++b.toList
def Good(r:Keyed->Int)(a b R:Array Keyed):Prop:=R.toList.Perm (tot a b)/\gY r R.toList
abbrev wH(r:Keyed->Int)(a b o:Array Keyed)(x y:Nat):Prop:=MI r (tot a b) o.toList (a.toList.drop x) (b.toList.drop y)
theorem fW(a:Array Keyed)(x n:Nat):(a.extract x n).toList=(a.toList.drop x).take (n-x):=by
 rw[Array.toList_extract]
theorem qJ(a:Array Keyed)(x:Nat):(a.extract x a.size).toList=a.toList.drop x:=by
 rw[fW,<-Array.length_toList,<-List.length_drop]
 exact List.take_length
theorem yk(l:List Keyed)(x k:Nat):l.drop x=(l.drop x).take k++l.drop (x+k):=by
 rw[<-List.drop_drop];exact(List.take_append_drop k _).symm
theorem drop_one(a:Array Keyed){x:Nat}(h:x<a.size):a.toList.drop x=[a[x]]++a.toList.drop (x+1):=by
 rw[List.drop_eq_getElem_cons (by simpa using h)];simp
theorem hV{a:Array Keyed}{x:Nat}{v:Keyed}(h:v∈a.toList.drop x):∃i,∃(hi:x+i<a.size),v=a[x+i]:=by
 obtain⟨i,hi,e⟩:=List.mem_iff_getElem.mp h
 rw[List.length_drop,Array.length_toList]at hi
 refine⟨i,by lia,?_⟩
 rw[<-e];simp
theorem fV{a:Array Keyed}{x k:Nat}{v:Keyed}(h:v∈(a.toList.drop x).take k):∃i,∃(hi:x+i<a.size),i<k/\v=a[x+i]:=by
 obtain⟨i,hi,e⟩:=List.mem_iff_getElem.mp h
 rw[List.length_take,List.length_drop,Array.length_toList]at hi
 refine⟨i,by lia,by lia,?_⟩
 rw[<-e];simp
theorem fq{a:Array Keyed}(s:gY r a.toList){i j:Nat}(J8:i<=j)(hj:j<a.size):r (a[i]'(by lia))<=r a[j]:=by
 rcases Nat.lt_or_eq_of_le J8 with h | h
 ·have:=(List.pairwise_iff_getElem.mp s) i j (by simpa using by lia) (by simpa using hj) h
  simpa using this
 ·subst h;exact Int.le_refl _
theorem MI.uq(h:wH r a b o x y)(hy:y<b.size)(hx:∀i,x<=i->∀(hi:i<a.size),r b[y]<=r a[i]):wH r a b (o.push b[y]) x (y+1):=by
 have h':MI r (tot a b) o.toList (a.toList.drop x) ([b[y]]++b.toList.drop (y+1)):=by rw[<-drop_one b hy];exact h
 have:=h'.t7 λu hu v hv=>by
  obtain⟨i,hi,rfl⟩:=hV hv
  rw[List.mem_singleton.mp hu]
  exact hx _ (by lia) hi
 show MI r (tot a b) (o.push b[y]).toList _ _
 rw[Array.toList_push];exact this
theorem MI.ur(h:wH r a b o x y)(hx:x<a.size)(hy:∀i,y<=i->∀(hi:i<b.size),r a[x]<=r b[i]):wH r a b (o.push a[x]) (x+1) y:=by
 have h':MI r (tot a b) o.toList ([a[x]]++a.toList.drop (x+1)) (b.toList.drop y):=by rw[<-drop_one a hx];exact h
 have:=h'.t8 λu hu v hv=>by
  obtain⟨i,hi,rfl⟩:=hV hv
  rw[List.mem_singleton.mp hu]
  exact hy _ (by lia) hi
 show MI r (tot a b) (o.push a[x]).toList _ _
 rw[Array.toList_push];exact this
theorem MI.JD(h:wH r a b o x y)(hp:∀i,i<k->∀(hi:x+i<a.size) j,y<=j->∀(hj:j<b.size),r a[x+i]<=r b[j]):wH r a b (o++a.extract x (x+k)) (x+k) y:=by
 have h':MI r (tot a b) o.toList ((a.toList.drop x).take k++a.toList.drop (x+k)) (b.toList.drop y):=by rw[<-yk];exact h
 have:=h'.t8 λu hu v hv=>by
  refine hide λgG hG=>?_
  obtain⟨i,hi,hk,rfl⟩:=fV hu
  obtain⟨j,hj,rfl⟩:=hV hv
  refine hG ?_
  exact hp i hk hi _ (by lia) hj
 show MI r (tot a b) (o++a.extract x (x+k)).toList _ _
 rw[Array.toList_append,fW,Nat.add_sub_cancel_left]
 exact this
theorem MI.JC(h:wH r a b o x y)(hp:∀i,i<k->∀(hi:y+i<b.size) j,x<=j->∀(hj:j<a.size),r b[y+i]<=r a[j]):wH r a b (o++b.extract y (y+k)) x (y+k):=by
 have h':MI r (tot a b) o.toList (a.toList.drop x) ((b.toList.drop y).take k++b.toList.drop (y+k)):=by rw[<-yk];exact h
 have:=h'.t7 λu hu v hv=>by
  refine hide λgG hG=>?_
  obtain⟨i,hi,hk,rfl⟩:=fV hu
  obtain⟨j,hj,rfl⟩:=hV hv
  refine hG ?_
  exact hp i hk hi _ (by lia) hj
 show MI r (tot a b) (o++b.extract y (y+k)).toList _ _
 rw[Array.toList_append,fW,Nat.add_sub_cancel_left]
 exact this
theorem MI.fin(h:wH r a b o x y)(e:y=b.size\/x=a.size):Good r a b (o++a.extract x a.size++b.extract y b.size):=by
 unfold Good
 rw[Array.toList_append,Array.toList_append,qJ,qJ]
 rcases e with e | e
 ·have z:b.toList.drop y=[]:=List.drop_eq_nil_of_le (by simp[e])
  have h':MI r (tot a b) o.toList (a.toList.drop x) []:=by rw[<-z];exact h
  rw[z,List.append_nil];exact h'.Ph
 ·have z:a.toList.drop x=[]:=List.drop_eq_nil_of_le (by simp[e])
  have h':MI r (tot a b) o.toList [] (b.toList.drop y):=by rw[<-z];exact h
  rw[z,List.append_nil];exact h'.Pg
theorem MI.Oi(h:wH r a b o x y)(e:x+1=a.size)(hl:∀v∈b,r v<=r (a[a.size-1]'(by lia))):Good r a b (o++b.extract y b.size++a.extract x a.size):=by
 unfold Good
 rw[Array.toList_append,Array.toList_append,qJ,qJ]
 have z:a.toList.drop x=[a[a.size-1]'(by lia)]:=by
  rw[drop_one a (by lia),List.drop_eq_nil_of_le (by simp;lia)]
  simp only[List.append_nil]
  congr 2
  lia
 have h':MI r (tot a b) o.toList [a[a.size-1]'(by lia)] (b.toList.drop y):=by rw[<-z];exact h
 rw[z]
 exact h'.aCv λv hv=>hl v (by simpa using List.mem_of_mem_drop hv)
end
section
variable {prog:Program}{w:World}{A:Around}{E:Value->Shared->Prop}{s:Shared}{κ:SortKind}{r:Keyed->Int}{U:Keyed->Prop}
theorem VF(C:U9 prog w A s κ r U){a b:Array Keyed}{Q:Array Keyed->SortSt->Prop}{st:SortSt}(hk:kindOf st=κ)(ha:∀z∈a,U z)(hb:∀z∈b,U z)(sa:gY r a.toList)(sb:gY r b.toList)(na:0<a.size)(nb:0<b.size)
  (h0:r b[0]<=r a[0]) (hl:∀v∈b,r v<=r (a[a.size-1]'(by lia))) (h:∀R g,Good r a b R->Q R (cJ st g)):wpS (model prog w) A E s (mLo a b) Q st:=by
 rw[Sx]
 refine wpS_bind (wpS_lift (wpAny_rule ⟨rfl,?_⟩))
 refine wpS_bind (cE nb ?_)
 try dsimp only
 have M0:wH r a b #[b[0]] 0 1:=MI.uq (o:=#[]) (x:=0) (y:=0) ⟨by simp,List.Pairwise.nil,by simpa using sa,by simpa using sb,by simp,by simp⟩ nb λi _ hi=>by
  have:=fq sa (Nat.zero_le i) hi
  lia
 refine aD (λhz=>?_) (λhz=>?_)
 ·exact wpS_pure (h _ (gallopOf st) (M0.fin (.inl (by simpa using hz))))
 have Qm:=hz
 refine aD (λhz=>?_) (λhz=>?_)
 ·exact wpS_pure (h _ (gallopOf st) (M0.Oi (by simpa using hz) hl))
 have tG:=hz
 have Te:1≠b.size:=by simpa using Qm
 have JV:0+1≠a.size:=by simpa using tG
 clear h0 hz Qm tG
 refine wpS_bind (wpS_get ?_)
 refine wpS_bind (wpS_mono (wpS_forRange (I:=λn c bf=>(∃g,bf=cJ st g)/\∃o x y mg,c=(none,o,x,y,mg)/\x+1<a.size/\y<b.size/\wH r a b o x y/\n+1<=x+y)
  (Q:=λc bf=>(∃g,bf=cJ st g)/\∃R,c.1=some R/\Good r a b R) ?step ?fin ⟨⟨gallopOf st,rfl⟩,_,_,_,_,rfl,by lia,by lia,M0,by lia⟩) ?post)
 case post=>
  intro Kg bf fi
  refine hide λgG hG=>?_
  obtain⟨c1,c⟩:=Kg
  obtain⟨⟨g,rfl⟩,R,rfl,hR⟩:=fi
  refine hG ?_
  exact wpS_pure (h R g hR)
 case fin=>
  intro c bf fi
  refine hide λgG hG=>?_
  obtain⟨_,o,x,y,mg,rfl,hx,hy,M,hn⟩:=fi
  refine hG ?_
  lia
 case step=>
  clear Te JV M0 h
  intro n c bf _ hn rL
  refine hide λgG hG=>?_
  obtain⟨⟨g,rfl⟩,o,x,y,mg,rfl,hx,hy,M,z4⟩:=rL
  refine hG ?_
  try dsimp only
  refine wpS_bind (wpS_mono (wpS_forRange (I:=λn1 d bf=>(∃g,bf=cJ st g)/\∃o' x' y' p q,d=(none,o',x',y',p,q)/\x'+1<a.size/\y'<b.size/\wH r a b o' x' y'/\x+y+n1<=x'+y')
   (Q:=λd bf=>(∃g,bf=cJ st g)/\match d.1 with | some R=>Good r a b R | none=>d.2.2.1+1<a.size/\d.2.2.2.1<b.size/\wH r a b d.2.1 d.2.2.1 d.2.2.2.1/\n+2<=d.2.2.1+d.2.2.2.1) ?step1 ?fin1 ⟨⟨g,rfl⟩,o,x,y,0,0,rfl,hx,hy,M,by lia⟩) ?post1)
  case fin1=>
   intro d bf fi
   refine hide λgG hG=>?_
   obtain⟨hg,o',x',y',p,q,rfl,qG,vY,M',uL⟩:=fi
   refine hG ?_
   exact⟨hg,qG,vY,M',by simp only;lia⟩
  case step1=>
   clear hx hy M hn
   intro n1 d bf _ qI rL
   refine hide λgG hG=>?_
   obtain⟨⟨g,rfl⟩,o,x,y,p,q,rfl,hx,hy,M,uL⟩:=rL
   refine hG ?_
   try dsimp only
   refine wpS_bind (cE hy ?_)
   refine wpS_bind (cE (by lia) ?_)
   refine wpS_bind (Ht C (hb _ (Array.getElem_mem _)) (ha _ (Array.getElem_mem _)) hk ?_)
   try dsimp only
   by_cases hc:r b[y]<r a[x]
   ·rw[if_pos (by simpa using hc)]
    refine wpS_bind (cE hy ?_)
    try dsimp only
    have MB:=MI.uq M hy λi hi h2=>by
     have:=fq sa hi h2
     lia
    refine aD (λhz=>?_) (λhz=>?_)
    ·exact wpS_pure ⟨⟨_,rfl⟩,MB.fin (.inl (by simpa using hz))⟩
    have Fn:y+1≠b.size:=by simpa using hz
    refine aD (λhz=>?_) (λhz=>?_)
    ·exact wpS_pure ⟨⟨_,rfl⟩,hx,(by simp only;lia),MB,by simp only;lia⟩
    ·exact wpS_pure ⟨⟨_,rfl⟩,_,_,_,_,_,rfl,hx,by lia,MB,by lia⟩
   ·rw[if_neg (by simpa using hc)]
    refine wpS_bind (cE (by lia) ?_)
    try dsimp only
    have MB:=MI.ur M (by lia) λi hi h2=>by
     have:=fq sb hi h2
     lia
    refine aD (λhz=>?_) (λhz=>?_)
    ·exact wpS_pure ⟨⟨_,rfl⟩,MB.Oi (by simpa using hz) hl⟩
    have Fn:x+1+1≠a.size:=by simpa using hz
    refine aD (λhz=>?_) (λhz=>?_)
    ·exact wpS_pure ⟨⟨_,rfl⟩,(by simp only;lia),hy,MB,by simp only;lia⟩
    ·exact wpS_pure ⟨⟨_,rfl⟩,_,_,_,_,_,rfl,by lia,hy,MB,by lia⟩
  case post1=>
   intro Kg bf fi
   refine hide λgG hG=>?_
   obtain⟨d1,o1,x1,y1,p1,q1⟩:=Kg
   obtain⟨⟨g,rfl⟩,hd⟩:=fi
   refine hG ?_
   dsimp only at hd ⊢
   cases d1 with
   | some R=>exact wpS_pure ⟨⟨_,rfl⟩,R,rfl,hd⟩
   | none=>
    refine hide λgG hG=>?_
    obtain⟨vZ,JW,M1,qI⟩:=hd
    refine hG ?_
    clear hx hy M z4 hn
    try dsimp only
    refine wpS_bind (wpS_lift (wpAny_rule ⟨rfl,?_⟩))
    refine wpS_bind (wpS_mono (wpS_forRange (I:=λ_ e bf=>(∃g,bf=cJ st g)/\∃o' x' y' m' p q,e=(none,o',x',y',m',p,q)/\x'+1<a.size/\y'<b.size/\wH r a b o' x' y'/\n+2<=x'+y')
     (Q:=λe bf=>(∃g,bf=cJ st g)/\match e.1 with | some R=>Good r a b R | none=>e.2.2.1+1<a.size/\e.2.2.2.1<b.size/\wH r a b e.2.1 e.2.2.1 e.2.2.2.1/\n+2<=e.2.2.1+e.2.2.2.1) ?step2 ?fin2 ⟨⟨_,rfl⟩,_,_,_,_,_,_,rfl,vZ,JW,M1,qI⟩) ?post2)
    case fin2=>
     intro e bf fi
     refine hide λgG hG=>?_
     obtain⟨hg,o',x',y',m',p,q,rfl,qG,vY,M',uL⟩:=fi
     refine hG ?_
     exact⟨hg,qG,vY,M',uL⟩
    case post2=>
     intro Kg bf fi
     refine hide λgG hG=>?_
     obtain⟨e1,o2,x2,y2,m2,p2,q2⟩:=Kg
     obtain⟨⟨g,rfl⟩,he⟩:=fi
     refine hG ?_
     dsimp only at he ⊢
     cases e1 with
     | some R=>exact wpS_pure ⟨⟨_,rfl⟩,R,rfl,he⟩
     | none=>
      refine hide λgG hG=>?_
      obtain⟨Gp,Qn,M2,Gr⟩:=he
      refine hG ?_
      refine wpS_bind (wpS_modify (wpS_pure ⟨⟨_,rfl⟩,_,_,_,_,rfl,Gp,Qn,M2,by lia⟩))
    case step2=>
     clear vZ JW M1 qI
     intro n2 e bf _ Gr rL
     refine hide λgG hG=>?_
     obtain⟨⟨g,rfl⟩,o,x,y,m',p,q,rfl,hx,hy,M,uL⟩:=rL
     refine hG ?_
     try dsimp only
     refine' share (P:=_) (λH=>aD (λhm=>?A) (λhm=>?B)) ?_
     case A=>generalize m'-1=gg;revert gg;exact H
     case B=>clear hm;generalize m'=gg;revert gg;exact H
     intro gg
     try dsimp only
     refine wpS_bind (wpS_modify ?_)
     refine wpS_bind (cE hy ?_)
     refine wpS_bind (uk C (by lia) (by lia) ha (hb _ (Array.getElem_mem _)) hk (λi j h1 h2 _=>fq sa (by lia) h2) λk l1 l2 l3=>?_)
     try dsimp only
     replace l1:x+k<=a.size:=by lia
     have JM:∀i,i<k->∀(h2:x+i<a.size),r a[x+i]<=r b[y]:=λi hi h2=>by simpa [isA]using l2 i hi h2
     have Qj:∀i,k<=i->∀(h2:x+i<a.size),r b[y]<r a[x+i]:=λi hi h2=>by have:=l3 i hi (by lia) h2;simpa [isA]using this
     clear l2 l3
     refine' vt (R:=λo' x'=>x'=x+k/\x'+1<a.size/\wH r a b o' x' y) (P:=_) (λH=>aD (λhz=>?A) (λhz=>?B)) ?_
     case A=>
      have MA:=MI.JD (k:=k) M λi hi h2 j hj OJ=>by
       have e1:=JM i hi h2
       have e2:=fq sb hj OJ
       lia
      refine aD (λhz=>?_) (λhz=>?_)
      ·exact wpS_pure ⟨⟨_,rfl⟩,MA.Oi (by simpa using hz) hl⟩
      have hz0:x+k+1≠a.size:=by simpa using hz
      refine aD (λhz=>?_) (λhz=>?_)
      ·exact wpS_pure ⟨⟨_,rfl⟩,MA.fin (.inr (by simpa using hz))⟩
      have Qm:x+k≠a.size:=by simpa using hz
      have e1:x+k+1<a.size:=by lia
      obtain⟨x',qG⟩:∃x',x'=x+k:=⟨_,rfl⟩
      rw[<-qG]at MA e1 ⊢
      generalize o++a.extract x x'=o' at MA ⊢
      exact H o' x' ⟨qG,e1,MA⟩
     case B=>exact H o x ⟨by lia,hx,M⟩
     rintro o x' ⟨qG,vZ,MA⟩
     clear JM
     refine wpS_bind (cE hy ?_)
     try dsimp only
     have MB:=MI.uq MA hy (λi hi h2=>by
        have:=Qj (i-x) (by lia) (by lia)
        have e:x+(i-x)=i:=by lia
        simp only[e]at this
        lia)
     clear Qj MA M l1 hx
     refine aD (λhz=>?_) (λhz=>?_)
     ·exact wpS_pure ⟨⟨_,rfl⟩,MB.fin (.inl (by simpa using hz))⟩
     have tG:y+1≠b.size:=by simpa using hz
     have Qn:y+1<b.size:=by lia
     clear tG hz
     refine wpS_bind (cE (by lia) ?_)
     refine wpS_bind (uk C (by lia) (by lia) hb (ha _ (Array.getElem_mem _)) hk (λi j h1 h2 _=>fq sb (by lia) h2) λk2 l1 l2 l3=>?_)
     try dsimp only
     replace l1:y+1+k2<=b.size:=by lia
     have JM:∀i,i<k2->∀(h2:y+1+i<b.size),r b[y+1+i]<r (a[x']'(by lia)):=λi hi h2=>by simpa [isA]using l2 i hi h2
     have Qj:∀i,k2<=i->∀(h2:y+1+i<b.size),r (a[x']'(by lia))<=r b[y+1+i]:=λi hi h2=>by have:=l3 i hi (by lia) h2;simpa [isA]using this
     clear l2 l3
     refine' vt (R:=λo' y'=>y'=y+1+k2/\y'<b.size/\wH r a b o' x' y') (P:=_) (λH=>aD (λhz=>?A) (λhz=>?B)) ?_
     case A=>
      have MC:=MI.JC (k:=k2) MB λi hi h2 j hj OJ=>by
       have e1:=JM i hi h2
       have e2:=fq sa hj OJ
       lia
      refine aD (λhz=>?_) (λhz=>?_)
      ·exact wpS_pure ⟨⟨_,rfl⟩,MC.fin (.inl (by simpa using hz))⟩
      have hz4:y+1+k2≠b.size:=by simpa using hz
      have e1:y+1+k2<b.size:=by lia
      obtain⟨y',vY⟩:∃y',y'=y+1+k2:=⟨_,rfl⟩
      rw[<-vY]at MC e1 ⊢
      generalize _++b.extract (y+1) y'=o' at MC ⊢
      exact H o' y' ⟨vY,e1,MC⟩
     case B=>exact H _ (y+1) ⟨by lia,Qn,MB⟩
     rintro o' y' ⟨vY,JW,MC⟩
     clear JM MB
     have MZ:=MI.ur MC (by lia) λi hi h2=>by
      have:=Qj (i-(y+1)) (by lia) (by lia)
      simpa [show y+1+(i-(y+1))=i by lia]using this
     clear Qj MC l1 Qn
     refine wpS_bind (cE (by lia) ?_)
     try dsimp only
     refine aD (λhz=>?_) (λhz=>?_)
     ·exact wpS_pure ⟨⟨_,rfl⟩,(MZ.Oi (by simpa using hz) hl)⟩
     ·have Fn:x'+1+1≠a.size:=by simpa using hz
      have e1:x'+1+1<a.size:=by lia
      have e2:n+2<=x'+1+y':=by lia
      refine aD (λhz=>?_) (λhz=>?_)
      ·exact wpS_pure ⟨⟨_,rfl⟩,e1,JW,MZ,e2⟩
      ·exact wpS_pure ⟨⟨_,rfl⟩,_,_,_,_,_,_,rfl,e1,JW,MZ,e2⟩
end
structure MH(r:Keyed->Int)(tot ra rb o:List Keyed):Prop where
 perm:(ra++rb++o).Perm tot
 so:gY r o
 sa:gY r ra
 sb:gY r rb
 la:∀u∈ra,∀v∈o,r u<=r v
 lb:∀u∈rb,∀v∈o,r u<=r v
section
variable {r:Keyed->Int}{tot o ra rb p:List Keyed}
theorem MH.t7(h:MH r tot ra (rb++p) o)(hp:∀u∈p,∀v∈ra,r v<=r u):MH r tot ra rb (p++o):=by
 have sb:=List.pairwise_append.mp h.sb
 refine⟨by simpa [List.append_assoc]using h.perm,List.pairwise_append.mpr ⟨sb.2.1,h.so,λu hu v hv=>h.lb u (List.mem_append_right _ hu) v hv⟩,h.sa,sb.1,λu hu v hv=>?_,λu hu v hv=>?_⟩
 ·rcases List.mem_append.mp hv with hv | hv
  ·exact hp v hv u hu
  ·exact h.la u hu v hv
 ·rcases List.mem_append.mp hv with hv | hv
  ·exact sb.2.2 u hu v hv
  ·exact h.lb u (List.mem_append_left _ hu) v hv
theorem MH.t8(h:MH r tot (ra++p) rb o)(hp:∀u∈p,∀v∈rb,r v<=r u):MH r tot ra rb (p++o):=by
 have sa:=List.pairwise_append.mp h.sa
 refine⟨?_,List.pairwise_append.mpr ⟨sa.2.1,h.so,λu hu v hv=>h.la u (List.mem_append_right _ hu) v hv⟩,sa.1,h.sb,λu hu v hv=>?_,λu hu v hv=>?_⟩
 ·refine List.Perm.trans ?_ h.perm
  rw[<-List.append_assoc]
  refine List.Perm.append_right o ?_
  rw[List.append_assoc,List.append_assoc]
  exact List.Perm.append_left ra List.perm_append_comm
 ·rcases List.mem_append.mp hv with hv | hv
  ·exact sa.2.2 u hu v hv
  ·exact h.la u (List.mem_append_left _ hu) v hv
 ·rcases List.mem_append.mp hv with hv | hv
  ·exact hp v hv u hu
  ·exact h.lb u hu v hv
theorem MH.Ph(h:MH r tot ra [] o):(ra++o).Perm tot/\gY r (ra++o):=⟨by simpa using h.perm,List.pairwise_append.mpr ⟨h.sa,h.so,h.la⟩⟩
theorem MH.Pg(h:MH r tot [] rb o):(rb++o).Perm tot/\gY r (rb++o):=⟨by simpa using h.perm,List.pairwise_append.mpr ⟨h.sb,h.so,h.lb⟩⟩
theorem MH.aCw{z:Keyed}(h:MH r tot ra [z] o)(hz:∀v∈ra,r z<=r v):([z]++ra++o).Perm tot/\gY r ([z]++ra++o):=by
 have h':=(MH.t8 (p:=ra) (ra:=[]) (by simpa using h) λu hu v hv=>by rw[List.mem_singleton.mp hv];exact hz u hu).Pg
 rw[List.append_assoc];exact h'
end
section
variable {r:Keyed->Int}{a b o:Array Keyed}{x y e:Nat}
abbrev wI(r:Keyed->Int)(a b o:Array Keyed)(x y:Nat):Prop:=MH r (tot a b) (a.toList.take x) (b.toList.take y) o.toList.reverse
theorem Cy(a:Array Keyed)(x:Nat):(a.extract 0 x).toList=a.toList.take x:=by
 rw[fW,List.drop_zero,Nat.sub_zero]
theorem qN(l:List Keyed){x e:Nat}(h:e<=x):l.take x=l.take e++(l.drop e).take (x-e):=by
 have:=(List.take_append_drop e (l.take x)).symm
 rw[List.take_take,Nat.min_eq_left h,List.drop_take]at this
 exact this
theorem take_one(a:Array Keyed){x:Nat}(h:x<a.size):a.toList.take (x+1)=a.toList.take x++[a[x]]:=by
 rw[List.take_add_one,List.getElem?_eq_getElem (by simpa using h)];simp
theorem vR{a:Array Keyed}{x:Nat}{v:Keyed}(h:v∈a.toList.take x):∃i,∃(hi:i<a.size),i<x/\v=a[i]:=by
 have h':v∈(a.toList.drop 0).take x:=by simpa using h
 refine hide λgG hG=>?_
 obtain⟨i,hi,hx,e⟩:=fV h'
 refine hG ?_
 exact⟨i,by lia,hx,by rw[e];simp⟩
theorem MH.uq(h:wI r a b o x (y+1))(hy:y<b.size)(hx:∀i,i<x->∀(hi:i<a.size),r a[i]<=r b[y]):wI r a b (o.push b[y]) x y:=by
 have h':MH r (tot a b) (a.toList.take x) (b.toList.take y++[b[y]]) o.toList.reverse:=by rw[<-take_one b hy];exact h
 have:=h'.t7 λu hu v hv=>by
  refine hide λgG hG=>?_
  obtain⟨i,hi,hk,rfl⟩:=vR hv
  refine hG ?_
  rw[List.mem_singleton.mp hu]
  exact hx _ hk hi
 show MH r (tot a b) _ _ (o.push b[y]).toList.reverse
 rw[Array.toList_push,List.reverse_append];exact this
theorem MH.ur(h:wI r a b o (x+1) y)(hx:x<a.size)(hy:∀i,i<y->∀(hi:i<b.size),r b[i]<=r a[x]):wI r a b (o.push a[x]) x y:=by
 have h':MH r (tot a b) (a.toList.take x++[a[x]]) (b.toList.take y) o.toList.reverse:=by rw[<-take_one a hx];exact h
 have:=h'.t8 λu hu v hv=>by
  refine hide λgG hG=>?_
  obtain⟨i,hi,hk,rfl⟩:=vR hv
  refine hG ?_
  rw[List.mem_singleton.mp hu]
  exact hy _ hk hi
 show MH r (tot a b) _ _ (o.push a[x]).toList.reverse
 rw[Array.toList_push,List.reverse_append];exact this
theorem MH.JD(h:wI r a b o x y)(he:e<=x)(hp:∀i,e<=i->i<x->∀(hi:i<a.size) j,j<y->∀(hj:j<b.size),r b[j]<=r a[i]):wI r a b (o++(a.extract e x).reverse) e y:=by
 have h':MH r (tot a b) (a.toList.take e++(a.toList.drop e).take (x-e)) (b.toList.take y) o.toList.reverse:=by rw[<-qN _ he];exact h
 have:=h'.t8 λu hu v hv=>by
  refine hide λgG hG=>?_
  obtain⟨i,hi,hk,rfl⟩:=fV hu
  obtain⟨j,hj,OJ,rfl⟩:=vR hv
  refine hG ?_
  exact hp (e+i) (by lia) (by lia) hi _ OJ hj
 show MH r (tot a b) _ _ (o++(a.extract e x).reverse).toList.reverse
 rw[Array.toList_append,Array.toList_reverse,List.reverse_append,List.reverse_reverse,fW]
 exact this
theorem MH.JC(h:wI r a b o x y)(he:e<=y)(hp:∀i,e<=i->i<y->∀(hi:i<b.size) j,j<x->∀(hj:j<a.size),r a[j]<=r b[i]):wI r a b (o++(b.extract e y).reverse) x e:=by
 have h':MH r (tot a b) (a.toList.take x) (b.toList.take e++(b.toList.drop e).take (y-e)) o.toList.reverse:=by rw[<-qN _ he];exact h
 have:=h'.t7 λu hu v hv=>by
  refine hide λgG hG=>?_
  obtain⟨i,hi,hk,rfl⟩:=fV hu
  obtain⟨j,hj,OJ,rfl⟩:=vR hv
  refine hG ?_
  exact hp (e+i) (by lia) (by lia) hi _ OJ hj
 show MH r (tot a b) _ _ (o++(b.extract e y).reverse).toList.reverse
 rw[Array.toList_append,Array.toList_reverse,List.reverse_append,List.reverse_reverse,fW]
 exact this
theorem MH.fin(h:wI r a b o x y)(e:x=0\/y=0):Good r a b (a.extract 0 x++b.extract 0 y++o.reverse):=by
 unfold Good
 rw[Array.toList_append,Array.toList_append,Array.toList_reverse,Cy,Cy]
 rcases e with e | e
 ·subst e
  exact MH.Pg h
 ·subst e
  rw[List.take_zero,List.append_nil]
  exact MH.Ph h
theorem MH.fst(h:wI r a b o x y)(e:y=1)(nb:0<b.size)(h0:∀v∈a,r b[0]<=r v):Good r a b (b.extract 0 y++a.extract 0 x++o.reverse):=by
 unfold Good
 rw[Array.toList_append,Array.toList_append,Array.toList_reverse,Cy,Cy]
 subst e
 have z:b.toList.take 1=[b[0]]:=by rw[take_one b nb];rfl
 have h':MH r (tot a b) (a.toList.take x) [b[0]] o.toList.reverse:=by rw[<-z];exact h
 rw[z]
 exact h'.aCw λv hv=>h0 v (by simpa using List.mem_of_mem_take hv)
end
section
variable {prog:Program}{w:World}{A:Around}{E:Value->Shared->Prop}{s:Shared}{κ:SortKind}{r:Keyed->Int}{U:Keyed->Prop}
theorem VG(C:U9 prog w A s κ r U){a b:Array Keyed}{Q:Array Keyed->SortSt->Prop}{st:SortSt}(hk:kindOf st=κ)(ha:∀z∈a,U z)(hb:∀z∈b,U z)(sa:gY r a.toList)(sb:gY r b.toList)(na:0<a.size)(nb:0<b.size)
  (h0:∀v∈a,r b[0]<=r v) (hl:∀v∈b,r v<=r (a[a.size-1]'(by lia))) (h:∀R g,Good r a b R->Q R (cJ st g)):wpS (model prog w) A E s (mHi a b) Q st:=by
 rw[Sy]
 refine wpS_bind (wpS_lift (wpAny_rule ⟨rfl,?_⟩))
 refine wpS_bind (cE (by lia) ?_)
 try dsimp only
 obtain⟨na',hna⟩:∃na',a.size=na'+1:=⟨a.size-1,by lia⟩
 have M0:wI r a b #[a[a.size-1]'(by lia)] (a.size-1) b.size:=by
  refine MH.ur (o:=#[]) (x:=a.size-1) (y:=b.size) ⟨?_,List.Pairwise.nil,?_,?_,by simp,by simp⟩ (by lia) λi hi ox=>hl _ (Array.getElem_mem _)
  ·rw[show a.size-1+1=a.size by lia,List.take_of_length_le (by simp),List.take_of_length_le (by simp)];simp
  ·rw[show a.size-1+1=a.size by lia,List.take_of_length_le (by simp)];exact sa
  ·rw[List.take_of_length_le (by simp)];exact sb
 refine aD (λhz=>?_) (λQm=>?_)
 ·exact wpS_pure (h _ (gallopOf st) (M0.fin (.inl (by simpa using hz))))
 refine aD (λhz=>?_) (λtG=>?_)
 ·exact wpS_pure (h _ (gallopOf st) (M0.fst (by simpa using hz) nb h0))
 have Te:a.size-1≠0:=by simpa using Qm
 have JV:b.size≠1:=by simpa using tG
 clear Qm tG
 refine wpS_bind (wpS_get ?_)
 refine wpS_bind (wpS_mono (wpS_forRange (a:=0) (I:=λn c bf=>(∃g,bf=cJ st g)/\∃o x y mg,c=(none,x,y,o,mg)/\0<x/\x<=a.size/\1<y/\y<=b.size/\wI r a b o x y/\x+y+n+1<=a.size+b.size)
  (Q:=λc bf=>(∃g,bf=cJ st g)/\∃R,c.1=some R/\Good r a b R) ?step ?fin ⟨⟨gallopOf st,rfl⟩,_,a.size-1,b.size,gallopOf st,rfl,by lia,by lia,by lia,by lia,M0,by lia⟩) ?post)
 case post=>
  intro Kg bf fi
  refine hide λgG hG=>?_
  obtain⟨c1,c⟩:=Kg
  obtain⟨⟨g,rfl⟩,R,rfl,hR⟩:=fi
  refine hG ?_
  exact wpS_pure (h R g hR)
 case fin=>
  intro c bf fi
  refine hide λgG hG=>?_
  obtain⟨_,o,x,y,mg,rfl,hx,Cj,hy,Qo,M,hn⟩:=fi
  refine hG ?_
  lia
 case step=>
  clear Te JV M0 h hna
  intro n c bf _ hn rL
  refine hide λgG hG=>?_
  obtain⟨⟨g,rfl⟩,o,x,y,mg,rfl,hx,Cj,hy,Qo,M,z4⟩:=rL
  refine hG ?_
  try dsimp only
  refine wpS_bind (wpS_mono (wpS_forRange (a:=0) (I:=λn1 d bf=>(∃g,bf=cJ st g)/\∃o' x' y' p q,d=(none,x',y',o',p,q)/\0<x'/\x'<=a.size/\1<y'/\y'<=b.size/\wI r a b o' x' y'/\x'+y'+n1<=x+y)
   (Q:=λd bf=>(∃g,bf=cJ st g)/\match d.1 with | some R=>Good r a b R | none=>0<d.2.1/\d.2.1<=a.size/\1<d.2.2.1/\d.2.2.1<=b.size/\wI r a b d.2.2.2.1 d.2.1 d.2.2.1/\d.2.1+d.2.2.1+n+2<=a.size+b.size) ?step1 ?fin1 ⟨⟨g,rfl⟩,o,x,y,0,0,rfl,hx,Cj,hy,Qo,M,by lia⟩) ?post1)
  case fin1=>
   intro d bf fi
   refine hide λgG hG=>?_
   obtain⟨hg,o',x',y',p,q,rfl,qG,Tg,vY,Tf,M',uL⟩:=fi
   refine hG ?_
   exact⟨hg,qG,Tg,vY,Tf,M',by simp only;lia⟩
  case step1=>
   clear hx Cj hy Qo M hn
   intro n1 d bf _ qI rL
   refine hide λgG hG=>?_
   obtain⟨⟨g,rfl⟩,o,x,y,p,q,rfl,hx,Cj,hy,Qo,M,uL⟩:=rL
   refine hG ?_
   try dsimp only
   refine hide λgG hG=>?_
   obtain⟨x,rfl⟩:∃x1,x=x1+1:=⟨x-1,by lia⟩
   obtain⟨y,rfl⟩:∃y1,y=y1+1:=⟨y-1,by lia⟩
   refine hG ?_
   simp only[Nat.add_sub_cancel]
   refine wpS_bind (cE (by lia) ?_)
   refine wpS_bind (cE (by lia) ?_)
   refine wpS_bind (Ht C (hb _ (Array.getElem_mem _)) (ha _ (Array.getElem_mem _)) hk ?_)
   try dsimp only
   by_cases hc:r b[y]<r a[x]
   ·rw[if_pos (by simpa using hc)]
    refine wpS_bind (cE (by lia) ?_)
    try dsimp only
    have MB:=MH.ur M (by lia) λi hi h2=>by
     have:=fq sb (show i<=y by lia) (by lia)
     lia
    refine aD (λhz=>?_) (λhz=>?_)
    ·exact wpS_pure ⟨⟨_,rfl⟩,MB.fin (.inl (by simpa using hz))⟩
    have Fn:x≠0:=by simpa using hz
    refine aD (λhz=>?_) (λhz=>?_)
    ·exact wpS_pure ⟨⟨_,rfl⟩,(by simp only;lia),(by simp only;lia),hy,Qo,MB,by simp only;lia⟩
    ·exact wpS_pure ⟨⟨_,rfl⟩,_,_,_,_,_,rfl,by lia,by lia,hy,Qo,MB,by lia⟩
   ·rw[if_neg (by simpa using hc)]
    refine wpS_bind (cE (by lia) ?_)
    try dsimp only
    have MB:=MH.uq M (by lia) λi hi h2=>by
     have:=fq sa (show i<=x by lia) (by lia)
     lia
    refine aD (λhz=>?_) (λhz=>?_)
    ·exact wpS_pure ⟨⟨_,rfl⟩,MB.fst (by simpa using hz) nb h0⟩
    have Fn:y≠1:=by simpa using hz
    refine aD (λhz=>?_) (λhz=>?_)
    ·exact wpS_pure ⟨⟨_,rfl⟩,hx,Cj,(by simp only;lia),(by simp only;lia),MB,by simp only;lia⟩
    ·exact wpS_pure ⟨⟨_,rfl⟩,_,_,_,_,_,rfl,hx,Cj,by lia,by lia,MB,by lia⟩
  case post1=>
   intro Kg bf fi
   refine hide λgG hG=>?_
   obtain⟨d1,x1,y1,o1,p1,q1⟩:=Kg
   obtain⟨⟨g,rfl⟩,hd⟩:=fi
   refine hG ?_
   dsimp only at hd ⊢
   cases d1 with
   | some R=>exact wpS_pure ⟨⟨_,rfl⟩,R,rfl,hd⟩
   | none=>
    refine hide λgG hG=>?_
    obtain⟨vZ,Ww,JW,Wv,M1,qI⟩:=hd
    refine hG ?_
    clear hx Cj hy Qo M z4 hn
    try dsimp only
    refine wpS_bind (wpS_lift (wpAny_rule ⟨rfl,?_⟩))
    refine wpS_bind (wpS_mono (wpS_forRange (I:=λ_ e bf=>(∃g,bf=cJ st g)/\∃o' x' y' m' p q,e=(none,x',y',o',m',p,q)/\0<x'/\x'<=a.size/\1<y'/\y'<=b.size/\wI r a b o' x' y'/\x'+y'+n+2<=a.size+b.size)
     (Q:=λe bf=>(∃g,bf=cJ st g)/\match e.1 with | some R=>Good r a b R | none=>0<e.2.1/\e.2.1<=a.size/\1<e.2.2.1/\e.2.2.1<=b.size/\wI r a b e.2.2.2.1 e.2.1 e.2.2.1/\e.2.1+e.2.2.1+n+2<=a.size+b.size) ?step2 ?fin2 ⟨⟨_,rfl⟩,_,_,_,_,_,_,rfl,vZ,Ww,JW,Wv,M1,qI⟩) ?post2)
    case fin2=>
     intro e bf fi
     refine hide λgG hG=>?_
     obtain⟨hg,o',x',y',m',p,q,rfl,qG,Tg,vY,Tf,M',uL⟩:=fi
     refine hG ?_
     exact⟨hg,qG,Tg,vY,Tf,M',uL⟩
    case post2=>
     intro Kg bf fi
     refine hide λgG hG=>?_
     obtain⟨e1,x2,y2,o2,m2,p2,q2⟩:=Kg
     obtain⟨⟨g,rfl⟩,he⟩:=fi
     refine hG ?_
     dsimp only at he ⊢
     cases e1 with
     | some R=>exact wpS_pure ⟨⟨_,rfl⟩,R,rfl,he⟩
     | none=>
      refine hide λgG hG=>?_
      obtain⟨Gp,aB0,Qn,aBZ,M2,Gr⟩:=he
      refine hG ?_
      refine wpS_bind (wpS_modify (wpS_pure ⟨⟨_,rfl⟩,_,_,_,_,rfl,Gp,aB0,Qn,aBZ,M2,by lia⟩))
    case step2=>
     clear vZ Ww JW Wv M1 qI
     intro n2 e bf _ Gr rL
     refine hide λgG hG=>?_
     obtain⟨⟨g,rfl⟩,o,x,y,m',p,q,rfl,hx,Cj,hy,Qo,M,uL⟩:=rL
     refine hG ?_
     try dsimp only
     refine' share (P:=_) (λH=>aD (λhm=>?A) (λhm=>?B)) ?_
     case A=>generalize m'-1=gg;revert gg;exact H
     case B=>clear hm;generalize m'=gg;revert gg;exact H
     intro gg
     obtain⟨y,rfl⟩:∃y1,y=y1+1:=⟨y-1,by lia⟩
     simp only[Nat.add_sub_cancel]
     refine wpS_bind (wpS_modify ?_)
     refine wpS_bind (cE (by lia) ?_)
     refine wpS_bind (uk C (by lia) (by lia) ha (hb _ (Array.getElem_mem _)) hk (λi j h1 h2 _=>fq sa (by lia) h2) λe l1 l2 l3=>?_)
     try dsimp only
     have JM:∀i,i<e->∀(h2:i<a.size),r a[i]<=r (b[y]'(by lia)):=λi hi h2=>by simpa [isA]using l2 i hi (by lia)
     have Qj:∀i,e<=i->i<x->∀(h2:i<a.size),r (b[y]'(by lia))<r a[i]:=λi hi ox h2=>by have:=l3 i hi ox (by lia);simpa [isA]using this
     clear l2 l3
     generalize aCl:x-e=cnt
     refine' vt (R:=λo' x'=>x'=e/\0<x'/\wI r a b o' x' (y+1)) (P:=_) (λH=>aD (λhz=>?A) (λhz=>?B)) ?_
     case A=>
      have MA:=MH.JD (e:=e) M l1 λi hi ox h2 j hj OJ=>by
       have e1:=Qj i hi ox h2
       have e2:=fq sb (show j<=y by lia) (by lia)
       lia
      refine aD (λhz=>?_) (λhz=>?_)
      ·exact wpS_pure ⟨⟨_,rfl⟩,MA.fin (.inl (by simpa using hz))⟩
      have hz0:e≠0:=by simpa using hz
      have e1:0<e:=by lia
      obtain⟨x',qG⟩:∃x',x'=e:=⟨_,rfl⟩
      rw[<-qG]at MA e1 ⊢
      generalize o++(a.extract x' x).reverse=o' at MA ⊢
      exact H o' x' ⟨qG,e1,MA⟩
     case B=>exact H o x ⟨by lia,hx,M⟩
     rintro o x' ⟨qG,vZ,MA⟩
     obtain⟨x',rfl⟩:∃x1,x'=x1+1:=⟨x'-1,by lia⟩
     simp only[Nat.add_sub_cancel]
     have MB:=MH.uq (y:=y) MA (by lia) λi hi h2=>JM i (by lia) h2
     clear JM Qj MA M
     refine wpS_bind (cE (by lia) ?_)
     try dsimp only
     refine aD (λhz=>?_) (λhz=>?_)
     ·exact wpS_pure ⟨⟨_,rfl⟩,MB.fst (by simpa using hz) nb h0⟩
     have tG:y≠1:=by simpa using hz
     have Qn:1<y:=by lia
     have hxa:x'+1<=a.size:=by lia
     have hnn:x'+1+(y+1)+n+2<=a.size+b.size:=by lia
     clear tG hz aCl qG uL Cj hx l1
     refine wpS_bind (cE (by lia) ?_)
     refine wpS_bind (uk C (by lia) (by lia) hb (ha _ (Array.getElem_mem _)) hk (λi j h1 h2 _=>fq sb (by lia) h2) λf l1 m2 m3=>?_)
     try dsimp only
     have m2':∀i,i<f->∀(h2:i<b.size),r b[i]<r (a[x']'(by lia)):=λi hi h2=>by simpa [isA]using m2 i hi (by lia)
     have m3':∀i,f<=i->i<y->∀(h2:i<b.size),r (a[x']'(by lia))<=r b[i]:=λi hi ox h2=>by have:=m3 i hi ox (by lia);simpa [isA]using this
     clear m2 m3
     generalize aDt:y-f=aDG
     refine' vt (R:=λo' y'=>y'=f/\1<y'/\wI r a b o' (x'+1) y') (P:=_) (λH=>aD (λhz=>?A) (λhz=>?B)) ?_
     case A=>
      have MC:=MH.JC (e:=f) MB (by lia) λi hi ox h2 j hj OJ=>by
       have e1:=m3' i hi ox h2
       have e2:=fq sa (show j<=x' by lia) (by lia)
       lia
      refine aD (λhz=>?_) (λhz=>?_)
      ·exact wpS_pure ⟨⟨_,rfl⟩,MC.fst (by simpa using hz) nb h0⟩
      have hz4:f≠1:=by simpa using hz
      refine aD (λhz=>?_) (λhz=>?_)
      ·exact wpS_pure ⟨⟨_,rfl⟩,MC.fin (.inr (by simpa using hz))⟩
      have hz5:f≠0:=by simpa using hz
      have e1:1<f:=by lia
      obtain⟨y',vY⟩:∃y',y'=f:=⟨_,rfl⟩
      rw[<-vY]at MC e1 ⊢
      generalize _++(b.extract y' y).reverse=o' at MC ⊢
      exact H o' y' ⟨vY,e1,MC⟩
     case B=>exact H _ y ⟨by lia,Qn,MB⟩
     rintro o' y' ⟨vY,JW,MC⟩
     have MZ:=MH.ur (x:=x') MC (by lia) λi hi h2=>(by have:=m2' i (by lia) h2;lia)
     clear m2' m3' MB MC
     refine wpS_bind (cE (by lia) ?_)
     try dsimp only
     refine aD (λhz=>?_) (λhz=>?_)
     ·exact wpS_pure ⟨⟨_,rfl⟩,MZ.fin (.inl (by simpa using hz))⟩
     ·have Fn:x'≠0:=by simpa using hz
      have e1:0<x':=by lia
      have e2:x'<=a.size:=by lia
      have e3:y'<=b.size:=by lia
      have e4:x'+y'+n+2<=a.size+b.size:=by lia
      refine aD (λhz=>?_) (λhz=>?_)
      ·exact wpS_pure ⟨⟨_,rfl⟩,e1,e2,JW,e3,MZ,e4⟩
      ·exact wpS_pure ⟨⟨_,rfl⟩,_,_,_,_,_,_,rfl,e1,e2,JW,e3,MZ,e4⟩
end
section
variable {prog:Program}{w:World}{A:Around}{E:Value->Shared->Prop}{s:Shared}{κ:SortKind}{r:Keyed->Int}{a₀:Array Keyed}
def Rk(r:Keyed->Int)(xs:Array Keyed)(i:Nat):Int:=match xs[i]? with
 | some p=>r p
 | none=>0
theorem Rk.eq{xs:Array Keyed}{i:Nat}(h:i<xs.size):Rk r xs i=r xs[i]:=by unfold Rk;rw[Array.getElem?_eq_getElem h]
theorem Rk.congr{xs ys:Array Keyed}{i j:Nat}(h:xs[i]?=ys[j]?):Rk r xs i=Rk r ys j:=by unfold Rk;rw[h]
def Sg(r:Keyed->Int)(xs:Array Keyed)(lo hi:Nat):Prop:=∀i j,lo<=i->i<=j->j<hi->Rk r xs i<=Rk r xs j
def Dg(r:Keyed->Int)(xs:Array Keyed)(lo hi:Nat):Prop:=∀i j,lo<=i->i<=j->j<hi->Rk r xs j<=Rk r xs i
structure SB(a₀:Array Keyed)(κ:SortKind)(st:SortSt):Prop where
 perm:(arrOf st).Perm a₀
 kind:kindOf st=κ
 ok:failedOf st=none
theorem SB.size{st:SortSt}(h:SB a₀ κ st):(arrOf st).size=a₀.size:=h.perm.size_eq
theorem SB.put{st:SortSt}(h:SB a₀ κ st){xs:Array Keyed}(hp:xs.Perm (arrOf st)):SB a₀ κ (setArr st xs):=⟨hp.trans h.perm,h.kind,h.ok⟩
theorem SB.mem{st:SortSt}(h:SB a₀ κ st){z:Keyed}(hz:z∈arrOf st):z∈a₀:=h.perm.mem_iff.mp hz
abbrev Gj(prog:Program)(w:World)(A:Around)(s:Shared)(κ:SortKind)(r:Keyed->Int)(a₀:Array Keyed):Prop:=U9 prog w A s κ r (·∈a₀)
theorem gL(C:Gj prog w A s κ r a₀){st:SortSt}{i j:Nat}{Q:Option Bool->SortSt->Prop}(B:SB a₀ κ st)(hi:i<a₀.size)(hj:j<a₀.size)(h:Q (some (decide (Rk r (arrOf st) i<Rk r (arrOf st) j))) st):wpS (model prog w) A E s (ltAt' i j) Q st:=by
 have zY:i<(arrOf st).size:=by rw[B.size];exact hi
 have qm:j<(arrOf st).size:=by rw[B.size];exact hj
 rw[Rk.eq zY,Rk.eq qm]at h
 rw[ltAt'_eq]
 refine wpS_bind (wpS_get ?_)
 refine wpS_bind (cE zY (wpS_bind (cE qm (Ht C (B.mem (Array.getElem_mem _)) (B.mem (Array.getElem_mem _)) B.kind h))))
theorem nX{st:SortSt}{i j:Nat}{Q:Unit->SortSt->Prop}(h:Q () (setArr st (mirror (arrOf st) i j ((j-i) / 2)))):wpS (model prog w) A E s (reverseSlice' i j) Q st:=by
 rw[reverseSlice'_eq];exact wpS_modify h
theorem eC{xs:Array Keyed}{i j:Nat}(hj:j<=xs.size)(k:Nat):Rk r (mirror xs i j ((j-i) / 2)) k=if i<=k/\k<j then Rk r xs (i+j-1-k) else Rk r xs k:=by
 have e:=getElem?_mirror_all (i:=i) hj k
 by_cases h1:i<=k/\k<j
 ·rw[if_pos h1]at e ⊢;exact Rk.congr e
 ·rw[if_neg h1]at e ⊢;exact Rk.congr e
theorem bY{xs:Array Keyed}{i j:Nat}(hj:j<=xs.size)(heq:∀k,i<=k->k<j->Rk r xs k=Rk r xs (j-1))(k:Nat):Rk r (mirror xs i j ((j-i) / 2)) k=Rk r xs k:=by
 rw[eC hj]
 split
 ·rw[heq _ (by lia) (by lia),heq k (by lia) (by lia)]
 ·rfl
def Pre(lo:Nat)(xs ys:Array Keyed):Prop:=∀k,k<lo->ys[k]?=xs[k]?
theorem Pre.refl{lo:Nat}{xs:Array Keyed}:Pre lo xs xs:=λ_ _=>rfl
theorem Pre.trans{lo:Nat}{xs ys zs:Array Keyed}(h:Pre lo xs ys)(g:Pre lo ys zs):Pre lo xs zs:=λk hk=>(g k hk).trans (h k hk)
theorem Pre.Od{lo i j:Nat}{xs:Array Keyed}(hi:lo<=i)(hj:j<=xs.size):Pre lo xs (mirror xs i j ((j-i) / 2)):=λk hk=>by
 rw[getElem?_mirror_all hj,if_neg (by lia)]
theorem Pre.bub{lo src d:Nat}{xs:Array Keyed}(hs:src<xs.size)(hd:lo+d<=src):Pre lo xs (bubble xs src d):=λk hk=>by
 rw[getElem?_bubble hs d (by lia),if_neg (by lia),if_neg (by lia)]
theorem um{xs:Array Keyed}{src d:Nat}(hs:src<xs.size)(hd:d<=src)(k:Nat):Rk r (bubble xs src d) k=if k=src-d then Rk r xs src else if src-d<k/\k<=src then Rk r xs (k-1) else Rk r xs k:=by
 have e:=getElem?_bubble hs d hd k
 by_cases h1:k=src-d
 ·rw[if_pos h1]at e ⊢;exact Rk.congr e
 ·rw[if_neg h1]at e ⊢
  by_cases h2:src-d<k/\k<=src
  ·rw[if_pos h2]at e ⊢;exact Rk.congr e
  ·rw[if_neg h2]at e ⊢;exact Rk.congr e
theorem VH(C:Gj prog w A s κ r a₀){st:SortSt}{lo n ok:Nat}{Q:Bool->SortSt->Prop}(hn:lo+n<=a₀.size)(aY:ok<=n)(B:SB a₀ κ st)(hs:Sg r (arrOf st) lo (lo+ok))
  (h:∀bf,SB a₀ κ bf->pendingOf bf=pendingOf st->Pre lo (arrOf st) (arrOf bf)->Sg r (arrOf bf) lo (lo+n)->Q true bf):wpS (model prog w) A E s (binarySort' lo n ok) Q st:=by
 rw[binarySort'_eq]
 refine wpS_bind (wpS_mono (wpS_forRange (I:=λk c bf=>c=(none,())/\SB a₀ κ bf/\pendingOf bf=pendingOf st/\Pre lo (arrOf st) (arrOf bf)/\Sg r (arrOf bf) lo (lo+min k n))
  (Q:=λc bf=>c=(none,())/\SB a₀ κ bf/\pendingOf bf=pendingOf st/\Pre lo (arrOf st) (arrOf bf)/\Sg r (arrOf bf) lo (lo+n)) ?step ?fin ?init) ?post)
 case post=>
  rintro c bf ⟨rfl,B',p',e',s'⟩
  exact wpS_pure (h bf B' p' e' s')
 case init=>
  refine⟨rfl,B,rfl,.refl,λi j h1 h2 h3=>?_⟩
  by_cases z:ok=0
  ·have:i=j:=by lia
   subst this;exact Int.le_refl _
  ·exact hs i j h1 h2 (by lia)
 case fin=>
  rintro c bf ⟨hc,B',p',e',s'⟩
  refine⟨hc,B',p',e',?_⟩
  rwa [show min (max (max ok 1) n) n=n by lia]at s'
 case step=>
  rintro k c bf hak hkn ⟨rfl,B',p',e',s'⟩
  rw[show min k n=k by lia]at s'
  have hsz:(arrOf bf).size=a₀.size:=B'.size
  refine wpS_bind (wpS_mono (wpS_forRange (a:=0) (I:=λx c aC=>aC=bf/\∃l q,c=(none,l,q)/\l<=q/\q<=k/\q-l<=k-x/\(∀i,lo<=i->i<lo+l->Rk r (arrOf bf) i<=Rk r (arrOf bf) (lo+k))/\(∀i,lo+q<=i->i<lo+k->Rk r (arrOf bf) (lo+k)<Rk r (arrOf bf) i))
   (Q:=λc aC=>aC=bf/\∃l q,c=(none,l,q)/\l<=k/\(∀i,lo<=i->i<lo+l->Rk r (arrOf bf) i<=Rk r (arrOf bf) (lo+k))/\(∀i,lo+l<=i->i<lo+k->Rk r (arrOf bf) (lo+k)<Rk r (arrOf bf) i)) ?istep ?ifin ⟨rfl,0,k,rfl,by lia,by lia,by lia,λi _ _=>by lia,λi _ _=>by lia⟩) ?ipost)
  case ifin=>
   rintro c aC ⟨rfl,l,q,rfl,a1,a2,a3,a4,a5⟩
   have:l=q:=by lia
   subst this
   exact⟨rfl,l,l,rfl,a2,a4,a5⟩
  case istep=>
   rintro x c aC _ hx ⟨rfl,l,q,rfl,a1,a2,a3,a4,a5⟩
   try dsimp only
   refine aD (λhz=>?_) (λhz=>?_)
   ·have:l=q:=by lia
    subst this
    exact wpS_pure ⟨rfl,l,l,rfl,a2,a4,a5⟩
   ·refine wpS_bind (gL C B' (by lia) (by lia) ?_)
    try dsimp only
    refine aD (λhc=>?_) (λhc=>?_)
    ·have ja:=of_decide_eq_true hc
     refine wpS_pure ⟨rfl,l,(l+q) / 2,rfl,by lia,by lia,by lia,a4,λi h1 h2=>?_⟩
     have:=s' (lo+(l+q) / 2) i (by lia) h1 (by lia)
     lia
    ·have ja:¬(Rk r (arrOf aC) (lo+k)<Rk r (arrOf aC) (lo+(l+q) / 2)):=λz=>hc (decide_eq_true z)
     refine wpS_pure ⟨rfl,(l+q) / 2+1,q,rfl,by lia,by lia,by lia,λi h1 h2=>?_,a5⟩
     have:=s' i (lo+(l+q) / 2) h1 (by lia) (by lia)
     lia
  case ipost=>
   rintro c aC ⟨rfl,l,q,rfl,Ls,a4,a5⟩
   show wpS _ _ _ _ (do moveDown' (lo+k) (lo+l);pure (ForInStep.yield (none,()))) _ _
   rw[moveDown'_eq]
   have hks:lo+k<(arrOf aC).size:=by lia
   have ed:lo+k-(lo+l)=k-l:=by lia
   refine wpS_bind (wpS_modify (wpS_pure ⟨rfl,B'.put (bubble_perm _ _ _),p',e'.trans (Pre.bub hks (by lia)),?_⟩))
   rw[show min (k+1) n=k+1 by lia]
   intro i j h1 h2 h3
   show Rk r (bubble (arrOf aC) (lo+k) (lo+k-(lo+l))) i<=Rk r (bubble (arrOf aC) (lo+k) (lo+k-(lo+l))) j
   rw[um hks (by lia),um hks (by lia),ed,show lo+k-(k-l)=lo+l by lia]
   repeat' split
   all_goals first
    | (exfalso;lia)
    | exact Int.le_refl _
    | exact a4 _ (by lia) (by lia)
    | exact Int.le_of_lt (a5 _ (by lia) (by lia))
    | exact s' _ _ (by lia) (by lia) (by lia)
theorem MP(C:Gj prog w A s κ r a₀){st:SortSt}{lo dj:Nat}{Q:Option Nat->SortSt->Prop}(hn:lo+dj<=a₀.size)(hr1:1<=dj)(B:SB a₀ κ st)
  (h:∀m bf,SB a₀ κ bf->pendingOf bf=pendingOf st->Pre lo (arrOf st) (arrOf bf)->1<=m->m<=dj->Sg r (arrOf bf) lo (lo+m)->Q (some m) bf):wpS (model prog w) A E s (countRun' lo dj) Q st:=by
 rw[countRun'_eq]
 try dsimp only
 have s0:Sg r (arrOf st) lo (lo+1):=λi j h1 h2 h3=>by
  have:i=j:=by lia
  subst this;exact Int.le_refl _
 refine wpS_bind (wpS_mono (wpS_forRange (a:=1) (I:=λx c aC=>aC=st/\c=(none,x)/\Sg r (arrOf st) lo (lo+x))
  (Q:=λc aC=>aC=st/\∃n,c=(none,n)/\1<=n/\n<=dj/\Sg r (arrOf st) lo (lo+n)/\(n=dj\/Rk r (arrOf st) (lo+n)<Rk r (arrOf st) (lo+n-1))) ?stepz ?finz ⟨rfl,rfl,s0⟩) ?postz)
 case finz=>
  rintro c aC ⟨rfl,rfl,s'⟩
  rw[show max (1) dj=dj by lia]at s' ⊢
  exact⟨rfl,dj,rfl,by lia,Nat.le_refl _,s',.inl rfl⟩
 case stepz=>
  rintro x c aC Fu Uy ⟨e0,rfl,s'⟩
  replace e0:=e0.symm;subst e0
  try dsimp only
  refine wpS_bind (gL C B (by lia) (by lia) ?_)
  try dsimp only
  refine aD (λhc=>?_) (λhc=>?_)
  ·exact wpS_pure ⟨rfl,x,rfl,Fu,by lia,s',.inr (of_decide_eq_true hc)⟩
  ·have ja:=λz=>hc (decide_eq_true z)
   refine wpS_pure ⟨rfl,rfl,λi j h1 h2 h3=>?_⟩
   by_cases hj:j<lo+x
   ·exact s' i j h1 h2 hj
   ·have qm:j=lo+x:=by lia
    subst qm
    by_cases hi:i=lo+x
    ·subst hi;exact Int.le_refl _
    ·have:=s' i (lo+x-1) h1 (by lia) (by lia)
     exact Int.le_trans this (Int.not_lt.mp ja)
 case postz=>
  intro c aC fi
  refine hide λgG hG=>?_
  obtain⟨e0,n,rfl,Zj,qI,s',WL⟩:=fi
  refine hG ?_
  replace e0:=e0.symm;subst e0
  try dsimp only
  refine aD (λhz=>?_) (λhz=>?_)
  ·have Fn:n=dj:=by simpa using hz
   exact wpS_pure (h n _ B rfl .refl (by lia) qI s')
  have Fn:n≠dj:=by simpa using hz
  have fE:=WL.resolve_left Fn
  have hsz:(arrOf st).size=a₀.size:=B.size
  refine aD (λtG=>?_) (λtG=>?_)
  ·refine wpS_bind (gL C B (by lia) (by lia) ?_)
   try dsimp only
   refine aD (λhc=>?_) (λhc=>?_)
   ·exact wpS_pure (h n _ B rfl .refl (by lia) qI s')
   ·have ja:¬(Rk r (arrOf st) lo<Rk r (arrOf st) (lo+n-1)):=λz=>hc (decide_eq_true z)
    have qo:∀k,lo<=k->k<lo+n->Rk r (arrOf st) k=Rk r (arrOf st) (lo+n-1):=λk h1 h2=>by
     have a1:=s' lo k (by lia) h1 h2
     have a2:=s' k (lo+n-1) h1 (by lia) (by lia)
     lia
    refine wpS_bind (nX ?_)
    have B1:=B.put (mirror_perm _ lo (lo+n) ((lo+n-lo) / 2))
    have e1:Pre lo (arrOf st) (mirror (arrOf st) lo (lo+n) ((lo+n-lo) / 2)):=Pre.Od (Nat.le_refl lo) (by lia)
    have d1:Dg r (arrOf (setArr st (mirror (arrOf st) lo (lo+n) ((lo+n-lo) / 2)))) lo (lo+(n+1)):=λi j h1 h2 h3=>by
     show Rk r (mirror (arrOf st) _ _ _) j<=Rk r (mirror (arrOf st) _ _ _) i
     rw[bY (by lia) qo,bY (by lia) qo]
     by_cases hj:j<lo+n
     ·rw[qo i h1 (by lia),qo j (by lia) hj];exact Int.le_refl _
     ·have qm:j=lo+n:=by lia
      subst qm
      by_cases hi:i=lo+n
      ·subst hi;exact Int.le_refl _
      ·rw[qo i h1 (by lia)];exact Int.le_of_lt fE
    have Cz:Pre lo (arrOf st) (arrOf (setArr st (mirror (arrOf st) lo (lo+n) ((lo+n-lo) / 2)))):=e1
    have p1:pendingOf (setArr st (mirror (arrOf st) lo (lo+n) ((lo+n-lo) / 2)))=pendingOf st:=rfl
    clear e1
    generalize setArr st (mirror (arrOf st) lo (lo+n) ((lo+n-lo) / 2))=S1 at B1 d1 Cz p1 ⊢
    refine wpS_bind (wpS_lift (wpAny_rule ⟨rfl,?_⟩))
    refine wpS_bind (wpS_mono (wpS_forRange (a:=n+1) (I:=λx c aC=>∃q,c=(none,x,q)/\SB a₀ κ aC/\pendingOf aC=pendingOf st/\Pre lo (arrOf st) (arrOf aC)/\Dg r (arrOf aC) lo (lo+x)/\q+1<=x/\(∀i,lo+x-(q+1)<=i->i<lo+x->Rk r (arrOf aC) i=Rk r (arrOf aC) (lo+x-1)))
     (Q:=λc aC=>∃x q,c=(none,x,q)/\n+1<=x/\x<=dj/\SB a₀ κ aC/\pendingOf aC=pendingOf st/\Pre lo (arrOf st) (arrOf aC)/\Dg r (arrOf aC) lo (lo+x)/\q+1<=x/\(∀i,lo+x-(q+1)<=i->i<lo+x->Rk r (arrOf aC) i=Rk r (arrOf aC) (lo+x-1))) ?dstepx ?dfinx ⟨0,rfl,B1,p1,Cz,d1,by lia,λi h1 h2=>by congr 1;lia⟩) ?dpostx)
    case dfinx=>
     intro c aC fi
     refine hide λgG hG=>?_
     obtain⟨q,rfl,b1,b2,b3,b4,b5,b6⟩:=fi
     refine hG ?_
     rw[show max (n+1) dj=dj by lia]at b4 b5 b6 ⊢
     exact⟨dj,q,rfl,by lia,Nat.le_refl _,b1,b2,b3,b4,b5,b6⟩
    case dstepx=>
     intro x c aC Fu Uy rL
     refine hide λgG hG=>?_
     obtain⟨q,rfl,b1,b2,b3,b4,b5,b6⟩:=rL
     refine hG ?_
     have hsz:(arrOf aC).size=a₀.size:=b1.size
     try dsimp only
     refine wpS_bind (gL C b1 (by lia) (by lia) ?_)
     try dsimp only
     refine aD (λhc=>?_) (λhc=>?_)
     ·have ja:=of_decide_eq_true hc
      have Vp:∀xs:Array Keyed,(∀k,Rk r xs k=Rk r (arrOf aC) k)->Dg r xs lo (lo+(x+1)):=λxs hk i j h1 h2 h3=>by
       rw[hk,hk]
       by_cases hj:j<lo+x
       ·exact b4 i j h1 h2 hj
       ·have qm:j=lo+x:=by lia
        subst qm
        by_cases hi:i=lo+x
        ·subst hi;exact Int.le_refl _
        ·have:=b4 i (lo+x-1) h1 (by lia) (by lia)
         lia
      refine aD (λhq=>?_) (λhq=>?_)
      ·refine wpS_bind (nX (wpS_pure ⟨0,rfl,b1.put (mirror_perm _ _ _ _),b2,b3.trans (Pre.Od (by lia) (by lia)),Vp _ (bY (by lia) b6),by lia,λi h1 h2=>by congr 1;lia⟩))
      ·exact wpS_pure ⟨0,rfl,b1,b2,b3,Vp _ (λ_=>rfl),by lia,λi h1 h2=>by congr 1;lia⟩
     ·have ja:¬(Rk r (arrOf aC) (lo+x)<Rk r (arrOf aC) (lo+x-1)):=λz=>hc (decide_eq_true z)
      refine wpS_bind (gL C b1 (by lia) (by lia) ?_)
      try dsimp only
      refine aD (λhd=>?_) (λhd=>?_)
      ·exact wpS_pure ⟨x,q,rfl,Fu,by lia,b1,b2,b3,b4,b5,b6⟩
      ·have Xb:¬(Rk r (arrOf aC) (lo+x-1)<Rk r (arrOf aC) (lo+x)):=λz=>hd (decide_eq_true z)
       have heq:Rk r (arrOf aC) (lo+x)=Rk r (arrOf aC) (lo+x-1):=by lia
       refine wpS_pure ⟨q+1,rfl,b1,b2,b3,λi j h1 h2 h3=>?_,by lia,λi h1 h2=>?_⟩
       ·by_cases hj:j<lo+x
        ·exact b4 i j h1 h2 hj
        ·have qm:j=lo+x:=by lia
         subst qm
         by_cases hi:i=lo+x
         ·subst hi;exact Int.le_refl _
         ·rw[heq];exact b4 i (lo+x-1) h1 (by lia) (by lia)
       ·rw[show lo+(x+1)-1=lo+x by lia]
        by_cases hi:i=lo+x
        ·subst hi;rfl
        ·rw[heq];exact b6 i (by lia) (by lia)
    case dpostx=>
     intro c S3 fi
     refine hide λgG hG=>?_
     obtain⟨m,q,rfl,Zk,WY,b1,b2,b3,b4,b5,b6⟩:=fi
     refine hG ?_
     try dsimp only
     refine aD (λhq=>?_) (λhq=>?_)
     ·refine wpS_bind (nX ?_)
      have hsz:(arrOf S3).size=a₀.size:=b1.size
      have B4:=b1.put (mirror_perm _ (lo+m-(q+1)) (lo+m) ((lo+m-(lo+m-(q+1))) / 2))
      have e4:Pre lo (arrOf st) (arrOf (setArr S3 (mirror (arrOf S3) (lo+m-(q+1)) (lo+m) ((lo+m-(lo+m-(q+1))) / 2)))):=b3.trans (Pre.Od (show lo<=lo+m-(q+1) by lia) (show lo+m<=(arrOf S3).size by lia))
      have d4:Dg r (arrOf (setArr S3 (mirror (arrOf S3) (lo+m-(q+1)) (lo+m) ((lo+m-(lo+m-(q+1))) / 2)))) lo (lo+m):=λi j h1 h2 h3=>by
       show Rk r (mirror (arrOf S3) _ _ _) j<=Rk r (mirror (arrOf S3) _ _ _) i
       rw[bY (by lia) b6,bY (by lia) b6]
       exact b4 i j h1 h2 h3
      have p4:pendingOf (setArr S3 (mirror (arrOf S3) (lo+m-(q+1)) (lo+m) ((lo+m-(lo+m-(q+1))) / 2)))=pendingOf st:=b2
      generalize setArr S3 (mirror (arrOf S3) (lo+m-(q+1)) (lo+m) ((lo+m-(lo+m-(q+1))) / 2))=S4 at B4 e4 d4 p4 ⊢
      refine wpS_bind (nX ?_)
      have zX:=B4.size
      have B2:=B4.put (mirror_perm _ lo (lo+m) ((lo+m-lo) / 2))
      have e2:Pre lo (arrOf st) (arrOf (setArr S4 (mirror (arrOf S4) lo (lo+m) ((lo+m-lo) / 2)))):=e4.trans (Pre.Od (Nat.le_refl lo) (show lo+m<=_ by rw[zX];lia))
      have s2:Sg r (mirror (arrOf S4) lo (lo+m) ((lo+m-lo) / 2)) lo (lo+m):=λi j h1 h2 h3=>by
       rw[eC (by rw[zX];lia),eC (by rw[zX];lia),if_pos (by lia),if_pos (by lia)]
       exact d4 _ _ (by lia) (by lia) (by lia)
      have p2:pendingOf (setArr S4 (mirror (arrOf S4) lo (lo+m) ((lo+m-lo) / 2)))=pendingOf st:=p4
      have Hu:Sg r (arrOf (setArr S4 (mirror (arrOf S4) lo (lo+m) ((lo+m-lo) / 2)))) lo (lo+m):=s2
      clear s2
      generalize setArr S4 (mirror (arrOf S4) lo (lo+m) ((lo+m-lo) / 2))=S2 at B2 p2 Hu e2 ⊢
      have s2:=Hu
      refine wpS_bind (wpS_mono (wpS_forRange (a:=m) (I:=λx c aC=>aC=S2/\c=(none,x)/\Sg r (arrOf S2) lo (lo+x))
       (Q:=λc aC=>aC=S2/\∃n,c=(none,n)/\m<=n/\n<=dj/\Sg r (arrOf S2) lo (lo+n)/\(n=dj\/Rk r (arrOf S2) (lo+n)<Rk r (arrOf S2) (lo+n-1))) ?stepxa ?finxa ⟨rfl,rfl,s2⟩) ?postxa)
      case finxa=>
       rintro c aC ⟨rfl,rfl,s'⟩
       rw[show max (m) dj=dj by lia]at s' ⊢
       exact⟨rfl,dj,rfl,by lia,Nat.le_refl _,s',.inl rfl⟩
      case stepxa=>
       rintro x c aC Fu Uy ⟨e0,rfl,s'⟩
       replace e0:=e0.symm;subst e0
       try dsimp only
       refine wpS_bind (gL C B2 (by lia) (by lia) ?_)
       try dsimp only
       refine aD (λhc=>?_) (λhc=>?_)
       ·exact wpS_pure ⟨rfl,x,rfl,Fu,by lia,s',.inr (of_decide_eq_true hc)⟩
       ·have ja:=λz=>hc (decide_eq_true z)
        refine wpS_pure ⟨rfl,rfl,λi j h1 h2 h3=>?_⟩
        by_cases hj:j<lo+x
        ·exact s' i j h1 h2 hj
        ·have qm:j=lo+x:=by lia
         subst qm
         by_cases hi:i=lo+x
         ·subst hi;exact Int.le_refl _
         ·have:=s' i (lo+x-1) h1 (by lia) (by lia)
          exact Int.le_trans this (Int.not_lt.mp ja)
      case postxa=>
       intro c aC fi
       refine hide λgG hG=>?_
       obtain⟨e0,n,rfl,Zj,qI,s',WL⟩:=fi
       refine hG ?_
       replace e0:=e0.symm;subst e0
       try dsimp only
       exact wpS_pure (h n _ B2 p2 e2 (by lia) qI s')
     ·refine wpS_bind (nX ?_)
      have zX:=b1.size
      have B2:=b1.put (mirror_perm _ lo (lo+m) ((lo+m-lo) / 2))
      have e2:Pre lo (arrOf st) (arrOf (setArr S3 (mirror (arrOf S3) lo (lo+m) ((lo+m-lo) / 2)))):=b3.trans (Pre.Od (Nat.le_refl lo) (show lo+m<=_ by rw[zX];lia))
      have s2:Sg r (mirror (arrOf S3) lo (lo+m) ((lo+m-lo) / 2)) lo (lo+m):=λi j h1 h2 h3=>by
       rw[eC (by rw[zX];lia),eC (by rw[zX];lia),if_pos (by lia),if_pos (by lia)]
       exact b4 _ _ (by lia) (by lia) (by lia)
      have p2:pendingOf (setArr S3 (mirror (arrOf S3) lo (lo+m) ((lo+m-lo) / 2)))=pendingOf st:=b2
      have Hu:Sg r (arrOf (setArr S3 (mirror (arrOf S3) lo (lo+m) ((lo+m-lo) / 2)))) lo (lo+m):=s2
      clear s2
      generalize setArr S3 (mirror (arrOf S3) lo (lo+m) ((lo+m-lo) / 2))=S2 at B2 p2 Hu e2 ⊢
      have s2:=Hu
      refine wpS_bind (wpS_mono (wpS_forRange (a:=m) (I:=λx c aC=>aC=S2/\c=(none,x)/\Sg r (arrOf S2) lo (lo+x))
       (Q:=λc aC=>aC=S2/\∃n,c=(none,n)/\m<=n/\n<=dj/\Sg r (arrOf S2) lo (lo+n)/\(n=dj\/Rk r (arrOf S2) (lo+n)<Rk r (arrOf S2) (lo+n-1))) ?stepxb ?finxb ⟨rfl,rfl,s2⟩) ?postxb)
      case finxb=>
       rintro c aC ⟨rfl,rfl,s'⟩
       rw[show max (m) dj=dj by lia]at s' ⊢
       exact⟨rfl,dj,rfl,by lia,Nat.le_refl _,s',.inl rfl⟩
      case stepxb=>
       rintro x c aC Fu Uy ⟨e0,rfl,s'⟩
       replace e0:=e0.symm;subst e0
       try dsimp only
       refine wpS_bind (gL C B2 (by lia) (by lia) ?_)
       try dsimp only
       refine aD (λhc=>?_) (λhc=>?_)
       ·exact wpS_pure ⟨rfl,x,rfl,Fu,by lia,s',.inr (of_decide_eq_true hc)⟩
       ·have ja:=λz=>hc (decide_eq_true z)
        refine wpS_pure ⟨rfl,rfl,λi j h1 h2 h3=>?_⟩
        by_cases hj:j<lo+x
        ·exact s' i j h1 h2 hj
        ·have qm:j=lo+x:=by lia
         subst qm
         by_cases hi:i=lo+x
         ·subst hi;exact Int.le_refl _
         ·have:=s' i (lo+x-1) h1 (by lia) (by lia)
          exact Int.le_trans this (Int.not_lt.mp ja)
      case postxb=>
       intro c aC fi
       refine hide λgG hG=>?_
       obtain⟨e0,n,rfl,Zj,qI,s',WL⟩:=fi
       refine hG ?_
       replace e0:=e0.symm;subst e0
       try dsimp only
       exact wpS_pure (h n _ B2 p2 e2 (by lia) qI s')
  ·have hn:n=1:=by lia
   have d1:Dg r (arrOf st) lo (lo+(n+1)):=λi j h1 h2 h3=>by
    by_cases hi:i=j
    ·subst hi;exact Int.le_refl _
    ·have e1:i=lo+n-1:=by lia
     have e2:j=lo+n:=by lia
     subst e1;subst e2
     exact Int.le_of_lt fE
   refine wpS_bind (wpS_lift (wpAny_rule ⟨rfl,?_⟩))
   refine wpS_bind (wpS_mono (wpS_forRange (a:=n+1) (I:=λx c aC=>∃q,c=(none,x,q)/\SB a₀ κ aC/\pendingOf aC=pendingOf st/\Pre lo (arrOf st) (arrOf aC)/\Dg r (arrOf aC) lo (lo+x)/\q+1<=x/\(∀i,lo+x-(q+1)<=i->i<lo+x->Rk r (arrOf aC) i=Rk r (arrOf aC) (lo+x-1)))
    (Q:=λc aC=>∃x q,c=(none,x,q)/\n+1<=x/\x<=dj/\SB a₀ κ aC/\pendingOf aC=pendingOf st/\Pre lo (arrOf st) (arrOf aC)/\Dg r (arrOf aC) lo (lo+x)/\q+1<=x/\(∀i,lo+x-(q+1)<=i->i<lo+x->Rk r (arrOf aC) i=Rk r (arrOf aC) (lo+x-1))) ?dstepy ?dfiny ⟨0,rfl,B,rfl,.refl,d1,by lia,λi h1 h2=>by congr 1;lia⟩) ?dposty)
   case dfiny=>
    intro c aC fi
    refine hide λgG hG=>?_
    obtain⟨q,rfl,b1,b2,b3,b4,b5,b6⟩:=fi
    refine hG ?_
    rw[show max (n+1) dj=dj by lia]at b4 b5 b6 ⊢
    exact⟨dj,q,rfl,by lia,Nat.le_refl _,b1,b2,b3,b4,b5,b6⟩
   case dstepy=>
    intro x c aC Fu Uy rL
    refine hide λgG hG=>?_
    obtain⟨q,rfl,b1,b2,b3,b4,b5,b6⟩:=rL
    refine hG ?_
    have hsz:(arrOf aC).size=a₀.size:=b1.size
    try dsimp only
    refine wpS_bind (gL C b1 (by lia) (by lia) ?_)
    try dsimp only
    refine aD (λhc=>?_) (λhc=>?_)
    ·have ja:=of_decide_eq_true hc
     have Vp:∀xs:Array Keyed,(∀k,Rk r xs k=Rk r (arrOf aC) k)->Dg r xs lo (lo+(x+1)):=λxs hk i j h1 h2 h3=>by
      rw[hk,hk]
      by_cases hj:j<lo+x
      ·exact b4 i j h1 h2 hj
      ·have qm:j=lo+x:=by lia
       subst qm
       by_cases hi:i=lo+x
       ·subst hi;exact Int.le_refl _
       ·have:=b4 i (lo+x-1) h1 (by lia) (by lia)
        lia
     refine aD (λhq=>?_) (λhq=>?_)
     ·refine wpS_bind (nX (wpS_pure ⟨0,rfl,b1.put (mirror_perm _ _ _ _),b2,b3.trans (Pre.Od (by lia) (by lia)),Vp _ (bY (by lia) b6),by lia,λi h1 h2=>by congr 1;lia⟩))
     ·exact wpS_pure ⟨0,rfl,b1,b2,b3,Vp _ (λ_=>rfl),by lia,λi h1 h2=>by congr 1;lia⟩
    ·have ja:¬(Rk r (arrOf aC) (lo+x)<Rk r (arrOf aC) (lo+x-1)):=λz=>hc (decide_eq_true z)
     refine wpS_bind (gL C b1 (by lia) (by lia) ?_)
     try dsimp only
     refine aD (λhd=>?_) (λhd=>?_)
     ·exact wpS_pure ⟨x,q,rfl,Fu,by lia,b1,b2,b3,b4,b5,b6⟩
     ·have Xb:¬(Rk r (arrOf aC) (lo+x-1)<Rk r (arrOf aC) (lo+x)):=λz=>hd (decide_eq_true z)
      have heq:Rk r (arrOf aC) (lo+x)=Rk r (arrOf aC) (lo+x-1):=by lia
      refine wpS_pure ⟨q+1,rfl,b1,b2,b3,λi j h1 h2 h3=>?_,by lia,λi h1 h2=>?_⟩
      ·by_cases hj:j<lo+x
       ·exact b4 i j h1 h2 hj
       ·have qm:j=lo+x:=by lia
        subst qm
        by_cases hi:i=lo+x
        ·subst hi;exact Int.le_refl _
        ·rw[heq];exact b4 i (lo+x-1) h1 (by lia) (by lia)
      ·rw[show lo+(x+1)-1=lo+x by lia]
       by_cases hi:i=lo+x
       ·subst hi;rfl
       ·rw[heq];exact b6 i (by lia) (by lia)
   case dposty=>
    intro c S3 fi
    refine hide λgG hG=>?_
    obtain⟨m,q,rfl,Zk,WY,b1,b2,b3,b4,b5,b6⟩:=fi
    refine hG ?_
    try dsimp only
    refine aD (λhq=>?_) (λhq=>?_)
    ·refine wpS_bind (nX ?_)
     have hsz:(arrOf S3).size=a₀.size:=b1.size
     have B4:=b1.put (mirror_perm _ (lo+m-(q+1)) (lo+m) ((lo+m-(lo+m-(q+1))) / 2))
     have e4:Pre lo (arrOf st) (arrOf (setArr S3 (mirror (arrOf S3) (lo+m-(q+1)) (lo+m) ((lo+m-(lo+m-(q+1))) / 2)))):=b3.trans (Pre.Od (show lo<=lo+m-(q+1) by lia) (show lo+m<=(arrOf S3).size by lia))
     have d4:Dg r (arrOf (setArr S3 (mirror (arrOf S3) (lo+m-(q+1)) (lo+m) ((lo+m-(lo+m-(q+1))) / 2)))) lo (lo+m):=λi j h1 h2 h3=>by
      show Rk r (mirror (arrOf S3) _ _ _) j<=Rk r (mirror (arrOf S3) _ _ _) i
      rw[bY (by lia) b6,bY (by lia) b6]
      exact b4 i j h1 h2 h3
     have p4:pendingOf (setArr S3 (mirror (arrOf S3) (lo+m-(q+1)) (lo+m) ((lo+m-(lo+m-(q+1))) / 2)))=pendingOf st:=b2
     generalize setArr S3 (mirror (arrOf S3) (lo+m-(q+1)) (lo+m) ((lo+m-(lo+m-(q+1))) / 2))=S4 at B4 e4 d4 p4 ⊢
     refine wpS_bind (nX ?_)
     have zX:=B4.size
     have B2:=B4.put (mirror_perm _ lo (lo+m) ((lo+m-lo) / 2))
     have e2:Pre lo (arrOf st) (arrOf (setArr S4 (mirror (arrOf S4) lo (lo+m) ((lo+m-lo) / 2)))):=e4.trans (Pre.Od (Nat.le_refl lo) (show lo+m<=_ by rw[zX];lia))
     have s2:Sg r (mirror (arrOf S4) lo (lo+m) ((lo+m-lo) / 2)) lo (lo+m):=λi j h1 h2 h3=>by
      rw[eC (by rw[zX];lia),eC (by rw[zX];lia),if_pos (by lia),if_pos (by lia)]
      exact d4 _ _ (by lia) (by lia) (by lia)
     have p2:pendingOf (setArr S4 (mirror (arrOf S4) lo (lo+m) ((lo+m-lo) / 2)))=pendingOf st:=p4
     have Hu:Sg r (arrOf (setArr S4 (mirror (arrOf S4) lo (lo+m) ((lo+m-lo) / 2)))) lo (lo+m):=s2
     clear s2
     generalize setArr S4 (mirror (arrOf S4) lo (lo+m) ((lo+m-lo) / 2))=S2 at B2 p2 Hu e2 ⊢
     have s2:=Hu
     refine wpS_bind (wpS_mono (wpS_forRange (a:=m) (I:=λx c aC=>aC=S2/\c=(none,x)/\Sg r (arrOf S2) lo (lo+x))
      (Q:=λc aC=>aC=S2/\∃n,c=(none,n)/\m<=n/\n<=dj/\Sg r (arrOf S2) lo (lo+n)/\(n=dj\/Rk r (arrOf S2) (lo+n)<Rk r (arrOf S2) (lo+n-1))) ?stepya ?finya ⟨rfl,rfl,s2⟩) ?postya)
     case finya=>
      rintro c aC ⟨rfl,rfl,s'⟩
      rw[show max (m) dj=dj by lia]at s' ⊢
      exact⟨rfl,dj,rfl,by lia,Nat.le_refl _,s',.inl rfl⟩
     case stepya=>
      rintro x c aC Fu Uy ⟨e0,rfl,s'⟩
      replace e0:=e0.symm;subst e0
      try dsimp only
      refine wpS_bind (gL C B2 (by lia) (by lia) ?_)
      try dsimp only
      refine aD (λhc=>?_) (λhc=>?_)
      ·exact wpS_pure ⟨rfl,x,rfl,Fu,by lia,s',.inr (of_decide_eq_true hc)⟩
      ·have ja:=λz=>hc (decide_eq_true z)
       refine wpS_pure ⟨rfl,rfl,λi j h1 h2 h3=>?_⟩
       by_cases hj:j<lo+x
       ·exact s' i j h1 h2 hj
       ·have qm:j=lo+x:=by lia
        subst qm
        by_cases hi:i=lo+x
        ·subst hi;exact Int.le_refl _
        ·have:=s' i (lo+x-1) h1 (by lia) (by lia)
         exact Int.le_trans this (Int.not_lt.mp ja)
     case postya=>
      intro c aC fi
      refine hide λgG hG=>?_
      obtain⟨e0,n,rfl,Zj,qI,s',WL⟩:=fi
      refine hG ?_
      replace e0:=e0.symm;subst e0
      try dsimp only
      exact wpS_pure (h n _ B2 p2 e2 (by lia) qI s')
    ·refine wpS_bind (nX ?_)
     have zX:=b1.size
     have B2:=b1.put (mirror_perm _ lo (lo+m) ((lo+m-lo) / 2))
     have e2:Pre lo (arrOf st) (arrOf (setArr S3 (mirror (arrOf S3) lo (lo+m) ((lo+m-lo) / 2)))):=b3.trans (Pre.Od (Nat.le_refl lo) (show lo+m<=_ by rw[zX];lia))
     have s2:Sg r (mirror (arrOf S3) lo (lo+m) ((lo+m-lo) / 2)) lo (lo+m):=λi j h1 h2 h3=>by
      rw[eC (by rw[zX];lia),eC (by rw[zX];lia),if_pos (by lia),if_pos (by lia)]
      exact b4 _ _ (by lia) (by lia) (by lia)
     have p2:pendingOf (setArr S3 (mirror (arrOf S3) lo (lo+m) ((lo+m-lo) / 2)))=pendingOf st:=b2
     have Hu:Sg r (arrOf (setArr S3 (mirror (arrOf S3) lo (lo+m) ((lo+m-lo) / 2)))) lo (lo+m):=s2
     clear s2
     generalize setArr S3 (mirror (arrOf S3) lo (lo+m) ((lo+m-lo) / 2))=S2 at B2 p2 Hu e2 ⊢
     have s2:=Hu
     refine wpS_bind (wpS_mono (wpS_forRange (a:=m) (I:=λx c aC=>aC=S2/\c=(none,x)/\Sg r (arrOf S2) lo (lo+x))
      (Q:=λc aC=>aC=S2/\∃n,c=(none,n)/\m<=n/\n<=dj/\Sg r (arrOf S2) lo (lo+n)/\(n=dj\/Rk r (arrOf S2) (lo+n)<Rk r (arrOf S2) (lo+n-1))) ?stepyb ?finyb ⟨rfl,rfl,s2⟩) ?postyb)
     case finyb=>
      rintro c aC ⟨rfl,rfl,s'⟩
      rw[show max (m) dj=dj by lia]at s' ⊢
      exact⟨rfl,dj,rfl,by lia,Nat.le_refl _,s',.inl rfl⟩
     case stepyb=>
      rintro x c aC Fu Uy ⟨e0,rfl,s'⟩
      replace e0:=e0.symm;subst e0
      try dsimp only
      refine wpS_bind (gL C B2 (by lia) (by lia) ?_)
      try dsimp only
      refine aD (λhc=>?_) (λhc=>?_)
      ·exact wpS_pure ⟨rfl,x,rfl,Fu,by lia,s',.inr (of_decide_eq_true hc)⟩
      ·have ja:=λz=>hc (decide_eq_true z)
       refine wpS_pure ⟨rfl,rfl,λi j h1 h2 h3=>?_⟩
       by_cases hj:j<lo+x
       ·exact s' i j h1 h2 hj
       ·have qm:j=lo+x:=by lia
        subst qm
        by_cases hi:i=lo+x
        ·subst hi;exact Int.le_refl _
        ·have:=s' i (lo+x-1) h1 (by lia) (by lia)
         exact Int.le_trans this (Int.not_lt.mp ja)
     case postyb=>
      intro c aC fi
      refine hide λgG hG=>?_
      obtain⟨e0,n,rfl,Zj,qI,s',WL⟩:=fi
      refine hG ?_
      replace e0:=e0.symm;subst e0
      try dsimp only
      exact wpS_pure (h n _ B2 p2 e2 (by lia) qI s')
end
theorem yj:∀(l:List Keyed) (n:Nat) (xs:Array Keyed) (sa:Nat),sa+n+l.length<=xs.size->∀k:Nat,
  ((l.zipIdx n).foldl (λa (q:Keyed×Nat)=>a.setIfInBounds (sa+q.2) q.1) xs)[k]?=if sa+n<=k/\k<sa+n+l.length then l[k-(sa+n)]? else xs[k]?
 | [],n,xs,sa,_,k=>by rw[if_neg (by simp)];rfl
 | z::l,n,xs,sa,h,k=>by
  rw[List.length_cons]at h
  show(List.foldl _ (xs.setIfInBounds (sa+n) z) (l.zipIdx (n+1)))[k]?=_
  rw[yj l (n+1) _ sa (by rw[Array.size_setIfInBounds];lia) k,List.length_cons]
  by_cases h1:sa+(n+1)<=k/\k<sa+(n+1)+l.length
  ·rw[if_pos h1,if_pos (by lia),show k-(sa+n)=(k-(sa+(n+1)))+1 by lia,List.getElem?_cons_succ]
  ·rw[if_neg h1]
   by_cases h2:k=sa+n
   ·subst h2
    rw[if_pos (by lia),Nat.sub_self,List.getElem?_cons_zero,Array.getElem?_setIfInBounds_self_of_lt (by lia)]
   ·rw[if_neg (by lia),Array.getElem?_setIfInBounds_ne (by lia)]
theorem Kp(R:Array Keyed)(xs:Array Keyed)(sa:Nat):(R.toList.zipIdx.foldl (λa (x:Keyed×Nat)=>match x with | (p,j)=>a.setIfInBounds (sa+j) p) xs)=(R.toList.zipIdx.foldl (λa (q:Keyed×Nat)=>a.setIfInBounds (sa+q.2) q.1) xs):=rfl
section
variable {r:Keyed->Int}{xs ys:Array Keyed}
theorem Sg.congr{lo hi:Nat}(h:Sg r xs lo hi)(e:∀k,lo<=k->k<hi->ys[k]?=xs[k]?):Sg r ys lo hi:=λi j h1 h2 h3=>by
 rw[Rk.congr (e i h1 (by lia)),Rk.congr (e j (by lia) h3)];exact h i j h1 h2 h3
theorem Bn{lo hi:Nat}(h:Sg r xs lo hi)(hh:hi<=xs.size):gY r (xs.extract lo hi).toList:=by
 refine List.pairwise_iff_getElem.mpr λi j J' Fs J8=>?_
 have s1:(xs.extract lo hi).toList.length=hi-lo:=by rw[Array.length_toList,Array.size_extract];lia
 rw[s1]at J' Fs
 have:=h (lo+i) (lo+j) (by lia) (by lia) (by lia)
 rw[Rk.eq (by lia),Rk.eq (by lia)]at this
 simpa using this
theorem Og{L:List Keyed}(h:gY r L){u:Nat}(e:∀k,k<L.length->ys[u+k]?=L[k]?):Sg r ys u (u+L.length):=λi j h1 h2 h3=>by
 have ei:=e (i-u) (by lia)
 have ej:=e (j-u) (by lia)
 rw[show u+(i-u)=i by lia]at ei
 rw[show u+(j-u)=j by lia]at ej
 have J':i-u<L.length:=by lia
 have Fs:j-u<L.length:=by lia
 unfold Rk
 rw[ei,ej,List.getElem?_eq_getElem J',List.getElem?_eq_getElem Fs]
 rcases Nat.lt_or_eq_of_le h2 with z | z
 ·exact(List.pairwise_iff_getElem.mp h) (i-u) (j-u) J' Fs (by lia)
 ·subst z;exact Int.le_refl _
def cR(r:Keyed->Int)(xs:Array Keyed):Nat->List (Nat×Nat×Nat)->Nat->Prop
 | lo,[],hi=>lo=hi
 | lo,p::ps,hi=>p.1=lo/\1<=p.2.1/\Sg r xs lo (lo+p.2.1)/\cR r xs (lo+p.2.1) ps hi
theorem cR.le:∀{lo:Nat} {ps:List (Nat×Nat×Nat)} {hi:Nat},cR r xs lo ps hi->lo+ps.length<=hi
 | lo,[],hi,h=>by have:lo=hi:=h;simp;lia
 | lo,p::ps,hi,⟨h1,h2,_,h4⟩=>by have:=h4.le;rw[List.length_cons];lia
theorem cR.congr:∀{lo:Nat} {ps:List (Nat×Nat×Nat)} {hi:Nat},cR r xs lo ps hi->(∀k,lo<=k->k<hi->ys[k]?=xs[k]?)->cR r ys lo ps hi
 | lo,[],hi,h,_=>h
 | lo,p::ps,hi,⟨h1,h2,h3,h4⟩,e=>⟨h1,h2,h3.congr λk a b=>e k a (by have:=h4.le;lia),h4.congr λk a b=>e k (by lia) b⟩
theorem cR.app:∀{lo:Nat} {ps qs:List (Nat×Nat×Nat)} {hi:Nat},cR r xs lo (ps++qs) hi↔∃m,cR r xs lo ps m/\cR r xs m qs hi
 | lo,[],qs,hi=>⟨λh=>⟨lo,rfl,h⟩,λ⟨m,h1,h2⟩=>by have:lo=m:=h1;subst this;exact h2⟩
 | lo,p::ps,qs,hi=>⟨λ⟨h1,h2,h3,h4⟩=>by
   obtain⟨m,a,b⟩:=cR.app.mp h4
   exact⟨m,⟨h1,h2,h3,a⟩,b⟩,λ⟨m,⟨h1,h2,h3,a⟩,b⟩=>⟨h1,h2,h3,cR.app.mpr ⟨m,a,b⟩⟩⟩
end
theorem Iz{xs ys M:List Keyed}{u v:Nat}(huv:u<=v)(hM:M.Perm ((xs.drop u).take (v-u)))(e:ys=xs.take u++M++xs.drop v):ys.Perm xs:=by
 have e2:xs=xs.take u++(xs.drop u).take (v-u)++xs.drop v:=by
  have h1:=(List.take_append_drop u xs).symm
  have h2:=(List.take_append_drop (v-u) (xs.drop u)).symm
  rw[List.drop_drop,show u+(v-u)=v by lia]at h2
  rw[List.append_assoc,<-h2];exact h1
 rw[e]
 conv=>rhs;rw[e2]
 exact List.Perm.append_right _ (List.Perm.append_left _ hM)
section
variable {prog:Program}{w:World}{A:Around}{E:Value->Shared->Prop}{s:Shared}{κ:SortKind}{r:Keyed->Int}{a₀:Array Keyed}
theorem Fz{α:Type}(pre post:List α)(x y z:α):((pre++x::y::post).set pre.length z).eraseIdx (pre.length+1)=pre++z::post:=by
 rw[List.set_append_right _ _ (Nat.le_refl _),Nat.sub_self,List.set_cons_zero,List.eraseIdx_append_of_length_le (by lia)]
 simp
theorem Hs(C:Gj prog w A s κ r a₀){st:SortSt}{pre post:List (Nat×Nat×Nat)}{p q:Nat×Nat×Nat}{hi:Nat}{Q:Bool->SortSt->Prop}(B:SB a₀ κ st)(hp:(pendingOf st).toList=pre++p::q::post)(sg:cR r (arrOf st) 0 (pre++p::q::post) hi)(hh:hi<=a₀.size)
  (h:∀bf,SB a₀ κ bf->(pendingOf bf).toList=pre++(p.1,p.2.1+q.2.1,p.2.2)::post->cR r (arrOf bf) 0 (pre++(p.1,p.2.1+q.2.1,p.2.2)::post) hi->(∀k,hi<=k->(arrOf bf)[k]?=(arrOf st)[k]?)->Q true bf):wpS (model prog w) A E s (mergeAt' pre.length) Q st:=by
 refine hide λgG hG=>?_
 obtain⟨sa,na,pw⟩:=p
 obtain⟨sb,nb,pw2⟩:=q
 obtain⟨m,sg1,e1,g1,g2,e2,g3,g4,sg2⟩:=cR.app.mp sg
 refine hG ?_
 dsimp only at e1 g1 g2 e2 g3 g4 sg2 h
 subst e1 e2
 have hm:=sg2.le
 have hsz:=B.size
 have hU:∀z∈arrOf st,z∈a₀:=λz hz=>B.mem hz
 have sg0:∀ys:Array Keyed,(∀k,k<sa->ys[k]?=(arrOf st)[k]?)->(∀k,sa+na+nb<=k->ys[k]?=(arrOf st)[k]?)->Sg r ys sa (sa+na+nb)->cR r ys 0 (pre++(sa,na+nb,pw)::post) hi:=λys k1 k2 k3=>
  cR.app.mpr ⟨sa,sg1.congr λk _ b=>k1 k b,rfl,by show 1<=na+nb;lia,by rw[<-Nat.add_assoc];exact k3,by
   show cR r ys (sa+(na+nb)) post hi
   rw[<-Nat.add_assoc];exact sg2.congr λk a _=>k2 k a⟩
 have x1:(pendingOf st)[pre.length]?=some (sa,na,pw):=by rw[<-Array.getElem?_toList,hp];simp
 have x2:(pendingOf st)[pre.length+1]?=some (sa+na,nb,pw2):=by rw[<-Array.getElem?_toList,hp,List.getElem?_append_right (by lia)];simp
 rw[Sz]
 refine wpS_bind (wpS_get ?_)
 rw[x1,x2]
 dsimp only
 have pe:(((pendingOf st).setIfInBounds pre.length (sa,na+nb,pw)).eraseIdxIfInBounds (pre.length+1)).toList=pre++(sa,na+nb,pw)::post:=by
  have hl:pre.length+1<(pendingOf st).size:=by rw[<-Array.length_toList,hp];simp
  rw[Array.eraseIdxIfInBounds,dif_pos (by rw[Array.size_setIfInBounds];exact hl),Array.toList_eraseIdx,Array.toList_setIfInBounds,hp]
  exact Fz pre post _ _ _
 have Z7:∀{Q':PUnit->SortSt->Prop} {v st0:SortSt},Q' ⟨⟩ v->wpS (model prog w) A E s (set v:StateT SortSt Sem PUnit) Q' st0:=λ{Q' v st0} hq=>by
  unfold wpS;rw[StateT.run_set];exact wpAny_pure ⟨rfl,hq⟩
 refine wpS_bind (Z7 ?_)
 have B1:SB a₀ κ (setPending st (((pendingOf st).setIfInBounds pre.length (sa,na+nb,pw)).eraseIdxIfInBounds (pre.length+1))):=⟨B.perm,B.kind,B.ok⟩
 have q1:(pendingOf (setPending st (((pendingOf st).setIfInBounds pre.length (sa,na+nb,pw)).eraseIdxIfInBounds (pre.length+1)))).toList=pre++(sa,na+nb,pw)::post:=pe
 have q2:arrOf (setPending st (((pendingOf st).setIfInBounds pre.length (sa,na+nb,pw)).eraseIdxIfInBounds (pre.length+1)))=arrOf st:=rfl
 generalize setPending st (((pendingOf st).setIfInBounds pre.length (sa,na+nb,pw)).eraseIdxIfInBounds (pre.length+1))=S1 at B1 q1 q2 ⊢
 have aAd:∀i j (h1:i<=j) (h2:sa+j<(arrOf st).size),j<na->r ((arrOf st)[sa+i]'(by lia))<=r (arrOf st)[sa+j]:=λi j h1 h2 h3=>by
  have:=g2 (sa+i) (sa+j) (by lia) (by lia) (by lia)
  rwa [Rk.eq (by lia),Rk.eq h2]at this
 have aAc:∀i j (h1:i<=j) (h2:sa+na+j<(arrOf st).size),j<nb->r ((arrOf st)[sa+na+i]'(by lia))<=r (arrOf st)[sa+na+j]:=λi j h1 h2 h3=>by
  have:=g4 (sa+na+i) (sa+na+j) (by lia) (by lia) (by lia)
  rwa [Rk.eq (by lia),Rk.eq h2]at this
 have QB:sa+na<(arrOf st).size:=by lia
 refine wpS_bind (cE QB ?_)
 refine wpS_bind (uk C (by lia) (by lia) hU (hU _ (Array.getElem_mem _)) B1.kind aAd λk k1 k2 k3=>?_)
 dsimp only
 have k2':∀i,sa<=i->i<sa+k->Rk r (arrOf st) i<=Rk r (arrOf st) (sa+na):=λi h1 h2=>by
  have:=k2 (i-sa) (by lia) (by lia)
  rw[Rk.eq (by lia),Rk.eq QB]
  have e:sa+(i-sa)=i:=by lia
  simpa [isA,e]using this
 have k3':∀i,sa+k<=i->i<sa+na->Rk r (arrOf st) (sa+na)<Rk r (arrOf st) i:=λi h1 h2=>by
  have:=k3 (i-sa) (by lia) (by lia) (by lia)
  rw[Rk.eq QB,Rk.eq (by lia)]
  have e:sa+(i-sa)=i:=by lia
  simpa [isA,e]using this
 refine aD (λhz=>?_) (λhz=>?_)
 ·have Fn:na-k=0:=by simpa using hz
  refine wpS_pure (h S1 B1 q1 (sg0 _ (λk _=>by rw[q2]) (λk _=>by rw[q2]) ?_) (λk _=>by rw[q2]))
  rw[q2]
  intro i j h1 h2 h3
  by_cases ci:i<sa+na
  ·by_cases cj:j<sa+na
   ·exact g2 i j h1 h2 cj
   ·have a1:=k2' i h1 (by lia)
    have a2:=g4 (sa+na) j (by lia) (by lia) h3
    lia
  ·exact g4 i j (by lia) h2 h3
 have Fn:na-k≠0:=by simpa using hz
 have hla:sa+k+(na-k)-1=sa+na-1:=by lia
 refine wpS_bind (cE (by lia) ?_)
 refine wpS_bind (uk C (by lia) (by lia) hU (hU _ (Array.getElem_mem _)) B1.kind aAc λf f1 f2 f3=>?_)
 dsimp only
 have Qt:sa+na-1<(arrOf st).size:=by lia
 have ZQ:∀i,sa+na<=i->i<sa+na+f->Rk r (arrOf st) i<Rk r (arrOf st) (sa+na-1):=λi h1 h2=>by
  have:=f2 (i-(sa+na)) (by lia) (by lia)
  rw[Rk.eq (by lia),Rk.eq Qt]
  have e:sa+na+(i-(sa+na))=i:=by lia
  simpa [isA,e,hla]using this
 have f3':∀i,sa+na+f<=i->i<sa+na+nb->Rk r (arrOf st) (sa+na-1)<=Rk r (arrOf st) i:=λi h1 h2=>by
  have:=f3 (i-(sa+na)) (by lia) (by lia) (by lia)
  rw[Rk.eq Qt,Rk.eq (by lia)]
  have e:sa+na+(i-(sa+na))=i:=by lia
  simpa [isA,e,hla]using this
 refine aD (λtG=>?_) (λtG=>?_)
 ·have JV:f=0:=by simpa using tG
  refine wpS_pure (h S1 B1 q1 (sg0 _ (λk _=>by rw[q2]) (λk _=>by rw[q2]) ?_) (λk _=>by rw[q2]))
  rw[q2]
  intro i j h1 h2 h3
  by_cases ci:i<sa+na
  ·by_cases cj:j<sa+na
   ·exact g2 i j h1 h2 cj
   ·have a1:=g2 i (sa+na-1) h1 (by lia) (by lia)
    have a2:=f3' j (by lia) h3
    lia
  ·exact g4 i j (by lia) h2 h3
 have JV:f≠0:=by simpa using tG
 have zx:((arrOf st).extract (sa+k) (sa+na)).size=na-k:=by rw[Array.size_extract];lia
 have zy:((arrOf st).extract (sa+na) (sa+na+f)).size=f:=by rw[Array.size_extract];lia
 have ux:∀z∈(arrOf st).extract (sa+k) (sa+na),z∈a₀:=λz hz=>hU z (Array.mem_extract_iff_getElem.mp hz |> λ⟨i,hi,e⟩=>by rw[<-e];exact Array.getElem_mem _)
 have uy:∀z∈(arrOf st).extract (sa+na) (sa+na+f),z∈a₀:=λz hz=>hU z (Array.mem_extract_iff_getElem.mp hz |> λ⟨i,hi,e⟩=>by rw[<-e];exact Array.getElem_mem _)
 have sx:gY r ((arrOf st).extract (sa+k) (sa+na)).toList:=Bn (λi j h1 h2 h3=>g2 i j (by lia) h2 h3) (by lia)
 have sy:gY r ((arrOf st).extract (sa+na) (sa+na+f)).toList:=Bn (λi j h1 h2 h3=>g4 i j (by lia) h2 (by lia)) (by lia)
 have Z1:∀i (hi:i<((arrOf st).extract (sa+k) (sa+na)).size),r ((arrOf st).extract (sa+k) (sa+na))[i]=Rk r (arrOf st) (sa+k+i):=λi hi=>by
  rw[Rk.eq (by lia),Array.getElem_extract]
 have Z0:∀i (hi:i<((arrOf st).extract (sa+na) (sa+na+f)).size),r ((arrOf st).extract (sa+na) (sa+na+f))[i]=Rk r (arrOf st) (sa+na+i):=λi hi=>by
  rw[Rk.eq (by lia),Array.getElem_extract]
 have key:∀(R:Array Keyed) (g:Nat),Good r ((arrOf st).extract (sa+k) (sa+na)) ((arrOf st).extract (sa+na) (sa+na+f)) R->
   wpS (model prog w) A E s (do
    modify λst=>setArr st (R.toList.zipIdx.foldl (λa (x:Keyed×Nat)=>match x with | (p,j)=>a.setIfInBounds (sa+k+j) p) (arrOf st))
    let z <-get
    pure (failedOf z).isNone) Q (cJ S1 g):=λR g ⟨WK,hsR⟩=>by
  have lR:R.toList.length=na-k+f:=by
   have:=WK.length_eq
   rw[List.length_append,Array.length_toList,Array.length_toList,Array.length_toList,zx,zy]at this
   rw[Array.length_toList];exact this
  have fs:∀i:Nat,(R.toList.zipIdx.foldl (λa (x:Keyed×Nat)=>match x with | (p,j)=>a.setIfInBounds (sa+k+j) p) (arrOf st))[i]?=if sa+k<=i/\i<sa+na+f then R.toList[i-(sa+k)]? else (arrOf st)[i]?:=λi=>by
   rw[Kp,yj R.toList 0 (arrOf st) (sa+k) (by rw[lR];lia) i,lR]
   by_cases c:sa+k<=i/\i<sa+na+f
   ·rw[if_pos c,if_pos (by lia)];simp
   ·rw[if_neg c,if_neg (by lia)]
  refine wpS_bind (wpS_modify (wpS_bind (wpS_get (wpS_pure ?_))))
  have eA:arrOf (cJ S1 g)=arrOf st:=q2
  rw[eA]
  have B2:SB a₀ κ (setArr (cJ S1 g) (R.toList.zipIdx.foldl (λa (x:Keyed×Nat)=>match x with | (p,j)=>a.setIfInBounds (sa+k+j) p) (arrOf st))):=by
   refine⟨?_,B1.kind,B1.ok⟩
   refine Array.Perm.trans ?_ B.perm
   show(R.toList.zipIdx.foldl (λa (x:Keyed×Nat)=>match x with | (p,j)=>a.setIfInBounds (sa+k+j) p) (arrOf st)).Perm (arrOf st)
   refine Array.perm_iff_toList_perm.mpr (Iz (u:=sa+k) (v:=sa+na+f) (by lia) (M:=R.toList) ?_ ?_)
   ·refine WK.trans ?_
    show(((arrOf st).extract (sa+k) (sa+na)).toList++((arrOf st).extract (sa+na) (sa+na+f)).toList).Perm _
    rw[fW,fW,qN (x:=sa+na+f-(sa+k)) (e:=sa+na-(sa+k)) _ (by lia),List.drop_drop,show sa+k+(sa+na-(sa+k))=sa+na by lia,show sa+na+f-(sa+k)-(sa+na-(sa+k))=sa+na+f-(sa+na) by lia]
   ·refine List.ext_getElem? λi=>?_
    rw[Array.getElem?_toList,fs i]
    have lt1:((arrOf st).toList.take (sa+k)).length=sa+k:=by rw[List.length_take,Array.length_toList];lia
    by_cases c1:i<sa+k
    ·rw[if_neg (by lia),List.append_assoc,List.getElem?_append_left (by lia),List.getElem?_take,if_pos c1,Array.getElem?_toList]
    ·by_cases c2:i<sa+na+f
     ·rw[if_pos (by lia),List.append_assoc,List.getElem?_append_right (by lia),lt1,List.getElem?_append_left (by lia)]
     ·rw[if_neg (by lia),List.getElem?_append_right (by rw[List.length_append,lt1,lR];lia),List.length_append,lt1,lR,List.getElem?_drop,Array.getElem?_toList]
      congr 1
      lia
  have eok:(failedOf (setArr (cJ S1 g) (R.toList.zipIdx.foldl (λa (x:Keyed×Nat)=>match x with | (p,j)=>a.setIfInBounds (sa+k+j) p) (arrOf st)))).isNone=true:=by
   have:failedOf S1=none:=B1.ok
   show(failedOf S1).isNone=true
   rw[this];rfl
  rw[eok]
  refine h _ B2 q1 (sg0 _ (λi hi=>by show(R.toList.zipIdx.foldl _ (arrOf st))[i]?=_;rw[fs,if_neg (by lia)]) (λi hi=>by show(R.toList.zipIdx.foldl _ (arrOf st))[i]?=_;rw[fs,if_neg (by lia)]) ?_) (λi hi=>by show(R.toList.zipIdx.foldl _ (arrOf st))[i]?=_;rw[fs,if_neg (by lia)])
  show Sg r (R.toList.zipIdx.foldl (λa (x:Keyed×Nat)=>match x with | (p,j)=>a.setIfInBounds (sa+k+j) p) (arrOf st)) sa (sa+na+nb)
  generalize R.toList.zipIdx.foldl (λa (x:Keyed×Nat)=>match x with | (p,j)=>a.setIfInBounds (sa+k+j) p) (arrOf st)=ys at fs
  have out:∀i,¬(sa+k<=i/\i<sa+na+f)->Rk r ys i=Rk r (arrOf st) i:=λi hi=>Rk.congr (by rw[fs,if_neg hi])
  have mid:Sg r ys (sa+k) (sa+k+R.toList.length):=Og hsR λi hi=>by rw[fs,if_pos (by lia)];congr 1;lia
  rw[lR]at mid
  have src:∀i,sa+k<=i->i<sa+na+f->∃t,sa+k<=t/\t<sa+na+f/\Rk r ys i=Rk r (arrOf st) t:=λi h1 h2=>by
   have hi:i-(sa+k)<R.toList.length:=by lia
   have e:=fs i
   rw[if_pos ⟨h1,h2⟩,List.getElem?_eq_getElem hi]at e
   have hm:=WK.mem_iff.mp (List.getElem_mem hi)
   have e3:Rk r ys i=r R.toList[i-(sa+k)]:=by unfold Rk;rw[e]
   rcases List.mem_append.mp hm with hm | hm
   ·obtain⟨t,ht,et⟩:=List.mem_iff_getElem.mp hm
    rw[Array.length_toList]at ht
    have et':((arrOf st).extract (sa+k) (sa+na))[t]=R.toList[i-(sa+k)]:=by simpa using et
    exact⟨sa+k+t,by lia,by lia,by rw[e3,<-et',Z1 t ht]⟩
   ·obtain⟨t,ht,et⟩:=List.mem_iff_getElem.mp hm
    rw[Array.length_toList]at ht
    have et':((arrOf st).extract (sa+na) (sa+na+f))[t]=R.toList[i-(sa+k)]:=by simpa using et
    exact⟨sa+na+t,by lia,by lia,by rw[e3,<-et',Z0 t ht]⟩
  have low:∀i t,sa<=i->i<sa+k->sa+k<=t->t<sa+na+nb->Rk r (arrOf st) i<=Rk r (arrOf st) t:=λi t h1 h2 h3 h4=>by
   by_cases c:t<sa+na
   ·exact g2 i t h1 (by lia) c
   ·have a1:=k2' i h1 h2
    have a2:=g4 (sa+na) t (by lia) (by lia) h4
    lia
  have high:∀t j,sa<=t->t<sa+na+f->sa+na+f<=j->j<sa+na+nb->Rk r (arrOf st) t<=Rk r (arrOf st) j:=λt j h1 h2 h3 h4=>by
   by_cases c:t<sa+na
   ·have a1:=g2 t (sa+na-1) h1 (by lia) (by lia)
    have a2:=f3' j h3 h4
    lia
   ·exact g4 t j (by lia) (by lia) h4
  intro i j h1 h2 h3
  by_cases ci:i<sa+k
  ·rw[out i (by lia)]
   by_cases cj:j<sa+k
   ·rw[out j (by lia)];exact g2 i j h1 h2 (by lia)
   ·by_cases cj2:j<sa+na+f
    ·refine hide λgG hG=>?_
     obtain⟨t,t1,t2,t3⟩:=src j (by lia) cj2
     refine hG ?_
     rw[t3];exact low i t h1 ci t1 (by lia)
    ·rw[out j (by lia)];exact low i j h1 ci (by lia) h3
  ·by_cases ci2:i<sa+na+f
   ·by_cases cj2:j<sa+na+f
    ·exact mid i j (by lia) h2 (by lia)
    ·refine hide λgG hG=>?_
     obtain⟨t,t1,t2,t3⟩:=src i (by lia) ci2
     refine hG ?_
     rw[t3,out j (by lia)];exact high t j (by lia) t2 (by lia) h3
   ·rw[out i (by lia),out j (by lia)];exact g4 i j (by lia) h2 h3
 have h0x:0<((arrOf st).extract (sa+k) (sa+na)).size:=by lia
 have ZL:0<((arrOf st).extract (sa+na) (sa+na+f)).size:=by lia
 have c0:r ((arrOf st).extract (sa+na) (sa+na+f))[0]<r ((arrOf st).extract (sa+k) (sa+na))[0]:=by
  rw[Z0 0 ZL,Z1 0 h0x];exact k3' _ (by lia) (by lia)
 have cl:∀v∈(arrOf st).extract (sa+na) (sa+na+f),r v<=r (((arrOf st).extract (sa+k) (sa+na))[((arrOf st).extract (sa+k) (sa+na)).size-1]'(by lia)):=λv hv=>by
  obtain⟨i,hi,rfl⟩:=Array.mem_iff_getElem.mp hv
  rw[Z0 i hi,Z1 _ (by lia)]
  have:=ZQ (sa+na+i) (by lia) (by lia)
  rw[zx,show sa+k+(na-k-1)=sa+na-1 by lia]
  lia
 have cf:∀v∈(arrOf st).extract (sa+k) (sa+na),r ((arrOf st).extract (sa+na) (sa+na+f))[0]<=r v:=λv hv=>by
  obtain⟨i,hi,rfl⟩:=Array.mem_iff_getElem.mp hv
  rw[Z0 0 ZL,Z1 i hi]
  have:=k3' (sa+k+i) (by lia) (by lia)
  simp only[Nat.add_zero]
  lia
 refine aD (λ_=>?_) (λ_=>?_)
 ·refine wpS_bind (VF C B1.kind ux uy sx sy h0x ZL (by lia) cl λR g hR=>?_)
  exact key R g hR
 ·refine wpS_bind (VG C B1.kind ux uy sx sy h0x ZL cf cl λR g hR=>?_)
  exact key R g hR
end
theorem wa{α:Type}{l:List α}{i:Nat}(h:i+1<l.length):l=l.take i++l[i]::l[i+1]::l.drop (i+2):=by
 rw[<-List.drop_eq_getElem_cons h,<-List.drop_eq_getElem_cons (by omega)]
 exact(List.take_append_drop i l).symm
theorem wc{α:Type}{l:List α}{i:Nat}(h:i+1<l.length):(l.take i).length=i:=by rw[List.length_take];omega
theorem mQ{α β:Type}(f:α->β)(g:α->α)(hg:∀x,f (g x)=f x):∀{l:List α} (i:Nat),(l.modify i g).map f=l.map f
 | [],i=>by cases i <;> rfl
 | x::l,0=>by simp[hg]
 | x::l,i+1=>by simp[mQ f g hg (l:=l) i]
theorem cR.pow{r:Keyed->Int}{xs:Array Keyed}:∀{lo:Nat} {ps qs:List (Nat×Nat×Nat)} {hi:Nat},cR r xs lo ps hi->qs.map (λp=>(p.1,p.2.1))=ps.map (λp=>(p.1,p.2.1))->cR r xs lo qs hi
 | lo,[],qs,hi,h,e=>by
  have:qs=[]:=by simpa using e
  rw[this];exact h
 | lo,p::ps,[],hi,h,e=>by simp at e
 | lo,p::ps,q::qs,hi,⟨h1,h2,h3,h4⟩,e=>by
  rw[List.map_cons,List.map_cons]at e
  injection e with e1 e2
  injection e1 with e3 e4
  exact⟨e3.trans h1,by rw[e4];exact h2,by rw[e4];exact h3,by rw[e4];exact h4.pow e2⟩
section
variable {prog:Program}{w:World}{A:Around}{E:Value->Shared->Prop}{s:Shared}{κ:SortKind}{r:Keyed->Int}{a₀:Array Keyed}
theorem Rt(C:Gj prog w A s κ r a₀){st:SortSt}{Q:Unit->SortSt->Prop}(B:SB a₀ κ st)(Gq:pendingOf st = #[])(h2:2<=a₀.size)
  (h:∀bf,SB a₀ κ bf->Sg r (arrOf bf) 0 a₀.size->Q () bf):wpS (model prog w) A E s sortRuns' Q st:=by
 rw[sortRuns'_eq]
 refine wpS_bind (wpS_get ?_)
 try dsimp only
 rw[B.size]
 generalize minRun' a₀.size a₀.size 0=mr
 refine wpS_bind (wpS_mono (wpS_forRange (a:=0) (I:=λx c bf=>∃lo,c=(none,lo)/\SB a₀ κ bf/\lo<=a₀.size/\min x a₀.size<=lo/\cR r (arrOf bf) 0 (pendingOf bf).toList lo)
  (Q:=λc bf=>c=(none,a₀.size)/\SB a₀ κ bf/\cR r (arrOf bf) 0 (pendingOf bf).toList a₀.size) ?step ?fin ⟨0,rfl,B,by omega,by omega,by rw[Gq];rfl⟩) ?post)
 case fin=>
  rintro c bf ⟨lo,rfl,b1,b2,b3,b4⟩
  have e:lo=a₀.size:=by omega
  subst e
  exact⟨rfl,b1,b4⟩
 case post=>
  rintro c bf ⟨rfl,b1,b2⟩
  try dsimp only
  refine wpS_bind (wpS_mono (wpS_forRange (a:=0) (I:=λx c aC=>c=(none,())/\SB a₀ κ aC/\cR r (arrOf aC) 0 (pendingOf aC).toList a₀.size/\(pendingOf aC).size+x<=a₀.size+1)
   (Q:=λc aC=>c=(none,())/\SB a₀ κ aC/\cR r (arrOf aC) 0 (pendingOf aC).toList a₀.size/\(pendingOf aC).size<=1) ?fstep ?ffin ⟨rfl,b1,b2,by have:=b2.le;rw[Array.length_toList]at this;omega⟩) ?fpost)
  case ffin=>
   rintro c aC ⟨hc,d1,d2,d3⟩
   exact⟨hc,d1,d2,by omega⟩
  case fpost=>
   rintro c aC ⟨rfl,d1,d2,d3⟩
   refine wpS_pure (h aC d1 ?_)
   rw[<-Array.length_toList]at d3
   revert d2 d3
   generalize (pendingOf aC).toList=ps
   intro d2 d3
   match ps,d2,d3 with
   | [],d2,_=>
    have:0=a₀.size:=d2
    omega
   | [p],⟨e1,e2,e3,e4⟩,_=>
    have e5:0+p.2.1=a₀.size:=e4
    rw[<-e5]
    exact e3
   | _::_::_,_,d3=>simp at d3
  case fstep=>
   rintro x c S4 _ hx ⟨rfl,d1,d2,d3⟩
   refine wpS_bind (wpS_get ?_)
   refine aD (λhz=>?_) (λhz=>?_)
   ·exact wpS_pure ⟨rfl,d1,d2,hz⟩
   ·generalize Zm:(if (Option.any (λx=>decide (x<((pendingOf S4)[(pendingOf S4).size-2+1]?.elim 0 λx=>x.2.1))) (if (pendingOf S4).size-2 > 0 then Option.map (λx=>x.2.1) (pendingOf S4)[(pendingOf S4).size-2-1]? else none))=true then (pendingOf S4).size-2-1 else (pendingOf S4).size-2)=i0
    have J':i0+1<(pendingOf S4).toList.length:=by
     have le:∀(c:Bool) (m:Nat),(if c=true then m-1 else m)<=m:=λc m=>by cases c <;> simp
     have:=le (Option.any (λx=>decide (x<((pendingOf S4)[(pendingOf S4).size-2+1]?.elim 0 λx=>x.2.1))) (if (pendingOf S4).size-2 > 0 then Option.map (λx=>x.2.1) (pendingOf S4)[(pendingOf S4).size-2-1]? else none)) ((pendingOf S4).size-2)
     rw[Array.length_toList]
     rw[Zm]at this
     omega
    have cut:=wa J'
    have lt:=wc J'
    have QM:=d2
    rw[cut]at QM
    have run:=Hs (E:=E) C d1 cut QM (Nat.le_refl _) (Q:=λbb aC=>bb=true/\SB a₀ κ aC/\cR r (arrOf aC) 0 (pendingOf aC).toList a₀.size/\(pendingOf aC).size+(x+1)<=a₀.size+1) λaC b1 b2 b3 b4=>⟨rfl,b1,by rw[b2];exact b3,by
     rw[<-Array.length_toList,b2,List.length_append,List.length_cons,List.length_take,List.length_drop]
     rw[<-Array.length_toList]at d3
     omega⟩
    rw[lt]at run
    refine wpS_bind (wpS_mono run λbb aC ⟨e,c1,c2,c3⟩=>?_)
    subst e
    exact wpS_pure ⟨rfl,c1,c2,c3⟩
 case step=>
  rintro x c bf _ hx ⟨lo,rfl,b1,b2,b3,b4⟩
  try dsimp only
  refine aD (λhz=>?_) (λhz=>?_)
  ·have e:lo=a₀.size:=by omega
   subst e
   exact wpS_pure ⟨rfl,b1,b4⟩
  refine wpS_bind (MP C (by omega) (by omega) b1 λn0 S1 B1 p1 e1 Zk WY s1=>?_)
  try dsimp only
  have g1:cR r (arrOf S1) 0 (pendingOf S1).toList lo:=by rw[p1];exact b4.congr λk _ hk=>e1 k hk
  refine aD (λtG=>?_) (λtG=>?_)
  ·refine wpS_bind (wpS_lift (wpAny_rule ⟨rfl,?_⟩))
   refine wpS_bind (VH C (by omega) (by omega) B1 s1 λS2 B2 p2 e2 s2=>?_)
   simp only[Bool.not_true,Bool.false_eq_true,if_false]
   have g2:cR r (arrOf S2) 0 (pendingOf S2).toList lo:=by rw[p2];exact g1.congr λk _ hk=>e2 k hk
   have qI:1<=min (a₀.size-lo) mr:=by omega
   have Gr:lo+min (a₀.size-lo) mr<=a₀.size:=by omega
   clear tG
   generalize min (a₀.size-lo) mr=n at s2 qI Gr ⊢
   refine wpS_bind (wpS_get ?_)
   have V4:∀S5:SortSt,SB a₀ κ S5->cR r (arrOf S5) 0 (pendingOf S5).toList lo->Sg r (arrOf S5) lo (lo+n)->SB a₀ κ (setPending S5 ((pendingOf S5).push (lo,n,0)))/\cR r (arrOf S5) 0 ((pendingOf S5).push (lo,n,0)).toList (lo+n):=λS5 b1 b2 b3=>⟨⟨b1.perm,b1.kind,b1.ok⟩,by
    rw[Array.toList_push]
    exact cR.app.mpr ⟨lo,b2,rfl,qI,b3,rfl⟩⟩
   cases eb:(pendingOf S2).back? with
   | none=>
    try dsimp only
    obtain⟨c1,c2⟩:=V4 S2 B2 g2 s2
    exact wpS_bind (wpS_modify (wpS_pure ⟨lo+n,rfl,c1,by omega,by omega,c2⟩))
   | some t=>
    obtain⟨s1,n1,V3⟩:=t
    try dsimp only
    generalize power' a₀.size (2*s1+n1) (2*s1+n1+n1+n) a₀.size=pw
    refine wpS_bind (wpS_mono (wpS_forRange (I:=λ_ c aC=>c=(none,())/\SB a₀ κ aC/\cR r (arrOf aC) 0 (pendingOf aC).toList lo/\Sg r (arrOf aC) lo (lo+n))
     (Q:=λc aC=>c=(none,())/\SB a₀ κ aC/\cR r (arrOf aC) 0 (pendingOf aC).toList lo/\Sg r (arrOf aC) lo (lo+n)) ?mstepa (λ_ _ z=>z) ⟨rfl,B2,g2,s2⟩) ?mposta)
    case mposta=>
     rintro c S4 ⟨rfl,B4,g4,s4⟩
     try dsimp only
     refine wpS_bind (wpS_modify ?_)
     have B5:SB a₀ κ (setPending S4 ((pendingOf S4).modify ((pendingOf S4).size-1) λ(x:Nat×Nat×Nat)=>match x with | (st,len,_)=>(st,len,pw))):=⟨B4.perm,B4.kind,B4.ok⟩
     have g5:cR r (arrOf (setPending S4 ((pendingOf S4).modify ((pendingOf S4).size-1) λ(x:Nat×Nat×Nat)=>match x with | (st,len,_)=>(st,len,pw)))) 0 (pendingOf (setPending S4 ((pendingOf S4).modify ((pendingOf S4).size-1) λ(x:Nat×Nat×Nat)=>match x with | (st,len,_)=>(st,len,pw)))).toList lo:=by
      show cR r (arrOf S4) 0 ((pendingOf S4).modify ((pendingOf S4).size-1) λ(x:Nat×Nat×Nat)=>match x with | (st,len,_)=>(st,len,pw)).toList lo
      rw[Array.toList_modify]
      refine g4.pow (mQ _ _ ?_ _)
      intro x
      rfl
     have s5:Sg r (arrOf (setPending S4 ((pendingOf S4).modify ((pendingOf S4).size-1) λ(x:Nat×Nat×Nat)=>match x with | (st,len,_)=>(st,len,pw)))) lo (lo+n):=s4
     generalize setPending S4 ((pendingOf S4).modify ((pendingOf S4).size-1) λ(x:Nat×Nat×Nat)=>match x with | (st,len,_)=>(st,len,pw))=S5 at B5 g5 s5 ⊢
     obtain⟨c1,c2⟩:=V4 S5 B5 g5 s5
     exact wpS_bind (wpS_modify (wpS_pure ⟨lo+n,rfl,c1,by omega,by omega,c2⟩))
    case mstepa=>
     rintro z c S4 _ _ ⟨rfl,B4,g4,s4⟩
     refine wpS_bind (wpS_get ?_)
     by_cases hp:(pendingOf S4).size > 1
     ·have Oy:(pendingOf S4).size-2<(pendingOf S4).size:=by omega
      rw[if_pos hp,Array.getElem?_eq_getElem Oy]
      try dsimp only
      refine aD (λhq=>?_) (λhq=>?_)
      ·exact wpS_pure ⟨rfl,B4,g4,s4⟩
      ·have hl:(pendingOf S4).size-2+1<(pendingOf S4).toList.length:=by rw[Array.length_toList];omega
       have cut:=wa hl
       have lt:=wc hl
       have QM:=g4
       rw[cut]at QM
       have run:=Hs (E:=E) C B4 cut QM (by omega) (Q:=λbb aC=>bb=true/\SB a₀ κ aC/\cR r (arrOf aC) 0 (pendingOf aC).toList lo/\Sg r (arrOf aC) lo (lo+n)) λaC b1 b2 b3 b4=>⟨rfl,b1,by rw[b2];exact b3,s4.congr λk h1 _=>b4 k h1⟩
       rw[lt]at run
       refine wpS_bind (wpS_mono run λbb aC ⟨e,b1,b2,b3⟩=>?_)
       subst e
       exact wpS_pure ⟨rfl,b1,b2,b3⟩
     ·rw[if_neg hp]
      exact wpS_pure ⟨rfl,B4,g4,s4⟩
  ·have B2:=B1
   have g2:=g1
   have s2:=s1
   have qI:=Zk
   have Gr:lo+n0<=a₀.size:=by omega
   clear tG Zk WY s1 B1 g1 p1 e1
   revert S1
   intro S2 B2 g2 s2
   generalize n0=n at s2 qI Gr ⊢
   refine wpS_bind (wpS_get ?_)
   have V4:∀S5:SortSt,SB a₀ κ S5->cR r (arrOf S5) 0 (pendingOf S5).toList lo->Sg r (arrOf S5) lo (lo+n)->SB a₀ κ (setPending S5 ((pendingOf S5).push (lo,n,0)))/\cR r (arrOf S5) 0 ((pendingOf S5).push (lo,n,0)).toList (lo+n):=λS5 b1 b2 b3=>⟨⟨b1.perm,b1.kind,b1.ok⟩,by
    rw[Array.toList_push]
    exact cR.app.mpr ⟨lo,b2,rfl,qI,b3,rfl⟩⟩
   cases eb:(pendingOf S2).back? with
   | none=>
    try dsimp only
    obtain⟨c1,c2⟩:=V4 S2 B2 g2 s2
    exact wpS_bind (wpS_modify (wpS_pure ⟨lo+n,rfl,c1,by omega,by omega,c2⟩))
   | some t=>
    obtain⟨s1,n1,V3⟩:=t
    try dsimp only
    generalize power' a₀.size (2*s1+n1) (2*s1+n1+n1+n) a₀.size=pw
    refine wpS_bind (wpS_mono (wpS_forRange (I:=λ_ c aC=>c=(none,())/\SB a₀ κ aC/\cR r (arrOf aC) 0 (pendingOf aC).toList lo/\Sg r (arrOf aC) lo (lo+n))
     (Q:=λc aC=>c=(none,())/\SB a₀ κ aC/\cR r (arrOf aC) 0 (pendingOf aC).toList lo/\Sg r (arrOf aC) lo (lo+n)) ?mstepb (λ_ _ z=>z) ⟨rfl,B2,g2,s2⟩) ?mpostb)
    case mpostb=>
     rintro c S4 ⟨rfl,B4,g4,s4⟩
     try dsimp only
     refine wpS_bind (wpS_modify ?_)
     have B5:SB a₀ κ (setPending S4 ((pendingOf S4).modify ((pendingOf S4).size-1) λ(x:Nat×Nat×Nat)=>match x with | (st,len,_)=>(st,len,pw))):=⟨B4.perm,B4.kind,B4.ok⟩
     have g5:cR r (arrOf (setPending S4 ((pendingOf S4).modify ((pendingOf S4).size-1) λ(x:Nat×Nat×Nat)=>match x with | (st,len,_)=>(st,len,pw)))) 0 (pendingOf (setPending S4 ((pendingOf S4).modify ((pendingOf S4).size-1) λ(x:Nat×Nat×Nat)=>match x with | (st,len,_)=>(st,len,pw)))).toList lo:=by
      show cR r (arrOf S4) 0 ((pendingOf S4).modify ((pendingOf S4).size-1) λ(x:Nat×Nat×Nat)=>match x with | (st,len,_)=>(st,len,pw)).toList lo
      rw[Array.toList_modify]
      refine g4.pow (mQ _ _ ?_ _)
      intro x
      rfl
     have s5:Sg r (arrOf (setPending S4 ((pendingOf S4).modify ((pendingOf S4).size-1) λ(x:Nat×Nat×Nat)=>match x with | (st,len,_)=>(st,len,pw)))) lo (lo+n):=s4
     generalize setPending S4 ((pendingOf S4).modify ((pendingOf S4).size-1) λ(x:Nat×Nat×Nat)=>match x with | (st,len,_)=>(st,len,pw))=S5 at B5 g5 s5 ⊢
     obtain⟨c1,c2⟩:=V4 S5 B5 g5 s5
     exact wpS_bind (wpS_modify (wpS_pure ⟨lo+n,rfl,c1,by omega,by omega,c2⟩))
    case mstepb=>
     rintro z c S4 _ _ ⟨rfl,B4,g4,s4⟩
     refine wpS_bind (wpS_get ?_)
     by_cases hp:(pendingOf S4).size > 1
     ·have Oy:(pendingOf S4).size-2<(pendingOf S4).size:=by omega
      rw[if_pos hp,Array.getElem?_eq_getElem Oy]
      try dsimp only
      refine aD (λhq=>?_) (λhq=>?_)
      ·exact wpS_pure ⟨rfl,B4,g4,s4⟩
      ·have hl:(pendingOf S4).size-2+1<(pendingOf S4).toList.length:=by rw[Array.length_toList];omega
       have cut:=wa hl
       have lt:=wc hl
       have QM:=g4
       rw[cut]at QM
       have run:=Hs (E:=E) C B4 cut QM (by omega) (Q:=λbb aC=>bb=true/\SB a₀ κ aC/\cR r (arrOf aC) 0 (pendingOf aC).toList lo/\Sg r (arrOf aC) lo (lo+n)) λaC b1 b2 b3 b4=>⟨rfl,b1,by rw[b2];exact b3,s4.congr λk h1 _=>b4 k h1⟩
       rw[lt]at run
       refine wpS_bind (wpS_mono run λbb aC ⟨e,b1,b2,b3⟩=>?_)
       subst e
       exact wpS_pure ⟨rfl,b1,b2,b3⟩
     ·rw[if_neg hp]
      exact wpS_pure ⟨rfl,B4,g4,s4⟩
end
theorem ft{n:Nat}(h:n<=1000000):n<=sizeLine:=Nat.le_of_lt (Nat.lt_of_le_of_lt h (by decide))
theorem vo{n:Nat}(h:n<=1000000):n<sizeLine:=Nat.lt_of_le_of_lt h (by decide)
theorem filter_lt{l:List Nat}{f g:Nat->Bool}(h:∀x∈l,f x=true->g x=true){y:Nat}(hy:y∈l)(h1:f y=false)(h2:g y=true):(l.filter f).length<(l.filter g).length:=by
 induction l with
 | nil=>cases hy
 | cons x l ih=>
  have le:(l.filter f).length<=(l.filter g).length:=by
   clear ih hy
   induction l with
   | nil=>exact Nat.le_refl _
   | cons z l ih2=>
    have e1:=h z (by simp)
    have ih3:=ih2 λu hu=>h u (by rcases List.mem_cons.mp hu with r | r <;> simp[r])
    rw[List.filter_cons,List.filter_cons]
    cases c1:f z <;> cases c2:g z <;> simp[c1,c2]at e1 ⊢ <;> lia
  rw[List.filter_cons,List.filter_cons]
  rcases List.mem_cons.mp hy with e | e
  ·subst e
   simp[h1,h2];lia
  ·have:=ih (λu hu=>h u (List.mem_cons_of_mem _ hu)) e
   have e1:=h x List.mem_cons_self
   cases c1:f x <;> cases c2:g x <;> simp[c1,c2]at e1 ⊢ <;> lia
theorem Ord.rank{b:Nat->Nat->Bool}{n:Nat}(O:Ord b n):∃ρ:Nat->Int,∀i j,i<n->j<n->(b i j=true↔ρ i<ρ j):=by
 have Wt:∀i,i<n->b i i=false:=λi hi=>by
  cases e:b i i with
  | false=>rfl
  | true=>have:=O.asy i i hi hi e;rw[e]at this;cases this
 have up:∀i j,i<n->j<n->b i j=true->(((List.range n).filter (b · i)).length:Int)<((List.range n).filter (b · j)).length:=λi j hi hj e=>by
  have:=filter_lt (l:=List.range n) (f:=(b · i)) (g:=(b · j)) (λk hk e'=>O.tr k i j (List.mem_range.mp hk) hi hj e' e) (List.mem_range.mpr hi) (Wt i hi) e
  lia
 refine⟨λi=>((List.range n).filter (b · i)).length,λi j hi hj=>⟨up i j hi hj,λh=>?_⟩⟩
 by_cases d:i=j
 ·subst d;lia
 ·rcases O.tot i j hi hj d with e | e
  ·exact e
  ·have:=up j i hj hi e
   dsimp only at h
   lia
section
variable {prog:Program}{w:World}{A:Around}{E:Value->Shared->Prop}{s:Shared}{κ:SortKind}
theorem xg{item:Nat->Keyed}{n:Nat}{b:Nat->Nat->Bool}{it:Array Keyed}(inj:∀i j,i<n->j<n->item i=item j->i=j)(O:Ord b n)(hn:2<=n)
  (hc:∀i j (Q:Bool->Shared->Prop),i<n->j<n->Q (b i j) s->wpAny (model prog w) A (keyLt' κ (item i).1 (item j).1) Q (λ_ _=>False) s) (hit:it.toList=(List.range n).map item) :
  wpAny (model prog w) A (sortRuns'.run (SortSt.mk' κ it #[] 7 none)) (λr s3=>s3=s/\∃p,qu p n/\yF b p n/\arrOf r.2=p.map item/\failedOf r.2=none) E s:=by
 obtain⟨ρ,hρ⟩:=O.rank
 obtain⟨g,hg⟩:∃g:Keyed->Nat,∀i,i<n->g (item i)=i:=by
  classical
  refine⟨λz=>if h:∃i,i<n/\item i=z then h.choose else 0,λi hi=>?_⟩
  have h:∃k,k<n/\item k=item i:=⟨i,hi,rfl⟩
  dsimp only
  rw[dif_pos h]
  exact inj _ _ h.choose_spec.1 hi h.choose_spec.2
 have mem:∀z∈it,∃i,i<n/\z=item i:=λz hz=>by
  have Fn:z∈it.toList:=by simpa using hz
  rw[hit]at Fn
  obtain⟨i,hi,e⟩:=List.mem_map.mp Fn
  exact⟨i,List.mem_range.mp hi,e.symm⟩
 have sz:it.size=n:=by rw[<-Array.length_toList,hit];simp
 have C:Gj prog w A s κ (λz=>ρ (g z)) it:=λx y Q hx hy hq=>by
  obtain⟨i,hi,rfl⟩:=mem x hx
  obtain⟨j,hj,rfl⟩:=mem y hy
  refine hc i j Q hi hj ?_
  have e:b i j=decide (ρ (g (item i))<ρ (g (item j))):=by
   rw[Bool.eq_iff_iff,decide_eq_true_eq,hg i hi,hg j hj];exact hρ i j hi hj
  rw[e];exact hq
 have run:=Rt (E:=E) (st:=SortSt.mk' κ it #[] 7 none) (Q:=λ_ bf=>∃p,qu p n/\yF b p n/\arrOf bf=p.map item/\failedOf bf=none) C ⟨Array.Perm.refl _,rfl,rfl⟩ rfl (by rw[sz];exact hn) λbf B sg=>?_
 ·exact run
 have hl:(arrOf bf).toList.Perm ((List.range n).map item):=by rw[<-hit];exact Array.perm_iff_toList_perm.mp B.perm
 have hb:(arrOf bf).toList.map (λz=>item (g z))=(arrOf bf).toList:=by
  have:∀z∈(arrOf bf).toList,item (g z)=z:=λz hz=>by
   obtain⟨i,hi,rfl⟩:=mem z (B.mem (by simpa using hz))
   rw[hg i hi]
  rw[List.map_congr_left this,List.map_id']
 have hp:((arrOf bf).toList.map g).Perm (List.range n):=by
  have:=hl.map g
  rw[List.map_map]at this
  have e:(List.range n).map (g ∘ item)=List.range n:=by
   have:=List.map_congr_left (l:=List.range n) (f:=g ∘ item) (g:=id) λi hi=>hg i (List.mem_range.mp hi)
   rw[this,List.map_id]
  rwa [e]at this
 refine⟨((arrOf bf).map g),⟨Array.perm_iff_toList_perm.mpr (by rw[Array.toList_map,List.toList_toArray];exact hp)⟩,λi hi=>?_,?_,B.ok⟩
 ·have hs':(arrOf bf).size=n:=by rw[B.size,sz]
  have P:qu ((arrOf bf).map g) n:=⟨Array.perm_iff_toList_perm.mpr (by rw[Array.toList_map,List.toList_toArray];exact hp)⟩
  have a1:=P.lt (by lia) i
  have a2:=P.lt (by lia) (i+1)
  have at_:∀k,k<n->Rk (λz=>ρ (g z)) (arrOf bf) k=ρ (sL ((arrOf bf).map g) k):=λk hk=>by
   rw[Rk.eq (by lia)]
   unfold sL
   rw[Array.getD_eq_getD_getElem?,Array.getElem?_map,Array.getElem?_eq_getElem (by lia)]
   rfl
  have h1:=sg i (i+1) (by lia) (by lia) (by lia)
  rw[at_ i (by lia),at_ (i+1) hi]at h1
  rcases O.tot _ _ a1 a2 (P.ne (by lia) hi (by lia)) with e | e
  ·exact e
  ·have:=(hρ _ _ a2 a1).mp e
   lia
 ·apply Array.ext'
  rw[Array.toList_map,Array.toList_map,List.map_map]
  exact hb.symm
end
end L2
end
section
namespace L2
open PySem PySem.Spec PySem.W PyProof.Rows Builtin
def bU(x y:List Int):Bool:=decide (x.length<y.length)||(decide (x.length=y.length)&&HT.lexLt x y)
theorem iO:∀x:List Int,HT.lexLt x x=false
 | []=>rfl
 | a::l=>by
  unfold HT.lexLt
  simp[iO l]
theorem uF:∀{x y:List Int},x.length=y.length->x≠y->HT.lexLt x y=true\/HT.lexLt y x=true
 | [],[],_,h=>absurd rfl h
 | a::l,b::m,hl,h=>by
  unfold HT.lexLt
  by_cases e:a=b
  ·subst e
   have:=uF (x:=l) (y:=m) (by simpa using hl) (λz=>h (by rw[z]))
   simpa using this
  ·simp only[e,Ne.symm e,decide_false,Bool.false_and,Bool.or_false,decide_eq_true_eq,if_false]
   lia
 | [],_::_,hl,_=>by simp at hl
 | _::_,[],hl,_=>by simp at hl
theorem uG:∀{x y:List Int},HT.lexLt x y=true->HT.lexLt y x=false
 | [],[],h=>by simp[HT.lexLt]at h
 | [],b::m,_=>rfl
 | a::l,[],h=>by simp[HT.lexLt]at h
 | a::l,b::m,h=>by
  unfold HT.lexLt at h ⊢
  by_cases e:a=b
  ·subst e
   simp at h ⊢
   exact uG h
  ·simp[e,Ne.symm e]at h ⊢
   lia
theorem xR:∀{x y z:List Int},HT.lexLt x y=true->HT.lexLt y z=true->HT.lexLt x z=true
 | [],[],_,h,_=>by simp[HT.lexLt]at h
 | [],b::m,[],_,h=>by simp[HT.lexLt]at h
 | [],b::m,c::n,_,_=>rfl
 | a::l,[],_,h,_=>by simp[HT.lexLt]at h
 | a::l,b::m,[],_,h=>by simp[HT.lexLt]at h
 | a::l,b::m,c::n,h1,h2=>by
  unfold HT.lexLt at h1 h2 ⊢
  by_cases e1:a=b
  ·subst e1
   by_cases e2:a=c
   ·subst e2
    simp at h1 h2 ⊢
    exact xR h1 h2
   ·simp[e2]at h1 h2 ⊢
    lia
  ·by_cases e2:b=c
   ·subst e2
    simp[e1]at h1 h2 ⊢
    lia
   ·by_cases e3:a=c
    ·subst e3
     simp[e1,e2]at h1 h2
     lia
    ·simp[e1,e2,e3]at h1 h2 ⊢
     lia
theorem kW{ss:List (List Int)}(nd:ss.Nodup):Ord (λi j=>bU (ss.getD i []) (ss.getD j [])) ss.length where
 tr:=λi j k hi hj hk h1 h2=>by
  unfold bU at *
  simp only[Bool.or_eq_true,Bool.and_eq_true,decide_eq_true_eq]at *
  rcases h1 with h1 | ⟨h1,l1⟩ <;> rcases h2 with h2 | ⟨h2,l2⟩
  ·exact .inl (by lia)
  ·exact .inl (by lia)
  ·exact .inl (by lia)
  ·exact .inr ⟨by lia,xR l1 l2⟩
 asy:=λi j hi hj h=>by
  unfold bU at *
  simp only[Bool.or_eq_true,Bool.and_eq_true,decide_eq_true_eq]at h
  rcases h with h | ⟨h,l⟩
  ·simp only[Bool.or_eq_false_iff,Bool.and_eq_false_imp,decide_eq_false_iff_not,decide_eq_true_eq]
   exact⟨by lia,λz=>by lia⟩
  ·simp only[Bool.or_eq_false_iff,Bool.and_eq_false_imp,decide_eq_false_iff_not,decide_eq_true_eq]
   exact⟨by lia,λ_=>uG l⟩
 tot:=λi j hi hj d=>by
  have ne:ss.getD i []≠ss.getD j []:=by
   rw[List.getD_eq_getElem?_getD,List.getD_eq_getElem?_getD,List.getElem?_eq_getElem hi,List.getElem?_eq_getElem hj]
   exact λe=>d ((List.getElem_inj nd).mp e)
  unfold bU
  simp only[Bool.or_eq_true,Bool.and_eq_true,decide_eq_true_eq]
  rcases Nat.lt_trichotomy (ss.getD i []).length (ss.getD j []).length with h | h | h
  ·exact .inl (.inl h)
  ·rcases uF h ne with z | z
   ·exact .inl (.inr ⟨h,z⟩)
   ·exact .inr (.inr ⟨h.symm,z⟩)
  ·exact .inr (.inl h)
section
variable {P:Program}{w:World}{A:Around}{E:Value->Shared->Prop}{s:Shared}
theorem iB:∀{us:List Value} {ns:List Int},IntsAre us ns->ItemsAre (cX P w) (ns.map Sum.inl) us
 | _,_,.nil=>.nil
 | _,_,.cons n t r=>.cons (by show(n==n)=true;simp) (iB r)
theorem Ta{ns ms:List Int}:decide ((ns.map Sum.inl:List Key)=ms.map Sum.inl)=decide (ns=ms):=by
 rw[Bool.eq_iff_iff,decide_eq_true_eq,decide_eq_true_eq]
 refine⟨λe=>?_,λe=>by rw[e]⟩
 exact List.map_inj_right (λa b h=>Sum.inl.inj h) |>.mp e
theorem Dd{p q a c:Addr}{lx ly:Int}{t u:Tok}{its xS:Array Value}{ns ms:List Int}{C:Bool->Shared->Prop}(hu:A.units<cLine)(hp:IsTup s.heap p #[.int lx t,.ref a])(hq:IsTup s.heap q #[.int ly u,.ref c])
  (ha:IsTup s.heap a its) (hc:IsTup s.heap c xS) (i1:IntsAre its.toList ns) (i2:IntsAre xS.toList ms) (hx:lx=ns.length) (hy:ly=ms.length) (h:C (bU ns ms) s):wpAny (model P w) A (keyLt' (tuples' true) (.ref p) (.ref q)) C E s:=by
 obtain⟨o1,e1,c1,n1,d1⟩:=id hp
 obtain⟨o2,e2,c2,n2,d2⟩:=id hq
 obtain⟨o3,e3,c3,n3,d3⟩:=id ha
 obtain⟨o4,e4,c4,n4,d4⟩:=id hc
 refine kat_lt e1 d1 e2 d2 ?_
 show KatLex P w A true _ C [(.int lx t,.int ly u),(.ref a,.ref c)] 0 s
 refine kat_cons ((cX P w).eqBool (a:=Sum.inl lx) (b:=Sum.inl ly) (by show(lx==lx)=true;simp) (by show(ly==ly)=true;simp) ?_)
 refine kat_go (λe=>?_) λe=>?_
 ·have el:lx=ly:=Sum.inl.inj (of_decide_eq_true e)
  refine kat_yes (kat_cons (wpAny_eqBool_tuple (knd:=cX P w) hu ⟨o3,its,n3,e3,c3,d3,iB i1⟩ ⟨o4,xS,n4,e4,c4,d4,iB i2⟩ ?_))
  rw[Ta]
  refine kat_go (λe'=>kat_yes (kat_nil ?_)) λe'=>kat_no ?_
  ·have:ns=ms:=of_decide_eq_true e'
   subst this
   have z:bU ns ns=false:=by unfold bU;rw[iO];simp
   rw[z]at h
   exact h
  ·refine kat_one _ _ (HT.zJ ha hc i1 i2 hu ?_)
   have z:bU ns ms=HT.lexLt ns ms:=by
    unfold bU
    rw[decide_eq_false (by lia:¬ns.length<ms.length),decide_eq_true (by lia:ns.length=ms.length)]
    simp
   rw[z]at h
   exact h
 ·have el:lx≠ly:=λz=>by rw[z]at e;simp at e
  refine kat_no (oneLt_int ?_)
  have z:bU ns ms=decide (lx<ly):=by
   unfold bU
   rw[decide_eq_false (by lia:¬ns.length=ms.length),Bool.false_and,Bool.or_false,Bool.eq_iff_iff,decide_eq_true_eq,decide_eq_true_eq]
   lia
  rw[z]at h
  exact h
end
section
variable {P:Program}{w:World}{H H1:Hp}{h h1 h2:Heap}{e a:Addr}{o:HO}{fs:List Addr}
theorem Cm(x:fP P w H h)(hn:H e=none)(k:∀b u,b≠e->h.get? b=some u->h2.get? b=some u):fP P w H h2:=λa o ea=>
 (x a o ea).stay (λb u hb q=>k b u (λz=>by
  subst z
  rcases hb with rfl | hb
  ·rw[hn]at ea;cases ea
  ·rw[hn]at hb;cases hb) q) (λ_ q=>q) λ_ _ q=>q
theorem GR(u:Un fs [] H H1 h h1)(he:h.objs.size<=e)(k:∀b u,b≠e->h1.get? b=some u->h2.get? b=some u):Un fs [] H H1 h h2:=
 have ne:∀b ob,h.get? b=some ob->b≠e:=λb ob q=>Nat.ne_of_lt (Nat.lt_of_lt_of_le (Heap.lt_size q) he)
 ⟨λb ob q n hb hx=>k _ _ (ne b ob q) (u.keep b ob q n hb hx),λb ob q n hb hx=>let ⟨sl,r⟩:=u.slot b ob q n hb hx;⟨sl,k _ _ (ne b ob q) r⟩,u.free,λb ob q hx=>let ⟨o',r⟩:=u.there b ob q hx;⟨o',k _ _ (ne b ob q) r⟩,u.tups,u.frzs,u.tbls⟩
theorem Oz(x:fP P w H h)(hn:H a=none)(new:cI P w (upd H a o) h a o):fP P w (upd H a o) h:=λb u eb=>by
 by_cases hb:b=a
 ·subst hb;rw[ai]at eb;cases eb;exact new
 ·rw[au hb]at eb
  exact(x b u eb).stay (λ_ _ _ q=>q) (λc q=>by rw[au (av q hn)];exact q) λc xs q=>by rw[au (av q hn)];exact q
theorem Q9(u:Un fs [] H H1 h h1)(ha:h.objs.size<=a)(hn:H a=none):Un fs [] H (upd H1 a o) h h1:=
 have ne:∀b ob,h.get? b=some ob->b≠a:=λb ob q=>Nat.ne_of_lt (Nat.lt_of_lt_of_le (Heap.lt_size q) ha)
 ⟨u.keep,u.slot,λb ob q n hx=>by rw[au (ne b ob q)];exact u.free b ob q n hx,u.there,λb xs q=>by rw[au (av q hn)];exact u.tups b xs q,λb ob xs q=>by rw[au (av q hn)];exact u.frzs b ob xs q,λb ps q=>by rw[au (av q hn)];exact u.tbls b ps q⟩
end
def ug:Sp:=λvs H Q _=>∃a,vs=[.ref a]/\∃xs,H a=some (.tup xs)/\∀p,H p=none->Q (.ref p) (upd H p (.tup [.int xs.length,.ref a]))
section
variable {X:Cx}{pins:List (Addr×Obj)}{σ:St}{H:Hp}{s:Shared}
structure wB(X:Cx)(H:Hp)(s:Shared)(D S:Addr)(e1:Nat)(H':Hp)(s':Shared)(kA:Array Value):Prop where
 os:s'.os=s.os
 bare:AllBare s'.gens
 un:Un (lP X.stack) [] H H' s.heap s'.heap
 aY:fP X.prog X.w H' s'.heap
 same:bD H H'
 nD:H' D=none
 nS:H' S=none
 oD:s'.heap.get? D=some (seqObj "list" #[] e1)
 oS:∃e,s'.heap.get? S=some (seqObj "list" kA e)
theorem wB.call{D S:Addr}{e1:Nat}{H':Hp}{s':Shared}{kA:Array Value}(I:Inv X pins σ H s)(m:wB X H s D S e1 H' s' kA)(hD:s.heap.objs.size<=D)(hS:s.heap.objs.size<=S){k:Nat}{f:Addr}{fd:FuncData}{pm:Str}(F:bG X.prog X.w X.K X.mg X.base eI k f fd [pm] ug)(hr:bW k X.A.in1.in1)
  (hb:Binds X.K fd [pm] []) {a:Addr} {xs:List V} (ha:H a=some (.tup xs)) {Q:Value->Shared->Prop} {E:Value->Shared->Prop}
  (q:∀p s2,H' p=none->wB X H s D S e1 (upd H' p (.tup [.int xs.length,.ref a])) s2 kA->Q (.ref p) s2):wpAny (model X.prog X.w) X.A.in1.in1 (call (.ref f) [.ref a]) Q E s':=by
 have I':Inv X pins σ H' s':=I.call' (ch:=[]) m.os m.un m.aY m.bare (λb z=>absurd z (by simp))
 have nfD:∀b,s.heap.objs.size<=b->b∉lP X.stack:=λb hb z=>by
  rcases List.mem_cons.mp (I.oY b z) with z | z
  ·exact absurd (Nat.lt_of_lt_of_le I.lt hb) (by rw[z];exact Nat.lt_irrefl _)
  ·exact I.Wj hb z
 refine wpAny_call (codeAny_mono (F.run X.A.in1.in1 X.stack s' H' ⟨[.ref a],[]⟩ [.ref a] [.ref a] (λv H2=>∃p,v=.ref p/\H' p=none/\H2=upd H' p (.tup [.int xs.length,.ref a])) (λ_ _ _=>False) hr I'.FG.in1.in1 (hb s' [.ref a] I'.jT rfl) (.cons rfl .nil) ⟨a,rfl,xs,m.same _ _ ha,λp hp=>⟨p,rfl,hp,rfl⟩⟩) λr s2 hq=>?_)
 cases r with
 | error e=>exact False.elim hq
 | ok fl=>
  cases fl with
  | next=>exact False.elim hq
  | brk=>exact False.elim hq
  | cont=>exact False.elim hq
  | ret u=>
   refine hide λgG hG=>?_
   obtain⟨v,H2,os,bare,un,aY,rv,p,rfl,hp,rfl⟩:=hq
   refine hG ?_
   cases rv
   obtain⟨eS,oS⟩:=m.oS
   exact q p s2 hp ⟨os.trans m.os,bare,m.un.trans un,aY,m.same.trans λb u eb=>by rw[au (av eb hp)];exact eb,un.free D _ m.oD m.nD (by simp),un.free S _ oS m.nS (by simp),un.keep D _ m.oD m.nD (nfD D hD) (by simp),eS,un.keep S _ oS m.nS (nfD S hS) (by simp)⟩
theorem wB.push{D S:Addr}{e1:Nat}{H':Hp}{s':Shared}{kA:Array Value}(m:wB X H s D S e1 H' s' kA)(hS:s.heap.objs.size<=S)(QH:D≠S)(g:Array Value->Array Value):wB X H s D S e1 H' { s' with heap:=s'.heap.update S (Obj.mapSeq g) } (g kA):=by
 obtain⟨eS,oS⟩:=m.oS
 have sb:=Heap.SameBut.update s'.heap S (Obj.mapSeq g)
 have k:∀b u,b≠S->s'.heap.get? b=some u->(s'.heap.update S (Obj.mapSeq g)).get? b=some u:=λb u nb q=>(sb.2 b nb).trans q
 exact⟨m.os,m.bare,GR m.un hS k,Cm m.aY m.nS k,m.same,m.nD,m.nS,k _ _ QH m.oD,_,get?_update_seq oS g⟩
def Um(H':Hp)(as:List Addr)(ss:List (List Int))(n:Nat)(kA:Array Value):Prop:=kA.size=n/\∀(j:Nat) v,kA[j]?=some v->∃p a ns,v=.ref p/\as[j]?=some a/\ss[j]?=some ns/\H' p=some (.tup [.int (ns.length:Nat),.ref a])
theorem Fh{D S:Addr}{e1:Nat}{H0:Hp}{s0:Shared}(I:Inv X pins σ H s)(m:wB X H s D S e1 H0 s0 #[])(hD:s.heap.objs.size<=D)(hS:s.heap.objs.size<=S)(QH:D≠S){k:Nat}{f:Addr}{fd:FuncData}{pm:Str}(F:bG X.prog X.w X.K X.mg X.base eI k f fd [pm] ug)(hr:bW k X.A.in1.in1)
  (hb:Binds X.K fd [pm] []) {as:List Addr} {ss:List (List Int)} (ls:as.length=ss.length) (Xr:as.length<100000) (hs:∀(i:Nat) a ns,as[i]?=some a->ss[i]?=some ns->H a=some (.tup (List.map V.int ns))) {Q:PUnit->Shared->Prop} {E:Value->Shared->Prop} {body:Value->PUnit->Sem (ForInStep PUnit)}
  (eG:∀a R s1,wpAny (model X.prog X.w) X.A.in1.in1 (call (.ref f) [.ref a]) (λv s2=>wpAny (model X.prog X.w) X.A.in1.in1 (Builtin.List.listUpdate (.ref S) (·.push v)) (λ_ s3=>R (.yield ⟨⟩) s3) E s2) (λ_ _=>False) s1->wpAny (model X.prog X.w) X.A.in1.in1 (body (.ref a) ⟨⟩) R E s1)
  (q:∀H' s' kA,wB X H s D S e1 H' s' kA->Um H' as ss as.length kA->Q ⟨⟩ s'):wpAny (model X.prog X.w) X.A.in1.in1 (forIn (as.map Value.ref) PUnit.unit body) Q E s0:=by
 refine ksk_fold (λi s'=>∃H' kA,wB X H s D S e1 H' s' kA/\Um H' as ss i kA) (as.map Value.ref) 0 s0 ⟨H0,#[],m,rfl,λj v e=>by simp at e⟩ (λj x s1 hx hJ=>?_) λs' hd=>?_
 ·refine hide λgG hG=>?_
  obtain⟨H',kA,m1,ks,kk⟩:=hJ
  refine hG ?_
  rw[List.getElem?_map]at hx
  cases ea:as[j]? with
  | none=>rw[ea]at hx;cases hx
  | some a=>
   rw[ea]at hx
   cases hx
   have hj:j<as.length:=(List.getElem?_eq_some_iff.mp ea).1
   have es:ss[j]?=some ss[j]:=List.getElem?_eq_getElem (by lia)
   refine eG a _ s1 (m1.call I hD hS F hr hb (hs j a _ ea es) λp s2 hp m2=>?_)
   obtain⟨eS,oS⟩:=m2.oS
   have z1:kA.size<=sizeLine:=ft (by lia)
   have z2:(kA.push (.ref p)).size<=sizeLine:=by rw[Array.size_push];exact ft (by lia)
   refine listUpdate_at (xs:=kA) oS rfl ⟨rfl,_,kA.push (.ref p),m2.push hS QH (·.push (.ref p)),by rw[Array.size_push,ks],λi v ev=>?_⟩ z1 (Nat.le_succ_of_le z2)
   by_cases hi:i<kA.size
   ·rw[Array.getElem?_push_lt hi]at ev
    obtain⟨p',a',Gn,Cz,e2',e3',e4'⟩:=kk i v (by rw[Array.getElem?_eq_getElem hi];exact ev)
    exact⟨p',a',Gn,Cz,e2',e3',by rw[au (av e4' hp)];exact e4'⟩
   ·have ox:i=kA.size:=by
     have:=(Array.getElem?_eq_some_iff.mp ev).1
     rw[Array.size_push]at this
     lia
    subst ox
    rw[Array.getElem?_push_size]at ev
    cases ev
    rw[ks,Nat.zero_add]
    exact⟨p,a,_,rfl,ea,es,by rw[ai,List.length_map]⟩
 ·refine hide λgG hG=>?_
  obtain⟨H',kA,m1,ks,kk⟩:=hd
  refine hG ?_
  rw[List.length_map,Nat.zero_add]at ks
  exact q H' s' kA m1 ⟨ks,kk⟩
end
section
variable {P:Program}{w:World}{H':Hp}{h:Heap}{p a:Addr}
theorem ou{l:Int}(aY:fP P w H' h)(e:H' p=some (.tup [.int l,.ref a])):∃t,IsTup h p #[.int l t,.ref a]:=by
 refine hide λgG hG=>?_
 obtain⟨_,its,r,ht⟩:=aY p _ e
 refine hG ?_
 cases r with
 | cons r1 r2=>
  obtain⟨t,rfl⟩:=r1
  cases r2 with
  | cons r3 r4=>
   cases r4
   cases r3
   exact⟨t,ht⟩
theorem vv{ns:List Int}(aY:fP P w H' h)(e:H' a=some (.tup (List.map V.int ns))):∃its,IsTup h a its/\IntsAre its.toList ns:=by
 refine hide λgG hG=>?_
 obtain⟨_,its,r,ht⟩:=aY a _ e
 refine hG ?_
 exact⟨_,ht,intsAre_of r⟩
end
section
variable {X:Cx}{pins:List (Addr×Obj)}{σ:St}{H:Hp}{s:Shared}
structure Fin(X:Cx)(H:Hp)(s:Shared)(D:Addr)(H':Hp)(s':Shared)(bs:List Addr):Prop where
 os:s'.os=s.os
 bare:AllBare s'.gens
 un:Un (lP X.stack) [] H H' s.heap s'.heap
 aY:fP X.prog X.w H' s'.heap
 same:bD H H'
 nD:H' D=none
 oD:∃c,s'.heap.get? D=some (seqObj "list" (bs.map Value.ref).toArray c)
theorem ui{D S:Addr}{e1:Nat}{H':Hp}{s':Shared}{kA:Array Value}{bs:List Addr}{st:SortSt}{Pq:PySem.Fin->Shared->Prop}{E:Value->Shared->Prop}(m:wB X H s D S e1 H' s' kA)(hD:s.heap.objs.size<=D)(hS:s.heap.objs.size<=S)(QH:D≠S)(hk:kA.size<=100000)(hb:bs.length<=100000)
  (J4:(arrOf st).map (·.2)=(bs.map Value.ref).toArray) (hf:failedOf st=none) (q:∀s2,Fin X H s D H' s2 bs->Pq (.done (.ret .none)) s2):wpAny (model X.prog X.w) X.A.in1.in1 (ksk_tail D false e1 (.ref S) st) Pq E s':=by
 obtain⟨eS,oS⟩:=m.oS
 have m1:=m.push hS QH (λ_=>#[])
 have sb:=Heap.SameBut.update (s'.heap.update S (Obj.mapSeq λ_=>(#[]:Array Value))) D (Obj.mapSeq λ_=>(bs.map Value.ref).toArray)
 have k:∀b u,b≠D->(s'.heap.update S (Obj.mapSeq λ_=>(#[]:Array Value))).get? b=some u->((s'.heap.update S (Obj.mapSeq λ_=>(#[]:Array Value))).update D (Obj.mapSeq λ_=>(bs.map Value.ref).toArray)).get? b=some u:=λb u nb q=>(sb.2 b nb).trans q
 unfold ksk_tail
 dsimp only
 refine wpAny_bind (listUpdate_at (xs:=kA) oS rfl ?_ (ft (by lia)) (Nat.zero_le _))
 refine wpAny_bind (wpAny_letGo ?_)
 refine wpAny_bind (seqEpoch_at m1.oD rfl ?_)
 rw[J4]
 refine wpAny_bind (listUpdate_at m1.oD rfl ?_ (Nat.zero_le _) (by
  have z:((bs.map Value.ref).toArray).size<=sizeLine:=by rw[List.size_toArray,List.length_map];exact ft (by lia)
  first | exact z | exact Nat.le_succ_of_le z))
 rw[hf]
 simp only[bne_self_eq_false,Bool.false_eq_true,if_false]
 exact wpAny_pure (q _ ⟨m1.os,m1.bare,GR m1.un hD k,Cm m1.aY m1.nD k,m1.same,m1.nD,_,get?_update_seq m1.oD λ_=>(bs.map Value.ref).toArray⟩)
theorem mU{h:Heap}:∀{l:List Value},(∀v∈l,∃p a,∃k:Int,∃t,v=.ref p/\IsTup h p #[.int k t,.ref a])->∃fs,KatTups h l fs/\fs.length=l.length/\∀f∈fs,∃(k:Int) (t:Tok),f=.int k t
 | [],_=>⟨[],.nil,rfl,λ_ z=>nomatch z⟩
 | v::l,hv=>by
  refine hide λgG hG=>?_
  obtain⟨p,a,k,t,rfl,o,e,c,n,d⟩:=hv v List.mem_cons_self
  obtain⟨fs,r1,r2,r3⟩:=mU (l:=l) λu hu=>hv u (List.mem_cons_of_mem _ hu)
  refine hG ?_
  exact⟨.int k t::fs,.cons e c d rfl r1,by rw[List.length_cons,List.length_cons,r2],λf hf=>by
   rcases List.mem_cons.mp hf with rfl | hf
   ·exact⟨k,t,rfl⟩
   ·exact r3 f hf⟩
def setB(ss:List (List Int))(i j:Nat):Bool:=bU (ss.getD i []) (ss.getD j [])
theorem getD_some{α:Type}{l:List α}{i:Nat}{x d:α}(h:l[i]?=some x):l.getD i d=x:=by rw[List.getD_eq_getElem?_getD,h];rfl
theorem Hm{D S:Addr}{e1:Nat}{H':Hp}{s':Shared}{kA:Array Value}{as:List Addr}{ss:List (List Int)}{Pq:PySem.Fin->Shared->Prop}{E:Value->Shared->Prop}(m:wB X H s D S e1 H' s' kA)(hu:X.A.in1.in1.units<cLine)(hD:s.heap.objs.size<=D)(hS:s.heap.objs.size<=S)(QH:D≠S)
  (kk:Um H' as ss as.length kA) (ls:as.length=ss.length) (Xr:as.length<100000) (nd:ss.Nodup) (hs:∀(i:Nat) a ns,as[i]?=some a->ss[i]?=some ns->H a=some (.tup (List.map V.int ns)))
  (q:∀s2 p,qu p as.length->yF (setB ss) p as.length->Fin X H s D H' s2 (p.toList.map λi=>as.getD i 0)->Pq (.done (.ret .none)) s2):wpAny (model X.prog X.w) X.A.in1.in1 (ksk_end D false (as.map Value.ref).toArray e1 (.ref S) kA) Pq E s':=by
 obtain⟨ks,kv⟩:=kk
 have hzs:(kA.zip (as.map Value.ref).toArray).size=as.length:=by rw[Array.size_zip,ks,List.size_toArray,List.length_map,Nat.min_self]
 have Oo:∀i,i<as.length->∃p,kas_item (kA.zip (as.map Value.ref).toArray) i=(.ref p,.ref (as.getD i 0))/\∃a ns,as[i]?=some a/\ss[i]?=some ns/\H' p=some (.tup [.int (ns.length:Nat),.ref a]):=λi hi=>by
  have J':i<kA.size:=by lia
  obtain⟨p,a,ns,e1,e2,e3,e4⟩:=kv i kA[i] (Array.getElem?_eq_getElem J')
  refine⟨p,?_,a,ns,e2,e3,e4⟩
  unfold kas_item
  rw[Array.getD_eq_getD_getElem?,Array.getElem?_eq_getElem (by rw[hzs];exact hi),Option.getD_some,Array.getElem_zip,e1,getD_some e2]
  congr 1
  have:(as.map Value.ref)[i]?=some (.ref a):=by rw[List.getElem?_map,e2];rfl
  have h2:=List.getElem?_eq_some_iff.mp this
  simpa using h2.2
 have Wa:∀p:Array Nat,qu p as.length->(p.map (kas_item (kA.zip (as.map Value.ref).toArray))).map (·.2)=((p.toList.map λi=>as.getD i 0).map Value.ref).toArray:=λp hp=>by
  apply Array.ext'
  rw[Array.toList_map,Array.toList_map,List.toList_toArray,List.map_map,List.map_map]
  refine List.map_congr_left λi hi=>?_
  have fE:i<as.length:=by
   have:=(hp.perm.mem_iff (a:=i)).mp (by simpa using hi)
   simpa using this
  obtain⟨p',e,_⟩:=Oo i fE
  show(kas_item _ i).2=_
  rw[e]
  rfl
 have Yi:∀p:Array Nat,qu p as.length->(p.toList.map λi=>as.getD i 0).length<=100000:=λp hp=>by rw[List.length_map,Array.length_toList,hp.size];lia
 unfold ksk_end
 dsimp only
 simp only[Bool.false_eq_true,if_false]
 by_cases h2:(as.map Value.ref).toArray.size<2
 ·rw[if_pos h2,if_pos h2]
  refine wpAny_bind (wpAny_pure ?_)
  rw[StateT.run_pure]
  refine wpAny_bind (wpAny_pure ?_)
  dsimp only
  have hp:qu (List.toArray (List.range as.length)) as.length:=⟨Array.Perm.refl _⟩
  rw[List.size_toArray,List.length_map]at h2
  refine ui (st:=SortSt.mk' general' (kA.zip (as.map Value.ref).toArray) #[] 7 none) m hD hS QH (by lia) (Yi _ hp) ?_ rfl λs2 f=>q s2 _ hp (λi hi=>by lia) f
  rw[<-Wa _ hp]
  have:(List.toArray (List.range as.length)).map (kas_item (kA.zip (as.map Value.ref).toArray))=kA.zip (as.map Value.ref).toArray:=by
   have:=kas_range (kA.zip (as.map Value.ref).toArray)
   rwa [hzs]at this
  rw[this]
 ·rw[if_neg h2,if_neg h2]
  rw[List.size_toArray,List.length_map]at h2
  have LK:2<=as.length:=by lia
  have tups:∀v∈kA.toList,∃p a,∃k:Int,∃t,v=.ref p/\IsTup s'.heap p #[.int k t,.ref a]:=λv hv=>by
   obtain⟨i,hi,rfl⟩:=List.mem_iff_getElem.mp hv
   obtain⟨p,a,ns,e1,e2,e3,e4⟩:=kv i (kA.toList[i]) (by rw[<-Array.getElem?_toList];exact List.getElem?_eq_getElem hi)
   obtain⟨t,ht⟩:=ou m.aY e4
   exact⟨p,a,_,t,e1,ht⟩
  refine hide λgG hG=>?_
  obtain⟨fs,kt,lf,hf⟩:=mU tups
  refine hG ?_
  have kind:wpAny (model X.prog X.w) X.A.in1.in1 (keyKind' kA) (λκ s2=>κ=tuples' true/\s2=s') E s':=by
   have:=kat_kind (M:=model X.prog X.w) (A:=X.A.in1.in1) (E:=E) (s:=s') (T:=Value.type "int") (Q:=λκ s2=>κ=tuples' true/\s2=s') kt (by rw[lf,Array.length_toList];lia) (λv hv=>by
    obtain⟨k,t,rfl⟩:=hf v hv
    exact .now) (by decide) ⟨by congr 1,rfl⟩
   rwa [Array.toArray_toList]at this
  refine wpAny_bind (wpAny_mono kind (λκ s2 ⟨e1,e2⟩=>?_) λ_ _ x=>x)
  subst e1 e2
  have hn:0<as.length:=by lia
  have obj:∀i,i<as.length->∃p a t its,∃k:Int,(kas_item (kA.zip (as.map Value.ref).toArray) i).1=.ref p/\IsTup s2.heap p #[.int k t,.ref a]/\IsTup s2.heap a its/\IntsAre its.toList (ss.getD i [])/\k=(ss.getD i []).length:=λi hi=>by
   refine hide λgG hG=>?_
   obtain⟨p,e,a,ns,e2,e3,e4⟩:=Oo i hi
   obtain⟨t,ht⟩:=ou m.aY e4
   obtain⟨its,ha,hia⟩:=vv m.aY (m.same _ _ (hs i a ns e2 e3))
   refine hG ?_
   exact⟨p,a,t,its,_,by rw[e],ht,ha,by rw[getD_some e3];exact hia,by rw[getD_some e3]⟩
  have ssD:∀i,i<as.length->ss[i]?=some (ss.getD i []):=λi hi=>by
   rw[List.getD_eq_getElem?_getD,List.getElem?_eq_getElem (by lia)];rfl
  have inj:∀i j,i<as.length->j<as.length->kas_item (kA.zip (as.map Value.ref).toArray) i=kas_item (kA.zip (as.map Value.ref).toArray) j->i=j:=λi j hi hj e=>by
   refine hide λgG hG=>?_
   obtain⟨p,e1,a,ns,f1,f2,_⟩:=Oo i hi
   obtain⟨p',Cz,a',Gn,f1',ZQ,_⟩:=Oo j hj
   refine hG ?_
   rw[e1,Cz]at e
   injection e with _ e2
   injection e2 with e2
   rw[getD_some f1,getD_some f1']at e2
   subst e2
   have g1:=hs i a ns f1 f2
   have g2:=hs j a Gn f1' ZQ
   rw[g1]at g2
   have e3:ns=Gn:=by
    injection g2 with g2
    injection g2 with g2
    exact(List.map_inj_right λ_ _ h=>V.int.inj h).mp g2
   subst e3
   have h1:=(List.getElem?_eq_some_iff.mp f2)
   have h2:=(List.getElem?_eq_some_iff.mp ZQ)
   exact(List.getElem_inj nd).mp (h1.2.trans h2.2.symm)
  have run:=xg (prog:=X.prog) (w:=X.w) (A:=X.A.in1.in1) (E:=E) (κ:=tuples' true) (item:=kas_item (kA.zip (as.map Value.ref).toArray)) (n:=as.length) (b:=setB ss) (s:=s2) (it:=kA.zip (as.map Value.ref).toArray) inj
   (by have:=kW nd;rw[<-ls]at this;exact this) LK (λi j C hi hj hC=>by
    refine hide λgG hG=>?_
    obtain⟨p,a,t,its,k,e1,t1,t2,t3,t4⟩:=obj i hi
    obtain⟨p',a',t',its',k',Cz,t1',t2',t3',t4'⟩:=obj j hj
    refine hG ?_
    rw[e1,Cz]
    exact Dd hu t1 t1' t2 t2' t3 t3' t4 t4' hC) (by
    have:=kas_range (kA.zip (as.map Value.ref).toArray)
    rw[hzs]at this
    have e:=congrArg Array.toList this
    rw[Array.toList_map,List.toList_toArray]at e
    exact e.symm)
  refine wpAny_bind (wpAny_mono run (λr s3 ⟨e,p,hp,ha,e1,e2⟩=>?_) λ_ _ x=>x)
  obtain⟨⟨⟩,bf⟩:=r
  subst e
  dsimp only
  exact ui m hD hS QH (by lia) (Yi _ hp) (by rw[e1];exact Wa p hp) e2 λs4 f=>q s4 p hp ha f
end
theorem wM:∀l:List Addr,Vals (List.map V.ref l) (List.map Value.ref l)
 | []=>.nil
 | a::l=>.cons rfl (wM l)
section
variable {X:Cx}{pins:List (Addr×Obj)}{σ:St}{H:Hp}{s:Shared}
theorem yU{k:Nat}{f:Addr}{fd:FuncData}{pm:Str}{x:Value}{as:List Addr}{ss:List (List Int)}{Q:VK}(I:Inv X pins σ H s)(F:bG X.prog X.w X.K X.mg X.base eI k f fd [pm] ug)(hr:bW k X.A.in1.in1)(hb:Binds X.K fd [pm] [])
  (ls:as.length=ss.length) (Xr:as.length<100000) (nd:ss.Nodup) (hs:∀(i:Nat) a ns,as[i]?=some a->ss[i]?=some ns->H a=some (.tup (List.map V.int ns)))
  (hc:∀(Q':List Value->Shared->Prop),(∀s',(∀b o,s.heap.get? b=some o->s'.heap.get? b=some o)->s.heap.objs.size<=s'.heap.objs.size->s'.gens=s.gens->s'.os=s.os->Q' (as.map Value.ref) s')->wpAny (model X.prog X.w) X.A.in1 (collect x) Q' X.xe s)
  (q:∀D H' p,bD H H'->H D=none->qu p as.length->yF (setB ss) p as.length->H' D=some (.lst (List.map V.ref (p.toList.map λi=>as.getD i 0)))->Q (.ref D) H') :
  wpAny (model X.prog X.w) X.A (PySem.call (.builtin "sorted") [x] [(Str.ofString "key",.ref f)]) (EP X pins σ Q) X.xe s:=by
 refine call_function_entry_kw kind_sorted plain_sorted entry_sorted (ksk_s1 _ _) ?_
 unfold Builtin.«sorted»
 refine wpAny_bind (m:=checkCount "sorted" 1 1 _) (wpAny_pure ?_)
 refine wpAny_bind (hc _ λs1 k1 z1 g1 o1=>?_)
 refine wpAny_bind (wpAny_newList ?_ (by rw[List.length_map];exact ft (by lia)))
 have Fq:(s1.heap.push (seqObj "list" (as.map Value.ref).toArray 0)).get? s1.heap.objs.size=some (seqObj "list" (as.map Value.ref).toArray 0):=Heap.get?_push_size _ rfl
 refine wpAny_bind (wpAny_holding (wpAny_call_entry_kw slot_list_sort ⟨_,Fq,rfl⟩ entry_list_sort ?body (ksk_l1 _ _)))
 case body=>
  show wpAny (model X.prog X.w) X.A.in1.in1 (Builtin.«list.sort» ⟨[.ref s1.heap.objs.size],[(Str.ofString "key",.ref f)]⟩) _ _ _
  rw[ksk_t1]
  unfold ksk_tree
  have lv:(as.map Value.ref).toArray.size<=sizeLine:=by rw[List.size_toArray,List.length_map];exact ft (by lia)
  obtain⟨e1,WR⟩:∃e1,((s1.heap.push (seqObj "list" (as.map Value.ref).toArray 0)).update s1.heap.objs.size (Obj.mapSeq λ_=>(#[]:Array Value))).get? s1.heap.objs.size=some (seqObj "list" #[] e1):=⟨_,get?_update_seq Fq λ_=>#[]⟩
  have sb:=Heap.SameBut.update (s1.heap.push (seqObj "list" (as.map Value.ref).toArray 0)) s1.heap.objs.size (Obj.mapSeq λ_=>(#[]:Array Value))
  have Vx:((s1.heap.push (seqObj "list" (as.map Value.ref).toArray 0)).update s1.heap.objs.size (Obj.mapSeq λ_=>(#[]:Array Value))).objs.size=s1.heap.objs.size+1:=by rw[Heap.size_update,size_push']
  refine wpAny_bind (listItems_at Fq rfl ?_)
  refine wpAny_bind (listUpdate_at Fq rfl ?_ lv (Nat.zero_le _))
  refine wpAny_bind (seqEpoch_at WR rfl ?_)
  refine wpAny_bind (wpAny_newTuple ?_ (by rw[List.toList_toArray,List.length_map];exact ft (by lia)))
  refine wpAny_bind (wpAny_newList ?_ (Nat.zero_le _))
  refine wpAny_holding ?_
  have Qc:(((s1.heap.push (seqObj "list" (as.map Value.ref).toArray 0)).update s1.heap.objs.size (Obj.mapSeq λ_=>(#[]:Array Value))).push (seqObj "tuple" (as.map Value.ref).toArray 0)).objs.size=s1.heap.objs.size+2:=by rw[size_push',Vx]
  have keep:∀b o,s.heap.get? b=some o->((((s1.heap.push (seqObj "list" (as.map Value.ref).toArray 0)).update s1.heap.objs.size (Obj.mapSeq λ_=>(#[]:Array Value))).push (seqObj "tuple" (as.map Value.ref).toArray 0)).push (seqObj "list" #[] 0)).get? b=some o:=λb o e=>by
   have lb:b<s1.heap.objs.size:=Nat.lt_of_lt_of_le (Heap.lt_size e) z1
   exact Heap.get?_push_of_some _ (Heap.get?_push_of_some _ ((sb.2 b (Nat.ne_of_lt lb)).trans (Heap.get?_push_of_some _ (k1 b o e))))
  have m0:wB X H s s1.heap.objs.size (s1.heap.objs.size+2) e1 H { s1 with heap:=(((s1.heap.push (seqObj "list" (as.map Value.ref).toArray 0)).update s1.heap.objs.size (Obj.mapSeq λ_=>(#[]:Array Value))).push (seqObj "tuple" (as.map Value.ref).toArray 0)).push (seqObj "list" #[] 0) } #[]:=
   ⟨o1,by show AllBare s1.gens;rw[g1];exact I.bare,Un.kept keep,I.aY.kept keep,bD.refl H,I.aY.fresh z1,I.aY.fresh (by lia),Heap.get?_push_of_some _ (Heap.get?_push_of_some _ WR),0,by rw[<-Qc];exact Heap.get?_push_size _ rfl⟩
  unfold ksk_rest
  refine wpAny_bind (wpAny_rule ?_)
  rw[<-Array.forIn_toList,List.toList_toArray]
  show wpAny (model X.prog X.w) X.A.in1.in1 _ _ X.xe { s1 with heap:=(((s1.heap.push (seqObj "list" (as.map Value.ref).toArray 0)).update s1.heap.objs.size (Obj.mapSeq λ_=>(#[]:Array Value))).push (seqObj "tuple" (as.map Value.ref).toArray 0)).push (seqObj "list" #[] 0) }
  rw[Qc]
  refine wpAny_bind (Fh I m0 z1 (by lia:s.heap.objs.size<=s1.heap.objs.size+2) (by lia:s1.heap.objs.size≠s1.heap.objs.size+2) F hr hb ls Xr hs (λa R s2 hw=>?_) λH' s' kA m kk=>?_)
  ·refine wpAny_bind (wpAny_attempt (wpAny_mono hw (λv s3 h3=>?_) λ_ _ hF=>hF.elim))
   dsimp only
   exact wpAny_bind (wpAny_mono h3 (λ_ s4 h4=>wpAny_pure h4) λ_ _ x=>x)
  ·obtain⟨eS,oS⟩:=m.oS
   refine wpAny_bind (listItems_at oS rfl ?_)
   refine Hm m hr.fk z1 (by lia:s.heap.objs.size<=s1.heap.objs.size+2) (by lia:s1.heap.objs.size≠s1.heap.objs.size+2) kk ls Xr nd hs λs2 p hp ha fin=>⟨_,rfl,?_⟩
   obtain⟨c,oD⟩:=fin.oD
   have hn:H s1.heap.objs.size=none:=I.aY.fresh z1
   have bl:(List.map V.ref (p.toList.map λi=>as.getD i 0)).length<=sizeLine:=by rw[List.length_map,List.length_map,Array.length_toList,hp.size];exact ft (by lia)
   have I2:Inv X pins σ (upd H' s1.heap.objs.size (.lst (List.map V.ref (p.toList.map λi=>as.getD i 0)))) s2:=I.call' (ch:=[]) fin.os (Q9 fin.un z1 hn) (Oz fin.aY fin.nD ⟨bl,_,c,wM _,oD⟩) fin.bare (λb z=>absurd z (by simp))
   exact wpAny_pure ⟨_,rfl,.ref s1.heap.objs.size,_,I2,rfl,q _ _ p (fin.same.trans λb u eb=>by rw[au (av eb fin.nD)];exact eb) hn hp ha ai⟩
end
def lT(h:Heap)(d:Addr)(es:Array DictEntry)(ep:Nat):Prop:=∃o,h.get? d=some o/\o.ExactDict/\o.data=.dict es ep
section
variable {P:Program}{w:World}{A:Around}{E:Value->Shared->Prop}{s:Shared}{d it:Addr}{es:Array DictEntry}{ep i:Nat}
theorem lT.ty(r:lT s.heap d es ep):s.TypeIs (.ref d) "dict":=let ⟨o,e,c,_⟩:=r;⟨o,e,c.1⟩
theorem lT.on{h h':Heap}(r:lT h d es ep)(k:∀o,h.get? d=some o->h'.get? d=some o):lT h' d es ep:=let ⟨o,e,c⟩:=r;⟨o,k _ e,c⟩
theorem HD{Q:Value->Shared->Prop}(lo:(d==sysModules)=false)(r:lT s.heap d es ep)(q:Q (.ref s.heap.objs.size) { s with heap:=s.heap.push { cls:=.type "dict_keyiterator",data:=.fields #[.ref d,.int 0 0,.int es.size 0,.int ep 0] } }) :
  wpAny (model P w) A (pyIter (.ref d)) Q E s:=by
 have ty:=r.ty
 refine hide λgG hG=>?_
 obtain⟨o,ho,hc,O2⟩:=r
 refine hG ?_
 refine wpAny_pyIter_slot ty PySem.F.slot_dict_iter (wpAny_call_entry PySem.F.slot_dict_iter ty PySem.F.entry_dict_iter ?_ (PySem.F.args_dict_iter_1 _))
 unfold Builtin.«dict.__iter__»
 refine wpAny_bind ?_
 unfold Builtin.Dict.dictSlotNone
 refine wpAny_bind (wpAny_notOrdered_dict ty (wpAny_pure ?_))
 refine(?_:wpAny (model P w) _ (Builtin.Dict.showsAll d >>= _) _ _ s)
 unfold Builtin.Dict.showsAll
 rw[if_neg (λz=>by rw[lo]at z;cases z)]
 refine wpAny_bind (wpAny_pure (wpAny_bind (wpAny_dictEntries ho O2 (wpAny_bind (wpAny_dictEpoch ho O2 ?_)))))
 refine wpAny_bind (wpAny_newObj_type (wpAny_pure ⟨_,rfl,"dict_keyiterator",_,⟨_,Heap.get?_push_size _ rfl,rfl⟩,PySem.F.slot_dict_keyiterator_next.lookup,?_⟩))
 exact q
theorem HF{Q:Option Value->Shared->Prop}(ki:s.heap.IsKeyIter it d i es.size ep)(r:lT s.heap d es ep)(hi:i<es.size)
  (q:∀h',h'.IsKeyIter it d (i+1) es.size ep->Heap.SameBut it s.heap h'->Q (some es[i].key) { s with heap:=h' }):wpAny (model P w) A (pyNext (.ref it)) Q E s:=by
 refine hide λgG hG=>?_
 obtain⟨o,ho,hc,hd⟩:=id ki
 obtain⟨od,WQ,_,W'⟩:=id r
 refine hG ?_
 have ty:=ki.typeIs
 unfold pyNext
 refine wpAny_bind (wpAny_attempt (wpAny_callSpecial?_slot (name:=Str.ofString "__next__") ty PySem.F.slot_dict_keyiterator_next (wpAny_call_entry PySem.F.slot_dict_keyiterator_next ty PySem.F.entry_dict_keyiterator_next ?_ (PySem.F.args_dict_keyiterator_next_1 _))))
 refine wpAny_bind (wpAny_pure (wpAny_bind (wpAny_bind ?_)))
 first | refine wpAny_bind (wpAny_typeNameOfWhole_keyiter ty (wpAny_pure (wpAny_bind (wpAny_fieldsOf ho hd ?_)))) | refine wpAny_bind (wpAny_typeNameOf_keyiter ty (wpAny_pure (wpAny_bind (wpAny_fieldsOf ho hd ?_))))
 rw[show Builtin.Dict_items.ownsTuple "dict_keyiterator" = false by decide]
 simp only[Bool.false_eq_true,if_false]
 refine(?_:wpAny (model P w) _ (if (Value.ref d==Value.none)=true then _ else _) _ _ s)
 rw[if_neg (λz=>by cases z)]
 refine wpAny_bind (wpAny_pure (wpAny_bind (wpAny_dictEntries WQ W' ?_)))
 rw[if_neg (by simp)]
 refine wpAny_bind (wpAny_pure (wpAny_bind (wpAny_dictEpoch WQ W' ?_)))
 rw[if_neg (by simp)]
 refine wpAny_pure ?_
 simp only[show ¬((i:Int)<0) from by omega,if_false,Int.toNat_natCast,Array.getElem?_eq_getElem hi]
 refine wpAny_bind ?_
 first | refine wpAny_bind (wpAny_typeNameOfWhole_keyiter ty (wpAny_pure (wpAny_bind (wpAny_isOneOf_keyiter ty ?_)))) | refine wpAny_bind (wpAny_typeNameOf_keyiter ty (wpAny_pure (wpAny_bind (wpAny_isOneOf_keyiter ty ?_))))
 refine(?_:wpAny (model P w) _ (setField (.ref it) 1 (rawInt ((i:Int)+1)) >>= _) _ _ s)
 refine wpAny_bind (wpAny_setField ho hd (by simp) ?_)
 have ki':(s.heap.update it (Obj.mapFields (·.setIfInBounds 1 (rawInt ((i:Int)+1))))).IsKeyIter it d (i+1) es.size ep:=by
  refine⟨_,Heap.get?_update_self _ ho (Obj.isFreed_of_fields (Obj.data_mapFields hd _)),(Obj.cls_mapFields ..).trans hc,?_⟩
  rw[Obj.data_mapFields hd]
  simp[rawInt]
 refine wpAny_bind (wpAny_holding (wpAny_bind (wpAny_isOneOf_keyiter (s:={ s with heap:=s.heap.update it (Obj.mapFields (·.setIfInBounds 1 (rawInt ((i:Int)+1)))) }) ki'.typeIs ?_)))
 exact wpAny_pure (wpAny_pure ⟨_,rfl,wpAny_pure (q _ ki' (Heap.SameBut.update ..))⟩)
theorem M8{Q:Option Value->Shared->Prop}(hh:A.handled=none)(ki:s.heap.IsKeyIter it d i es.size ep)(r:lT s.heap d es ep)(hi:es.size<=i)
  (q:∀h',Heap.ExtBut it s.heap h'->Q none { s with heap:=h' }):wpAny (model P w) A (pyNext (.ref it)) Q E s:=by
 refine hide λgG hG=>?_
 obtain⟨o,ho,hc,hd⟩:=id ki
 obtain⟨od,WQ,_,W'⟩:=id r
 refine hG ?_
 have ty:=ki.typeIs
 unfold pyNext
 refine wpAny_bind (wpAny_attempt (wpAny_callSpecial?_slot (name:=Str.ofString "__next__") ty PySem.F.slot_dict_keyiterator_next (wpAny_call_entry PySem.F.slot_dict_keyiterator_next ty PySem.F.entry_dict_keyiterator_next ?_ (PySem.F.args_dict_keyiterator_next_1 _))))
 refine wpAny_bind (wpAny_pure (wpAny_bind (wpAny_bind ?_)))
 first | refine wpAny_bind (wpAny_typeNameOfWhole_keyiter ty (wpAny_pure (wpAny_bind (wpAny_fieldsOf ho hd ?_)))) | refine wpAny_bind (wpAny_typeNameOf_keyiter ty (wpAny_pure (wpAny_bind (wpAny_fieldsOf ho hd ?_))))
 rw[show Builtin.Dict_items.ownsTuple "dict_keyiterator" = false by decide]
 simp only[Bool.false_eq_true,if_false]
 refine(?_:wpAny (model P w) _ (if (Value.ref d==Value.none)=true then _ else _) _ _ s)
 rw[if_neg (λz=>by cases z)]
 refine wpAny_bind (wpAny_pure (wpAny_bind (wpAny_dictEntries WQ W' ?_)))
 rw[if_neg (by simp)]
 refine wpAny_bind (wpAny_pure (wpAny_bind (wpAny_dictEpoch WQ W' ?_)))
 rw[if_neg (by simp)]
 refine wpAny_pure ?_
 simp only[show ¬((i:Int)<0) from by omega,if_false,Int.toNat_natCast,Array.getElem?_eq_none hi]
 refine wpAny_bind ?_
 first | refine wpAny_bind (wpAny_typeNameOfWhole_keyiter ty (wpAny_pure ?_)) | refine wpAny_bind (wpAny_typeNameOf_keyiter ty (wpAny_pure ?_))
 refine(?_:wpAny (model P w) _ (setField (.ref it) 0 .none >>= _) _ _ s)
 refine wpAny_bind (wpAny_setField ho hd (by simp) ?_)
 refine(?_:wpAny (model P w) _ (newExc (.type "StopIteration") [] >>= _) _ _ _)
 refine wpAny_bind ?_
 simp only[newExc,newTuple]
 refine wpAny_bind (wpAny_newObj_type ?_ (by size_fits))
 refine wpAny_bind (m:=firstArgMember _ _) (wpAny_of_eq (a:=Value.none)
  (by first | rfl | (simp only[firstArgMember];rfl)) ?_)
 refine wpAny_newObj_type ?_ (by size_fits)
 simp only[raiseNew]
 refine wpAny_bind (wpAny_handled ?_)
 rw[show A.in1.handled=none from hh]
 refine wpAny_bind (wpAny_pure (wpAny_throw ?_))
 refine wpAny_bind (wpAny_isInstance (T:="StopIteration") (b:=true)
  ⟨_,Heap.get?_push_size _ rfl,rfl⟩ isSubtype_stop ?_)
 exact wpAny_pure (q _ (((Heap.SameBut.update ..).extBut.push _).push _))
theorem Ek(hh:A.handled=none)(ne:d≠it):Walks P w A it [it,d] [it] es.size (λj v=>(es[j]?.map λe=>e.key)=some v) (λj h=>h.IsKeyIter it d j es.size ep/\lT h d es ep) where
 sub:=λb hb=>by simp at hb;simp[hb]
 frame:=λ_ _ _ st hk=>⟨st.1.at λo e=>hk it (by simp) o e,st.2.on λo e=>hk d (by simp) o e⟩
 item:=λj s Q E hj st hQ=>HF st.1 st.2 hj λh' k1 k2=>by
  refine hQ _ h' s.toks (by rw[Array.getElem?_eq_getElem hj];rfl) ⟨k1,st.2.on λo e=>k2.extBut d o ne e⟩ λb o hb e=>?_
  exact k2.extBut b o (λz=>hb (by simp[z])) e
 done:=λs Q E st hQ=>M8 hh st.1 st.2 (Nat.le_refl _) λh' k=>by
  refine hQ h' s.toks λb o hb e=>?_
  exact k b o (λz=>hb (by simp[z])) e
 self:=λ_ _ _ _ st hQ=>wpAny_pyIter_keyiter st.1 hQ
theorem M7(lo:(d==sysModules)=false):KdlSrc P w "dict" d d es.size (λj v=>(es[j]?.map λe=>e.key)=some v) (λh=>lT h d es ep) where
 type:=λ_ r=>r.ty
 there:=λ_ ⟨_,e,_⟩=>⟨Heap.lt_size e,Heap.lt_size e⟩
 keep:=λ_ _ r hk=>r.on λo e=>hk d (.inl rfl) o e
 notList:=by decide
 notTuple:=by decide
 hint:=λ_ _ _ _ r hq=>kdl_hint_dict r.ty hq
 iter:=λ_ s hh r=>⟨_,_,(λ_ _ hq=>HD lo r hq),Ek hh (by obtain⟨_,e,_⟩:=r;exact Nat.ne_of_lt (Heap.lt_size e)),⟨⟨_,Heap.get?_push_size _ rfl,rfl,rfl⟩,r.on λo e=>Heap.get?_push_of_some _ e⟩⟩
end
def aF(H:Hp)(bs:List Addr)(ts:List (List Int)):Prop:=bs.length=ts.length/\∀(i:Nat) b t,bs[i]?=some b->ts[i]?=some t->H b=some (.tup (List.map V.int t))
def HY(x:V)(H:Hp)(Q:VK):Prop:=∃d,x=.ref d/\∃aG ss,H d=some (.dT aG)/\aG.map (·.1)=ss.map (List.map Sum.inl)/\ss.length<100000/\
 ∀D H' bs ts,bD H H'->H D=none->H' D=some (.lst (List.map V.ref bs))->aF H' bs ts->ts.Perm ss->ts.Pairwise (λa b=>bU a b=true)->Q (.ref D) H'
def qO(te:TE):TE:=λσ H Q=>te σ H λx H1=>HY x H1 Q
theorem kg(ns:List Int):List.map kV (List.map Sum.inl ns)=List.map V.int ns:=by rw[List.map_map];rfl
theorem Uh{ss:List (List Int)}{p:Array Nat}(hp:qu p ss.length)(O:Ord (setB ss) ss.length)(a:yF (setB ss) p ss.length)(h0:0<ss.length):(p.toList.map λi=>ss.getD i []).Pairwise λx y=>bU x y=true:=by
 rw[List.pairwise_map,List.pairwise_iff_getElem]
 intro i j hi hj J8
 have hs:=hp.size
 rw[Array.length_toList]at hi hj
 have:=yF.lt O hp h0 a (Nat.le_refl _) J8 (by lia)
 have e:∀k (hk:k<p.size),sL p k=p.toList[k]'(by simpa using hk):=λk hk=>by
  unfold sL
  rw[Array.getD_eq_getD_getElem?,Array.getElem?_eq_getElem hk]
  simp
 rw[e i hi,e j hj]at this
 exact this
theorem NB{α:Type}{l:List α}{p:Array Nat}{d:α}(hp:qu p l.length):(p.toList.map λi=>l.getD i d).Perm l:=by
 have h1:p.toList.Perm (List.range l.length):=by simpa using Array.perm_iff_toList_perm.mp hp.perm
 have h2:=h1.map λi=>l.getD i d
 have e:(List.range l.length).map (λi=>l.getD i d)=l:=by
  apply List.ext_getElem?
  intro i
  rw[List.getElem?_map]
  by_cases hi:i<l.length
  ·rw[List.getElem?_range hi,List.getElem?_eq_getElem hi]
   simp[List.getD_eq_getElem?_getD,List.getElem?_eq_getElem hi]
  ·rw[List.getElem?_eq_none (by simpa using hi),List.getElem?_eq_none (by lia)]
   rfl
 rwa [e]at h2
theorem n8{α β:Type}{f:α->β}:∀{l:List α},(l.map f).Nodup->l.Nodup
 | [],_=>List.nodup_nil
 | a::l,h=>by
  rw[List.map_cons,List.nodup_cons]at h
  exact List.nodup_cons.mpr ⟨λz=>h.1 (List.mem_map_of_mem z),n8 h.2⟩
theorem uB{α β:Type}{F:α->β->Prop}:∀{l:List α} {m:List β},Paired F l m->∀{i:Nat} {b:β},m[i]?=some b->∃a,l[i]?=some a/\F a b
 | _,_,.nil,i,b,h=>by simp at h
 | _,_,.cons (a:=a) r rs,i,b,h=>by
  cases i with
  | zero=>cases h;exact⟨a,rfl,r⟩
  | succ n=>exact uB rs (i:=n) h
section
variable {X:Cx}{k:Nat}{f:Addr}{fd:FuncData}{pm g:Str}{e:Expr}{te:TE}{p kp kpos pos:Pos}
theorem Jb(hg:Gl X g)(hm:X.mg g=some (.ref f))(pz:(g==("__debug__" : Str))=false):PE X (.Name g kp) (tC (.ref f)):=λpins s σ H Q I h=>lh I hg hm ⟨.ref f,H,I,rfl,h⟩ pz
theorem IW(F:bG X.prog X.w X.K X.mg X.base eI k f fd [pm] ug)(hr:bW (k+2) X.A)(hg:Gl X "sorted")(hm:X.mg "sorted" = none)(hv:bootBuiltins "sorted" = some (.builtin "sorted"))(hgf:Gl X g)(hmf:X.mg g=some (.ref f))(hb:Binds X.K fd [pm] [])(ha:PE X e te)
  (pz:(g==("__debug__" : Str))=false:=by decide) (he:starEach [e] X.env=[(false,eval e X.env)]:=by rfl) :
  PE X (.Call (.Name "sorted" p) [e] [⟨some "key",.Name g kp,kpos⟩] pos) (qO te):=by
 intro pins s σ H Q I h
 refine wpAny_Call_Name_kw (pd I hg hm hv ?_)
 refine callWith_kw (cw ((qE ha zf he) pos pins s σ H (λvs H1=>match vs with | [x]=>HY x H1 Q | _=>False) I h) λus s1 ⟨vs,H1,I1,r1,q1⟩=>?_) (by rw[he];rfl) (by rw[he];rfl)
 match vs,r1,q1 with
 | [x],r1,q1=>
  obtain⟨u,rfl,ru⟩:=vals1 r1
  refine cw ((NP (nm:=some (Str.ofString "key")) (kpos:=kpos) (Jb (kp:=kp) hgf hmf pz) RX) pos pins s1 σ H1 (λzs H2=>zs=[.ref f]/\H2=H1) I1 ⟨rfl,rfl⟩) λws s2 ⟨zs,H2,I2,r2,ez,eh⟩=>?_
  subst ez eh
  obtain⟨u2,rfl,ru2⟩:=vals1 r2
  cases ru2
  obtain⟨d,rfl,aG,ss,hd,ek,l64,q⟩:=q1
  cases ru
  obtain⟨zl,lo,xs,pr,o,es,ep,ho,hx,O2,hes,nd⟩:=I2.aY d _ hd
  have lx:aG.length=xs.length:=pr.length
  have lk:aG.length=ss.length:=by have:=congrArg List.length ek;simpa using this
  have at':∀(i:Nat) x,xs[i]?=some x->∃kv,aG[i]?=some kv/\kv.1=x.1/\H2 x.2.1=some (.tup (kv.1.map kV)):=λi x hx=>by
   obtain⟨kv,e1,e2⟩:=uB pr hx
   exact⟨kv,e1,e2.1,e2.2.1⟩
  have sets:∀(i:Nat) a ns,(xs.map (·.2.1))[i]?=some a->ss[i]?=some ns->H2 a=some (.tup (List.map V.int ns)):=λi a ns ha Lr=>by
   rw[List.getElem?_map]at ha
   cases ex:xs[i]? with
   | none=>rw[ex]at ha;cases ha
   | some x=>
    rw[ex]at ha
    cases ha
    obtain⟨kv,e1,_,e3⟩:=at' i x ex
    have:(aG.map (·.1))[i]?=some (ns.map Sum.inl):=by rw[ek,List.getElem?_map,Lr];rfl
    rw[List.getElem?_map,e1]at this
    have e4:kv.1=ns.map Sum.inl:=Option.some.inj this
    rw[e4,kg]at e3
    exact e3
  have nds:ss.Nodup:=by
   have e5:xs.map (·.1)=ss.map (List.map Sum.inl):=by
    rw[<-ek]
    apply List.ext_getElem?
    intro i
    rw[List.getElem?_map,List.getElem?_map]
    cases ex:xs[i]? with
    | none=>rw[List.getElem?_eq_none (by have:=List.getElem?_eq_none_iff.mp ex;lia)];rfl
    | some x=>obtain⟨kv,e1,e2,_⟩:=at' i x ex;rw[e1];exact congrArg some e2.symm
   rw[e5]at nd
   exact n8 nd
  have Y8:(xs.map (·.2.1)).length=ss.length:=by rw[List.length_map];lia
  refine yU (as:=xs.map (·.2.1)) (ss:=ss) I2 F hr.in1.in1 hb Y8 (by lia) nds sets (λQ' hQ'=>?_) λD H' p sm hD hp ha hl=>?_
  ·refine yt (A:=X.A.in1) (M7 (es:=es) (ep:=ep) lo) hr.hd ⟨o,ho,hx,O2⟩ (by rw[show es.size=aG.length by rw[<-Array.length_toList,hes,List.length_map];lia];exact zl) λs' vs k1 k2 k3 k4 k5 k6=>?_
   have e6:vs=(xs.map (·.2.1)).map Value.ref:=by
    apply List.ext_getElem?
    intro i
    cases ev:vs[i]? with
    | none=>
     have:=List.getElem?_eq_none_iff.mp ev
     rw[List.getElem?_eq_none]
     rw[List.length_map,List.length_map]
     have:es.size=xs.length:=by rw[<-Array.length_toList,hes,List.length_map]
     lia
    | some v=>
     have h1:=k6 i v ev
     rw[<-Array.getElem?_toList,hes,List.getElem?_map]at h1
     rw[List.getElem?_map,List.getElem?_map]
     cases ex:xs[i]? with
     | none=>rw[ex]at h1;cases h1
     | some x=>rw[ex]at h1;exact h1.symm
   rw[e6]at *
   exact hQ' s' k1 k2 k3 k4
  ·have Zg:qu p ss.length:=by rw[<-Y8];exact hp
   have haS:yF (setB ss) p ss.length:=by rw[<-Y8];exact ha
   refine q D H' (p.toList.map λi=>(xs.map (·.2.1)).getD i 0) (p.toList.map λi=>ss.getD i []) sm hD hl ⟨by simp,λi b t hb ht=>?_⟩ (NB Zg) ?_
   ·rw[List.getElem?_map]at hb ht
    cases ei:p.toList[i]? with
    | none=>rw[ei]at hb;cases hb
    | some j=>
     rw[ei]at hb ht
     have hj:j<ss.length:=by
      have:=(Zg.perm.mem_iff (a:=j)).mp (by simpa using List.mem_of_getElem? ei)
      simpa using this
     have Xf:(xs.map (·.2.1)).getD j 0=b:=Option.some.inj hb
     have Ov:ss.getD j []=t:=Option.some.inj ht
     refine sm _ _ (sets j b t ?_ ?_)
     ·rw[<-Xf,List.getD_eq_getElem?_getD,List.getElem?_eq_getElem (by lia)];rfl
     ·rw[<-Ov,List.getD_eq_getElem?_getD,List.getElem?_eq_getElem hj];rfl
   ·by_cases h0:0<ss.length
    ·exact Uh Zg (kW nds) haS h0
    ·have:p.toList=[]:=by
      have:=Zg.size
      exact List.eq_nil_of_length_eq_zero (by rw[Array.length_toList];lia)
     rw[this]
     exact List.Pairwise.nil
end
section
variable {X:Cx}
def Yw(i j:Int):Prop:=0<j/\j<2 ^ 300
theorem Jk:lH X (binaryOp .FloorDiv) (rI Yw λi j=>.int (i / j)):=Y0 λi j _ _ _ _ _ hc q=>by
 have h1:(0:Int)<j:=hc.1
 have h2:j<2 ^ 300:=hc.2
 refine floordiv_int (by omega) (by rw[Int.fdiv_eq_ediv_of_nonneg i (by omega)];exact q) (.inl (PyProof.noPylong_of_log2 ?_))
 have h3:j.natAbs<2 ^ 300:=by omega
 have h4:j.natAbs≠0:=by omega
 have:=(Nat.log2_lt h4).mpr h3
 omega
def Bx:List V->Hp->VK->Prop:=λvs H Q=>∃a,vs=[.ref a]/\∃bs:List Bool,H a=some (.lst (bs.map V.bl))/\Q (.bl (bs.any id)) H
theorem FX:∀{bs:List Bool} {us:List Value},Vals (bs.map V.bl) us->∀(i:Nat) (v:Value),us[i]?=some v->v=.bool (bs.getD i false):=by
 intro bs
 induction bs with
 | nil=>intro us r i v h;cases r;cases i <;> cases h
 | cons b bs ih=>
  intro us r i v h
  rw[List.map_cons]at r
  cases r with
  | cons r1 r2=>
   cases r1
   cases i with
   | zero=>cases h;rfl
   | succ i=>exact ih r2 i v (by simpa using h)
theorem any_range:∀(bs:List Bool),((List.range bs.length).any λi=>bs.getD i false)=bs.any id
 | []=>rfl
 | b::bs=>by
  rw[List.length_cons,List.range_succ_eq_map,List.any_cons,List.any_map,List.any_cons,<-any_range bs]
  rfl
theorem lz(hh:X.A.handled=none):dD X (.builtin "any") Bx:=by
 intro pins s σ H vs us Q I rv h
 obtain⟨a,rfl,bs,hq,q⟩:=h
 obtain⟨u,rfl,ru⟩:=vals1 rv
 cases ru
 obtain⟨its,r,pl,hz⟩:=I.list (aV hq)
 have hl:=r.length
 rw[List.length_map]at hl
 have lt:a<s.heap.objs.size:=let ⟨_,e,_⟩:=pl.isList;Heap.lt_size e
 refine call_any_walk (wpAny_pyIter_list pl.isList ⟨s.heap.objs.size,_,_,its.toArray.size,_,_,λi=>bs.getD i false,rfl,Walks.list (A:=X.A.in1) hh _ a (Nat.ne_of_lt lt) its.toArray,⟨⟨_,Heap.get?_push_size _ rfl,rfl,rfl⟩,(pl.isList).push _⟩,?_,λh' tk mv=>?_⟩)
 ·intro i v s1 Q1 E1 hv hq1
  have:v=.bool (bs.getD i false):=FX r i v (by simpa using hv)
  subst this
  exact wpAny_pure hq1
 ·rw[List.size_toArray,<-hl,any_range]
  have k:∀b o,s.heap.get? b=some o->h'.get? b=some o:=λb o e=>mv b o (λz=>absurd (Heap.lt_size e) (by rw[List.mem_singleton.mp z];exact Nat.lt_irrefl _)) (Heap.get?_push_of_some _ e)
  exact⟨.bl (bs.any id),H,I.un (t':=tk) (Un.kept k) (I.aY.kept k),rfl,q⟩
variable {k:Nat}{f:Addr}{fd:FuncData}{pm g:Str}{e:Expr}{te:TE}{p kp kpos pos:Pos}
theorem Dy(F:bG X.prog X.w X.K X.mg X.base eI k f fd [pm] ug)(hr:bW (k+2) X.A)(hg:Gl X "sorted")(hm:X.mg "sorted" = none)(hv:bootBuiltins "sorted" = some (.builtin "sorted"))(hgf:Gl X g)(hmf:X.mg g=some (.ref f))(hb:Binds X.K fd [pm] [])(ha:ZE X e te)
  (pz:(g==("__debug__" : Str))=false:=by decide) (he:starEach [e] X.env=[(false,eval e X.env)]:=by rfl) :
  ZE X (.Call (.Name "sorted" p) [e] [⟨some "key",.Name g kp,kpos⟩] pos) (qO te):=⟨IW F hr hg hm hv hgf hmf hb ha.to pz he⟩
def vz:V->List V->Hp->VK->Prop:=λx vs H Q=>∃l i y,x=.ref l/\vs=[.int i,y]/\∃xs,H l=some (.lst xs)/\0<=i/\i<=xs.length/\xs.length<100000/\Q .non (upd H l (.lst (xs.take i.toNat++y::xs.drop i.toNat)))
end
end L2
namespace L2
open PySem PySem.Spec PySem.W PyProof.Rows Builtin
theorem tV{X:Cx}{pos:Pos}:ZE X (.Dict [] [] pos) qP:=⟨Jc⟩
end L2
end
section
namespace L2
open PySem PySem.Spec PyProof.Rows
def Uo(K:PySem.W.Frag)(a:Addr)(n:Nat):It:=
 ⟨λi H=>i<n/\∃xs,nv K H a xs/\xs.length=n,λi H x H'=>H'=H/\∀xs,nv K H a xs->xs[n-1-i]?=some x,λi _=>i=n⟩
theorem GX{P:Program}{w:World}{K:PySem.W.Frag}{tg:Expr}(a it:Addr)(n:Nat):Turn P w K tg (Uo K a n) [it] it (λi h=>i<=n/\h.IsRevIter it a ((n:Int)-1-(i:Int))) where
 mem:=by simp
 obj:=λi h st b hb=>by
  have e:b=it:=by simpa using hb
  subst e
  obtain⟨_,o,e,c,d⟩:=st
  exact⟨o,e,λv z=>by rw[d]at z;cases z⟩
 keep:=λi h h' st k=>⟨st.1,st.2.at λo e=>k it (by simp) o e⟩
 item:=by
  intro X hP hw hK hc i pins s σ H E I hf st hg
  subst hP hw hK
  obtain⟨hi,xs,hq,hn⟩:=hg
  obtain⟨its,rv,p,hz⟩:=I.list hq
  have hx:xs[n-1-i]?=some (xs[n-1-i]'(by lia)):=List.getElem?_eq_getElem (by lia)
  obtain⟨u,hu,ru⟩:=rv.get hx
  obtain⟨f0,f1,f2,f3,f4,f5⟩:=hf it (by simp)
  have e1:(n:Int)-1-(i:Int)=((n-1-i:Nat):Int):=by lia
  have Qb:=st.2
  rw[e1]at Qb
  refine wpAny_pyNext_rev_item Qb p.isList (x:=u) (by simpa using hu) λh' bf sb=>?_
  have I1:Inv X pins σ H { s with heap:=h' }:=I.turned (t':=s.toks) (λb o hb e=>(sb.2 b hb).trans e) f0 f1 f3 f4 f5
  obtain⟨o,e,c,d⟩:=id bf
  have e2:((n-1-i:Nat):Int)-1=(n:Int)-1-((i+1:Nat):Int):=by lia
  rw[e2]at bf
  exact⟨u,rfl,Cu (s:={ s with heap:=h' }) e c d (by decide) ⟨_,H,I1,ru,⟨rfl,λys hy=>by rw[I.xQ hy hq];exact hx⟩,⟨hi,bf⟩,λb hb=>(hf b hb).1⟩⟩
 done:=by
  intro X hP hw hK hc i pins s σ H E I hf st hg
  subst hP hw hK
  obtain⟨f0,f1,f2,f3,f4,f5⟩:=hf it (by simp)
  have hg':i=n:=hg
  have Qb:=st.2
  rw[hg',show(n:Int)-1-(n:Int)=-1 by lia]at Qb
  exact wpAny_pyNext_rev_end (I.ok.hd hc) Qb λh' eb=>⟨rfl,I.turned (t':=s.toks) (λb o hb e=>eb b o hb e) f0 f1 f3 f4 f5⟩
 self:=λ_ _ _ _ _ st h=>wpAny_pyIter_revIter st.2 h
section
variable {X:Cx}{tg:Expr}
theorem boot_reversed:bootBuiltins "reversed" = some (.type "reversed"):=by decide +kernel
def JT(K:PySem.W.Frag)(ta:TA):TI:=λσ H R=>ta σ H λvs H1=>∃a,vs=[.ref a]/\∃xs,nv K H1 a xs/\R (Uo K a xs.length) H1
theorem R3{a:Expr}{ta:TA}{p pos:Pos}(hg:Gl X "reversed")(hm:X.mg "reversed" = none)(ha:PA X [a] ta)(hs:starEach [a] X.env=[(false,eval a X.env)]:=by rfl):PI X tg (.Call (.Name "reversed" p) [a] [] pos) (JT X.K ta):=by
 intro pins s σ H R I h
 refine Call_ (pd I hg hm boot_reversed (PyProof.Rows.callWith_type1 (cw (ha pos pins s σ H _ I h) λus s1 ⟨vs,H1,I1,r1,q1⟩=>?_) hs rfl))
 obtain⟨l,e,xs,hq,q⟩:=q1
 subst e
 cases r1 with
 | cons r rr=>
  cases rr
  cases r
  obtain⟨its,rv,pl,hz⟩:=I1.list hq
  have hlen:=rv.length
  refine call_reversed_list pl.isList ?_
  have I2:Inv X pins σ H1 { s1 with heap:=s1.heap.push (revObj l ((its.toArray.size:Int)-1)) }:=I1.kept (t':=s1.toks) λb o e=>Heap.get?_push_of_some _ e
  have st:Heap.IsRevIter (s1.heap.push (revObj l ((its.toArray.size:Int)-1))) s1.heap.objs.size l ((its.toArray.size:Int)-1):=⟨_,Heap.get?_push_size _ rfl,rfl,rfl⟩
  refine wpAny_pyIter_revIter st ?_
  refine⟨s1.heap.objs.size,[s1.heap.objs.size],_,_,H1,rfl,I2,GX l _ xs.length,⟨Nat.zero_le _,?_⟩,λb hb=>?_,q⟩
  ·have e:(xs.length:Int)-1-((0:Nat):Int)=(its.toArray.size:Int)-1:=by simp;lia
   show Heap.IsRevIter _ _ _ ((xs.length:Int)-1-((0:Nat):Int))
   rw[e]
   exact st
  ·have e:b=s1.heap.objs.size:=by simpa using hb
   subst e
   exact I1.O8 (Nat.le_refl _) (I1.aY.fresh (Nat.le_refl _))
theorem z8{K:PySem.W.Frag}{a:Addr}{xs:List V}{g:TG}{tb:TS}{D:Ends}{σ:St}{H:Hp}(Pv:Nat->St->Hp->Prop)(h0:Pv 0 σ H)(hl:∀i σ H,i<=xs.length->Pv i σ H->H a=some (.lst xs))
  (hs:∀i x σ H,xs.reverse[i]?=some x->Pv i σ H->g x σ H λσ2 H2=>tb { D with nx:=Pv (i+1),ct:=Pv (i+1),bk:=D.nx } σ2 H2) (hd:∀σ H,Pv xs.length σ H->D.nx σ H):sD (Uo K a xs.length) g tb D σ H:=by
 refine⟨λi m σ H=>m=xs.length-i/\i<=xs.length/\Pv i σ H,⟨xs.length,by simp,Nat.zero_le _,h0⟩,?_⟩
 rintro i m σ H ⟨rfl,hi,p⟩
 have hL:=hl i σ H hi p
 by_cases fE:i<xs.length
 ·refine .inr ⟨⟨fE,xs,aV hL,rfl⟩,Pv (i+1),λσ' H' p'=>⟨xs.length-(i+1),by lia,rfl,fE,p'⟩,λx H' yl=>?_⟩
  obtain⟨rfl,hx⟩:=yl
  refine hs i x σ _ ?_ p
  rw[List.getElem?_reverse fE]
  exact hx xs (aV hL)
 ·have e:i=xs.length:=by lia
  subst e
  exact .inl ⟨rfl,hd σ H p⟩
theorem L1{a:Expr}{ta:TA}{p pos:Pos}(h1:Gl X (Str.ofString "reversed"))(h2:X.mg (Str.ofString "reversed")=none)(h3:ZA X [a] ta)(h4:starEach [a] X.env=[(false,eval a X.env)]:=by rfl):ZI X tg (.Call (.Name (Str.ofString "reversed") p) [a] [] pos) (JT X.K ta):=⟨R3 h1 h2 h3.1 h4⟩
end
theorem se{α:Type} [DecidableEq α] {cl dl:List α}:((List.range (min cl.length dl.length)).all (λj=>decide (cl[j]?=dl[j]?))&&cl.length==dl.length)=decide (cl=dl):=by
 rw[Bool.eq_iff_iff,Bool.and_eq_true,List.all_eq_true,decide_eq_true_iff,beq_iff_eq]
 constructor
 ·rintro⟨h,l⟩
  apply List.ext_getElem?
  intro i
  by_cases hi:i<cl.length
  ·exact of_decide_eq_true (h i (List.mem_range.mpr (by lia)))
  ·rw[List.getElem?_eq_none (by lia),List.getElem?_eq_none (by lia)]
 ·rintro rfl
  exact⟨λj _=>decide_eq_true rfl,rfl⟩
theorem xY:∀{x y:List Int},List.map V.int x=List.map V.int y->x=y
 | [],[],_=>rfl
 | [],_::_,h=>by cases h
 | _::_,[],h=>by cases h
 | a::x,b::y,h=>by
  rw[List.map_cons,List.map_cons]at h
  injection h with h1 h2
  rw[V.int.inj h1,xY h2]
section
variable {X:Cx}{pins:List (Addr×Obj)}{s:Shared}{σ:St}{H:Hp}{A:Around}
theorem oz{x y:List Int}{us ws:List Value}(r1:Vals (List.map V.int x) us)(r2:Vals (List.map V.int y) ws)(j:Nat)(h1:j<us.toArray.size)(h2:j<ws.toArray.size) :
  SeqAt.EqAt A s us.toArray[j] ws.toArray[j] (decide (x[j]?=y[j]?)):=by
 have l1:=r1.length
 have l2:=r2.length
 rw[List.length_map]at l1 l2
 have j1:j<x.length:=by rw[l1];simpa using h1
 have j2:j<y.length:=by rw[l2];simpa using h2
 have e1:x[j]?=some x[j]:=List.getElem?_eq_getElem j1
 have e2:y[j]?=some y[j]:=List.getElem?_eq_getElem j2
 have h:=Ku (A:=A) (s:=s) (qx (x:=.int x[j]) r1 h1 (by rw[List.getElem?_map,e1];rfl)) (qx (x:=.int y[j]) r2 h2 (by rw[List.getElem?_map,e2];rfl)) rfl rfl
 have e3:Gu (.int x[j]) (.int y[j])=decide (x[j]?=y[j]?):=by
  rw[e1,e2,Bool.eq_iff_iff,decide_eq_true_iff,Option.some.injEq]
  show(x[j]==y[j])=true↔_
  rw[beq_iff_eq]
 rw[e3]at h
 exact h
theorem T8{p q:Addr}{x y:List Int}(I:Inv X pins σ H s)(hp:H p=some (.tup (List.map V.int x)))(hq:H q=some (.tup (List.map V.int y)))(hu:A.units<cLine):SeqAt.EqAt A s (.ref p) (.ref q) (decide (x=y)):=by
 by_cases e:p=q
 ·subst e
  have:x=y:=by
   have h:=hp.symm.trans hq
   simp only[Option.some.injEq,HO.tup.injEq]at h
   exact xY h
  rw[decide_eq_true this]
  exact SeqAt.EqAt.same _
 ·obtain⟨us,r1,t1,_⟩:=I.tuple (bE hp)
  obtain⟨ws,r2,t2,_⟩:=I.tuple (bE hq)
  have l1:=r1.length
  have l2:=r2.length
  rw[List.length_map]at l1 l2
  have h:=SeqAt.RcAt.tuples (A:=A) (e:=λj=>decide (x[j]?=y[j]?)) t1 t2 hu λj h1 h2=>oz r1 r2 j h1 h2
  rw[List.size_toArray,List.size_toArray,<-l1,<-l2,se]at h
  exact .of_refs e h
theorem v7{ps qs:List Addr}{us ws:List Value}{cl dl:List (List Int)}(I:Inv X pins σ H s)(r1:Vals (List.map V.ref ps) us)(r2:Vals (List.map V.ref qs) ws)(a:aF H ps cl)(b:aF H qs dl)(hu:A.units<cLine)(j:Nat)(h1:j<us.toArray.size)(h2:j<ws.toArray.size) :
  SeqAt.EqAt A s us.toArray[j] ws.toArray[j] (decide (cl[j]?=dl[j]?)):=by
 have l1:=r1.length
 have l2:=r2.length
 rw[List.length_map]at l1 l2
 have j1:j<ps.length:=by rw[l1];simpa using h1
 have j2:j<qs.length:=by rw[l2];simpa using h2
 have e1:ps[j]?=some ps[j]:=List.getElem?_eq_getElem j1
 have e2:qs[j]?=some qs[j]:=List.getElem?_eq_getElem j2
 have k1:j<cl.length:=by rw[<-a.1];exact j1
 have k2:j<dl.length:=by rw[<-b.1];exact j2
 have c1:cl[j]?=some cl[j]:=List.getElem?_eq_getElem k1
 have c2:dl[j]?=some dl[j]:=List.getElem?_eq_getElem k2
 have v1:us.toArray[j]=.ref ps[j]:=qx (x:=.ref ps[j]) r1 h1 (by rw[List.getElem?_map,e1];rfl)
 have v2:ws.toArray[j]=.ref qs[j]:=qx (x:=.ref qs[j]) r2 h2 (by rw[List.getElem?_map,e2];rfl)
 have:=T8 (A:=A) I (a.2 j _ _ e1 c1) (b.2 j _ _ e2 c2) hu
 rw[v1,v2,c1,c2]
 have e3:decide ((some cl[j]:Option (List Int))=some dl[j])=decide (cl[j]=dl[j]):=by simp only[Option.some.injEq]
 rw[e3];exact this
def Bu(neg:Bool):R2:=λx y H Q=>∃a b,x=.ref a/\y=.ref b/\∃u v:List Int,H a=some (.tup (List.map V.int u))/\H b=some (.tup (List.map V.int v))/\Q (.bl (if neg then !decide (u=v) else decide (u=v))) H
theorem N4(hu:X.A.units+1<cLine):lH X (compareOp .NotEq) (Bu true):=by
 intro pins s σ H x y v u Q I rx ry h
 obtain⟨a,b,rfl,rfl,cl,dl,h1,h2,q⟩:=h
 cases rx;cases ry
 obtain⟨us,r1,t1,_⟩:=I.tuple (bE h1)
 obtain⟨ws,r2,t2,_⟩:=I.tuple (bE h2)
 have l1:=r1.length
 have l2:=r2.length
 rw[List.length_map]at l1 l2
 refine SeqAt.RcNeAt.tuples (e:=λj=>decide (cl[j]?=dl[j]?)) t1 t2 (by lia) (λj h1 h2=>oz r1 r2 j h1 h2) _ _ _ _ ⟨.bl _,H,I,rfl,?_⟩
 rw[List.size_toArray,List.size_toArray,<-l1,<-l2,se]
 exact q
def Bv(neg:Bool):R2:=λx y H Q=>∃a b,x=.ref a/\y=.ref b/\∃ps qs cl dl,H a=some (.lst (List.map V.ref ps))/\H b=some (.lst (List.map V.ref qs))/\aF H ps cl/\aF H qs dl/\Q (.bl (if neg then !decide (cl=dl) else decide (cl=dl))) H
theorem N5(hu:X.A.units+1<cLine):lH X (compareOp .Eq) (Bv false):=by
 intro pins s σ H x y v u Q I rx ry h
 obtain⟨a,b,rfl,rfl,ps,qs,cl,dl,h1,h2,a1,a2,q⟩:=h
 cases rx;cases ry
 obtain⟨us,r1,t1,_⟩:=I.list (aV h1)
 obtain⟨ws,r2,t2,_⟩:=I.list (aV h2)
 have l1:=r1.length
 have l2:=r2.length
 rw[List.length_map]at l1 l2
 by_cases hl:cl.length=dl.length
 ·refine SeqAt.eq_listAt (e:=λj=>decide (cl[j]?=dl[j]?)) t1.isList t2.isList (by rw[List.size_toArray,List.size_toArray,<-l1,<-l2,a1.1,a2.1,hl]) (by lia) (λj h1 h2=>v7 I r1 r2 a1 a2 (by rw[Around.in1_units];lia) j h1 h2) ⟨.bl _,H,I,rfl,?_⟩
  have e:=se (cl:=cl) (dl:=dl)
  rw[hl,Nat.min_self,beq_self_eq_true,Bool.and_true]at e
  rw[List.size_toArray,<-l1,a1.1,hl,e]
  exact q
 ·refine SeqAt.eq_list_lengthsAt t1.isList t2.isList (by rw[List.size_toArray,List.size_toArray,<-l1,<-l2,a1.1,a2.1];simpa using hl) (by lia) ⟨.bl _,H,I,rfl,?_⟩
  have e:decide (cl=dl)=false:=decide_eq_false λz=>hl (by rw[z])
  have q':Q (.bl (decide (cl=dl))) H:=q
  rw[e]at q'
  exact q'
end
section
variable {X:Cx}{pins:List (Addr×Obj)}{σ:St}{H:Hp}{s:Shared}
end
section
variable {X:Cx}{elt target iter:Expr}{ifs:List Expr}{scope:Scope}{pos:Pos}{cs xs:List Str}{idx:List Nat}{wi:TI}{g:CB->TG}{tt:CB->TT}{te:CB->TE}
end
section
variable {X:Cx}{N:List Str}{iH:Scope}{elt target iter:Expr}{ifs:List Expr}{scope:Scope}{pos:Pos}{wi:TI}{g:CB->TG}{tt:CB->TT}{te:CB->TE}
end
section
variable {prog:Program}{w:World}{A:Around}{E:Value->Shared->Prop}{s:Shared}
end
section
variable {X:Cx}
end
def Up(xs:Array Nat):Prop:=xs.toList.Pairwise (· < ·)
theorem Up.lt{xs:Array Nat}(u:Up xs){i k:Nat}(h:i<k)(hk:k<xs.size):xs.getD i 0<xs.getD k 0:=by
 have h1:i<xs.toList.length:=by rw[Array.length_toList];lia
 have h2:k<xs.toList.length:=by rw[Array.length_toList];lia
 have:=(List.pairwise_iff_getElem.mp u) i k h1 h2 h
 rw[Array.getElem_toList,Array.getElem_toList]at this
 rw[Array.getD_eq_getD_getElem?,Array.getD_eq_getD_getElem?,Array.getElem?_eq_getElem (by lia),Array.getElem?_eq_getElem hk]
 exact this
theorem Km{xs:Array Nat}{i j:Nat}(h:i<xs.size):xs.getD i j=xs.getD i 0:=by
 rw[Array.getD_eq_getD_getElem?,Array.getD_eq_getD_getElem?,Array.getElem?_eq_getElem h];rfl
theorem rX{xs:Array Nat}{j:Nat}(u:Up xs):∀(f lo hi:Nat),hi-lo<=f->lo<=hi->hi<=xs.size->(∀i,i<lo->xs.getD i 0<j)->(∀i,hi<=i->i<xs.size->j<=xs.getD i 0)->
  SetTable.below.go xs j f lo hi<=xs.size/\(∀i,i<SetTable.below.go xs j f lo hi->xs.getD i 0<j)/\∀i,SetTable.below.go xs j f lo hi<=i->i<xs.size->j<=xs.getD i 0
 | 0,lo,hi,h0,h1,h2,a,b=>by
  have e:lo=hi:=by lia
  subst e
  exact⟨h2,a,b⟩
 | f+1,lo,hi,h0,h1,h2,a,b=>by
  unfold SetTable.below.go
  by_cases c:lo<hi
  ·rw[if_pos c]
   dsimp only
   have hm:(lo+hi) / 2<xs.size:=by lia
   rw[Km hm]
   by_cases d:xs.getD ((lo+hi) / 2) 0<j
   ·rw[if_pos d]
    refine rX u f _ _ (by lia) (by lia) h2 (λi zY=>?_) b
    by_cases e:i=(lo+hi) / 2
    ·rw[e];exact d
    ·have:=u.lt (i:=i) (k:=(lo+hi) / 2) (by lia) hm;lia
   ·rw[if_neg d]
    refine rX u f _ _ (by lia) (by lia) (by lia) a λi zY hz=>?_
    by_cases e:i=(lo+hi) / 2
    ·rw[e];lia
    ·have:=u.lt (i:=(lo+hi) / 2) (k:=i) (by lia) hz;lia
  ·rw[if_neg c]
   have e:lo=hi:=by lia
   subst e
   exact⟨h2,a,b⟩
theorem m7{xs:Array Nat}(u:Up xs)(j:Nat):SetTable.below xs j<=xs.size/\(∀i,i<SetTable.below xs j->xs.getD i 0<j)/\∀i,SetTable.below xs j<=i->i<xs.size->j<=xs.getD i 0:=
 rX u xs.size 0 xs.size (by lia) (Nat.zero_le _) (Nat.le_refl _) (λi h=>absurd h (Nat.not_lt_zero _)) (λi h1 h2=>absurd h2 (by lia))
def je(xs:Array Nat)(i:Nat):Nat:=if i=0 then 0 else xs.getD (i-1) 0+1
theorem below_at{xs:Array Nat}(u:Up xs){i:Nat}(hi:i<=xs.size):SetTable.below xs (je xs i)=i:=by
 obtain⟨h0,h1,h2⟩:=m7 u (je xs i)
 generalize SetTable.below xs (je xs i)=r at h0 h1 h2 ⊢
 unfold je at h1 h2
 rcases Nat.lt_trichotomy r i with h | h | h
 ·have:=h2 (i-1) (by lia) (by lia)
  rw[if_neg (by lia)]at this
  lia
 ·exact h
 ·have:=h1 i h
  by_cases e:i=0
  ·rw[if_pos e]at this;lia
  ·rw[if_neg e]at this
   have:=u.lt (i:=i-1) (k:=i) (by lia) (by lia)
   lia
theorem FZ{xs:Array Nat}(u:Up xs){j:Nat}(h:j∈xs.toList):xs[SetTable.below xs j]?=some j:=by
 obtain⟨k,hk,e⟩:=List.getElem_of_mem h
 rw[Array.length_toList]at hk
 rw[Array.getElem_toList]at e
 have ek:xs.getD k 0=j:=by rw[Array.getD_eq_getD_getElem?,Array.getElem?_eq_getElem hk];exact e
 obtain⟨h0,h1,h2⟩:=m7 u j
 have:SetTable.below xs j=k:=by
  generalize SetTable.below xs j=r at h0 h1 h2 ⊢
  rcases Nat.lt_trichotomy r k with h | h | h
  ·have a:=h2 r (Nat.le_refl _) (by lia)
   have b:=u.lt (i:=r) (k:=k) h hk
   lia
  ·exact h
  ·have:=h1 k h;lia
 rw[this,Array.getElem?_eq_getElem hk,e]
theorem tF{α:Type}(xs:Array α)(p:Nat)(x:α):(SetTable.insertAt xs p x).toList=xs.toList.take p++x::xs.toList.drop p:=by
 unfold SetTable.insertAt
 simp[Array.toList_extract,List.extract]
 exact List.take_of_length_le (by simp)
theorem DR{xs:Array Nat}(u:Up xs){j:Nat}(h:j∉xs.toList):Up (SetTable.insertAt xs (SetTable.below xs j) j):=by
 obtain⟨h0,h1,h2⟩:=m7 u j
 generalize SetTable.below xs j=r at h0 h1 h2 ⊢
 unfold Up
 rw[tF,List.pairwise_append]
 have lt:∀a∈xs.toList.take r,a<j:=λa ha=>by
  obtain⟨k,hk,e⟩:=List.getElem_of_mem ha
  rw[List.length_take,Array.length_toList]at hk
  rw[List.getElem_take,Array.getElem_toList]at e
  have:=h1 k (by lia)
  rw[Array.getD_eq_getD_getElem?,Array.getElem?_eq_getElem (by lia)]at this
  rw[<-e];exact this
 have gt:∀a∈xs.toList.drop r,j<a:=λa ha=>by
  have hm:=List.mem_of_mem_drop ha
  obtain⟨k,hk,e⟩:=List.getElem_of_mem ha
  rw[List.length_drop,Array.length_toList]at hk
  rw[List.getElem_drop,Array.getElem_toList]at e
  have:=h2 (r+k) (by lia) (by lia)
  rw[Array.getD_eq_getD_getElem?,Array.getElem?_eq_getElem (by lia)]at this
  have h3:j<=a:=by rw[<-e];exact this
  have h4:j≠a:=λz=>h (by rw[z];exact hm)
  lia
 refine⟨u.sublist (List.take_sublist _ _),List.pairwise_cons.mpr ⟨gt,u.sublist (List.drop_sublist _ _)⟩,λa ha b hb=>?_⟩
 rcases List.mem_cons.mp hb with e | hb
 ·rw[e];exact lt a ha
 ·have:=lt a ha;have:=gt b hb;lia
theorem mM{t:SetTable}{hashAt:Nat->Int}{h:Int}:∀(f:Nat) (p:SetTable.Probe) (j:Nat) (d:Option Nat),(∀q,p.dummy=some q->t.slot q=.dummy)->SetTable.probe.go t hashAt h f p=some (.empty j d)->
  t.slot j=.empty/\∀q,d=some q->t.slot q=.dummy
 | 0,p,j,d,_,e=>by cases e
 | f+1,p,j,d,hd,e=>by
  unfold SetTable.probe.go at e
  have adv:∀p:SetTable.Probe,(t.advance p).dummy=p.dummy:=λp=>by unfold SetTable.advance;split <;> rfl
  cases hs:t.slot p.j with
  | empty=>
   rw[hs]at e
   dsimp only at e
   cases e
   exact⟨hs,hd⟩
  | dummy=>
   rw[hs]at e
   refine mM f _ j d (λq hq=>?_) e
   rw[adv]at hq
   cases hq
   exact hs
  | live i=>
   rw[hs]at e
   dsimp only at e
   split at e
   ·cases e
   ·refine mM f _ j d (λq hq=>?_) e
    rw[adv]at hq
    exact hd q hq
theorem z7{t:SetTable}(u:Up t.place){h:Int}{j:Nat}{b:Bool}(e:t.freeSlot h=some (j,b)):j∉t.place.toList:=by
 unfold SetTable.freeSlot at e
 have key:∀q,t.slot q=.empty\/t.slot q=.dummy->q∉t.place.toList:=λq hq hm=>by
  have z:=FZ u hm
  have sl:t.slot q=.live (SetTable.below t.place q):=by
   unfold SetTable.slot
   dsimp only
   rw[z];simp
  rw[sl]at hq
  rcases hq with h | h <;> cases h
 cases hp:t.probe (λ_=>h+1) h (t.probeStart h) with
 | none=>rw[hp]at e;cases e
 | some m=>
  rw[hp]at e
  cases m with
  | candidate j i n=>cases e
  | empty j0 d=>
   obtain⟨a,c⟩:=mM _ _ _ _ (λq hq=>by cases hq) hp
   dsimp only at e
   cases d with
   | none=>cases e;exact key _ (.inl a)
   | some q=>cases e;exact key _ (.inr (c q rfl))
theorem nJ(n:Nat):Up (Array.range n):=by
 unfold Up
 rw[Array.toList_range]
 exact List.pairwise_lt_range
theorem SN{t:SetTable}(u:Up t.place)(es:Array (Int×Value))(h:Int)(x:Value):Up (layNew t es h x).2.1.place:=by
 unfold layNew
 split
 ·rename_i slot Vb q
  dsimp only
  unfold SetTable.orStandIn
  split
  ·exact DR u (z7 u q)
  ·exact nJ _
 ·exact nJ _
theorem Oj{mask finger moves:Nat}{led plain:Bool}{hs:Array Int}{t':SetTable}{o:Array Nat}(h:SetTable.laid mask finger moves led plain hs=some (t',o)):Up t'.place:=by
 unfold SetTable.laid at h
 cases q:SetTable.layClean mask hs with
 | none=>rw[q]at h;cases h
 | some owner=>
  rw[q]at h
  cases h
  unfold Up
  rw[List.toList_toArray,List.pairwise_map,List.pairwise_filterMap]
  refine List.pairwise_lt_range.imp λ{a b} Zq c hc d hd=>?_
  cases ha:owner.getD a none with
  | none=>rw[ha]at hc;cases hc
  | some k=>
   cases hb:owner.getD b none with
   | none=>rw[hb]at hd;cases hd
   | some k'=>
    rw[ha]at hc;rw[hb]at hd
    cases hc;cases hd
    exact Zq
theorem Hz{t:SetTable}(es:Array (Int×Value))(k:Nat):Up (relayAll t es k).2.1.place:=by
 unfold relayAll
 split
 ·rename_i t' o q
  dsimp only
  split
  ·exact Oj q
  ·exact nJ _
 ·exact nJ _
def tL(p:Int×Tok):Int×Value:=(hashInt p.1,.int p.1 p.2)
structure iX(w:World)(h:Heap)(a:Addr)(l:List (Int×Tok)):Prop where
 ex:∃es ep t,h.get? a=some (dE es ep t)/\es.toList=l.map (tL)/\t.fits es.size=true/\t.led = !pK w/\Up t.place
 nd:(l.map (·.1)).Nodup
 sz:l.length<scanBound
theorem iX.at{w:World}{h h':Heap}{a:Addr}{l:List (Int×Tok)}(x:iX w h a l)(k:∀o,h.get? a=some o->h'.get? a=some o):iX w h' a l:=
 ⟨let ⟨es,ep,t,e,r⟩:=x.ex;⟨es,ep,t,k _ e,r⟩,x.nd,x.sz⟩
section
variable {P:Program}{w:World}{A:Around}{E:Value->Shared->Prop}{s:Shared}{a:Addr}{l:List (Int×Tok)}
theorem FH(l:List (Int×Tok)):ElemsOf (intKind P w) (l.map (tL)):=by
 intro e he
 obtain⟨p,_,rfl⟩:=List.mem_map.mp he
 exact⟨⟨p.1,intKind_is P w _ _,rfl⟩,rfl⟩
theorem Fy(x:Int):∀l:List (Int×Tok),(∀j,(l.map (tL)).findIdx? (λe=>(intKind P w).is x e.2)=some j->x∈l.map (·.1))/\((l.map (tL)).findIdx? (λe=>(intKind P w).is x e.2)=none->x∉l.map (·.1)):=by
 intro l
 refine⟨λj h=>?_,λh hm=>?_⟩
 ·obtain⟨hj,hp,_⟩:=List.findIdx?_eq_some_iff_getElem.mp h
  rw[List.getElem_map]at hp
  rw[List.length_map]at hj
  have:(l[j]).1=x:=(intKind P w).inj _ _ _ (intKind_is P w _ _) hp
  exact List.mem_map.mpr ⟨l[j],List.getElem_mem hj,this⟩
 ·obtain⟨p,hp,rfl⟩:=List.mem_map.mp hm
  have:=List.findIdx?_eq_none_iff.mp h (tL p) (List.mem_map_of_mem hp)
  rw[show(intKind P w).is p.1 (tL p).2=true from intKind_is P w _ _]at this
  cases this
theorem uz{es':List (Int×Value)}{l:List (Int×Tok)}(p:es'.Perm (l.map (tL))):∃l':List (Int×Tok),es'=l'.map (tL)/\l'.Perm l:=by
 let back:Int×Value->Int×Tok:=λe=>match e.2 with | .int x t=>(x,t) | _=>(default,0)
 have hb:∀q:Int×Tok,back (tL q)=q:=λq=>rfl
 refine⟨es'.map back,?_,?_⟩
 ·rw[List.map_map]
  conv=>lhs;rw[<-List.map_id es']
  refine List.map_congr_left λe he=>?_
  obtain⟨q,_,rfl⟩:=List.mem_map.mp (p.mem_iff.mp he)
  rfl
 ·have:=p.map back
  rw[List.map_map,show(back ∘ tL)=id from funext hb,List.map_id]at this
  exact this
theorem add_int{x:Int}{tk:Tok}{Q:Bool->Shared->Prop}(S:iX w s.heap a l)(room:l.length+1<scanBound)
  (q:∀h' l' b,Heap.SameBut a s.heap h'->iX w h' a l'->(∀z,z∈l'.map (·.1)↔z∈l.map (·.1)\/z=x)->l'.length<=l.length+1->Q b { s with heap:=h' }) :
  wpAny (model P w) A (setAddHashed a (.int x tk) (hashInt x)) Q E s:=by
 obtain⟨⟨es,ep,t,ho,Qv,hf,J6,iP⟩,nd,sz⟩:=S
 have hsz:es.size=l.length:=by rw[<-Array.length_toList,Qv,List.length_map]
 have hE:ElemsOf (intKind P w) es.toList:=by rw[Qv];exact FH l
 have hk:(intKind P w).is x (.int x tk)=true:=intKind_is P w _ _
 have hd:(dE es ep t).data=.set es ep t:=rfl
 unfold setAddHashed setAddHashedIn
 refine wpAny_holding (wpAny_bind (wpAny_setState_of ho hd hf ?_))
 dsimp only
 rw[byScan_of (knd:=intKind P w) rfl (by rw[hsz];exact sz) hE]
 simp only[↓reduceIte]
 unfold setAddByScan
 refine wpAny_bind (wpAny_bind (wpAny_rule (wpAny_bind (wpAny_setScan_of (knd:=intKind P w) hk ho hd hf hE ?_))))
 have hfi:=Fy (P:=P) (w:=w) x l
 rw[<-Qv]at hfi
 cases hr:List.findIdx? (λe=>(intKind P w).is x e.2) es.toList with
 | some j=>
  dsimp only
  have hm:=hfi.1 j hr
  refine wpAny_pure (wpAny_pure ?_)
  have e:s={ s with heap:=s.heap }:=by cases s;rfl
  rw[e]
  exact q s.heap l false (Heap.SameBut.refl a s.heap) ⟨⟨es,ep,t,ho,Qv,hf,J6,iP⟩,nd,sz⟩ (λz=>⟨.inl,λh=>h.elim id λe=>e ▸ hm⟩) (Nat.le_succ _)
 | none=>
  have hm:=hfi.2 hr
  dsimp only
  have pp:=layNew_perm t es (hashInt x) (.int x tk)
  have pf:=layNew_fits t es (hashInt x) (.int x tk)
  have pl:=Oh t es (hashInt x) (.int x tk)
  have pq:=SN iP es (hashInt x) (.int x tk)
  generalize hL:layNew t es (hashInt x) (.int x tk)=L at pp pf pl pq ⊢
  obtain⟨nu,t1,Vb,gave⟩:=L
  dsimp only at pp pf pl pq ⊢
  rw[Array.toList_push,Qv]at pp
  obtain⟨l1,e1,p1⟩:=uz (l:=l++[(x,tk)]) (es':=nu.toList) (by rw[List.map_append];exact pp)
  have Wo:l1.length=l.length+1:=by rw[p1.length_eq,List.length_append];rfl
  have nd1:(l1.map (·.1)).Nodup:=by
   rw[(p1.map (·.1)).nodup_iff,List.map_append,List.nodup_append]
   refine⟨nd,by simp,λu hu v hv=>?_⟩
   rw[List.map_cons,List.map_nil,List.mem_singleton]at hv
   rintro rfl
   rw[hv]at hu
   exact hm hu
  have Wl:∀z,z∈l1.map (·.1)↔z∈l.map (·.1)\/z=x:=λz=>by
   rw[(p1.map (·.1)).mem_iff,List.map_append,List.mem_append];simp
  have aB6:nu.size=l.length+1:=by rw[<-Array.length_toList,e1,List.length_map,Wo]
  have gw:∀(b:Bool) {s₁:Shared} {Q':Unit->Shared->Prop},Q' () s₁->wpAny (model P w) A (match b with | true=>rule "set.scan.the-table-gave-way" | false=>pure ()) Q' E s₁:=
   λb s₁ Q' hq=>by cases b <;> first | exact wpAny_pure hq | exact wpAny_rule hq
  refine wpAny_bind (gw _ ?_)
  have fin:∀t2:SetTable,t2.fits nu.size=true->t2.led=t.led->Up t2.place->
    wpAny (model P w) A (do
     storeSet a nu t2
     if (!Vb&&t2.tooFull)=true then do
      (match (relayAll t2 nu (SetTable.grown nu.size)).2.2 with | true=>rule "set.scan.the-table-gave-way" | false=>pure ())
      storeSet a (relayAll t2 nu (SetTable.grown nu.size)).1 (relayAll t2 nu (SetTable.grown nu.size)).2.1
      pure (some true)
     else pure (some true)) (λr s'=>∃b,r=some b/\Q b s') E s:=by
   intro t2 f2 l2 p2
   refine wpAny_bind (wpAny_storeSet_of ho hd ?_ (by rw[aB6];exact fits_of_scanBound room))
   have g1:(s.heap.update a (Obj.putSet nu t2)).get? a=some (dE nu (ep+1) t2):=by
    have:=Heap.get?_update_self (Obj.putSet nu t2) ho (by rw[putSet_of nu t2 hd];rfl)
    rw[putSet_of nu t2 hd]at this;exact this
   have sb:=Heap.SameBut.update s.heap a (Obj.putSet nu t2)
   split
   ·have rp:=relayAll_perm t2 nu (SetTable.grown nu.size)
    have rf:=relayAll_fits t2 nu (SetTable.grown nu.size)
    have rl:=Ej t2 nu (SetTable.grown nu.size)
    have rq:=Hz (t:=t2) nu (SetTable.grown nu.size)
    generalize hR:relayAll t2 nu (SetTable.grown nu.size)=R at rp rf rl rq ⊢
    obtain⟨T7,t3,aDu⟩:=R
    dsimp only at rp rf rl rq ⊢
    rw[e1]at rp
    obtain⟨JM,e2,p2'⟩:=uz rp
    have Wn:JM.length=l.length+1:=by rw[p2'.length_eq,Wo]
    have aB5:T7.size=l.length+1:=by rw[<-Array.length_toList,e2,List.length_map,Wn]
    refine wpAny_bind (gw _ ?_)
    refine wpAny_bind (wpAny_storeSet_of g1 rfl ?_ (by rw[aB5];exact fits_of_scanBound room))
    have g2:((s.heap.update a (Obj.putSet nu t2)).update a (Obj.putSet T7 t3)).get? a=some (dE T7 (ep+1+1) t3):=by
     have:=Heap.get?_update_self (Obj.putSet T7 t3) g1 (by rw[putSet_of T7 t3 (show(dE nu (ep+1) t2).data=_ from rfl)];rfl)
     rw[putSet_of T7 t3 (show(dE nu (ep+1) t2).data=_ from rfl)]at this;exact this
    refine wpAny_pure ⟨true,rfl,q _ JM true (sb.trans (Heap.SameBut.update _ a _)) ⟨⟨T7,_,t3,g2,e2,rf,by rw[rl,l2,J6],rq⟩,by rw[(p2'.map (·.1)).nodup_iff];exact nd1,by lia⟩ (λz=>by rw[(p2'.map (·.1)).mem_iff];exact Wl z) (by lia)⟩
   ·exact wpAny_pure ⟨true,rfl,q _ l1 true sb ⟨⟨nu,_,t2,g1,e1,f2,by rw[l2,J6],p2⟩,nd1,by lia⟩ Wl (by lia)⟩
  split
  ·rename_i nr
   refine wpAny_bind ?_
   rw[hashByValue_scannable 8 (show(Value.int x tk).scannable=true from rfl)]
   refine wpAny_pure ?_
   rw[show(if plainKind (Value.int x tk)=true then t1 else { t1 with plain:=false })=t1 from rfl]
   refine wpAny_mono (fin t1 pf pl pq) (λr s' h=>?_) λ_ _ h=>h
   obtain⟨b,rfl,hq⟩:=h
   exact wpAny_pure hq
  ·rename_i nr
   refine wpAny_bind (wpAny_pure ?_)
   simp only[↓reduceIte]
   refine wpAny_mono (fin t1 pf pl pq) (λr s' h=>?_) λ_ _ h=>h
   obtain⟨b,rfl,hq⟩:=h
   exact wpAny_pure hq
end
section
variable {P:Program}{w:World}{A:Around}{R:Result->Shared->Prop}{I:Addr}{fp wr:List Addr}{G:Array GenState->Array GenState->Prop}{n:Nat}{Pv:Nat->Value->Prop}{St:Nat->Shared->Prop}
theorem xP(W:WalksS P w A.in1 I fp wr G n Pv St)(S:Addr)(U4:S∉fp)(val:Nat->Int)(hval:∀i v,Pv i v->∃t,v=.int (val i) t)(hb:n+1<scanBound) :
  ∀(k i:Nat) (s:Shared) (l:List (Int×Tok)),n-i=k->i<=n->St i s->iX w s.heap S l->l.length<=i->(∀z,z∈l.map (·.1)↔∃j,j<i/\val j=z)->
   (∀s' l',Moved (S::wr) G s s'->iX w s'.heap S l'->(∀z,z∈l'.map (·.1)↔∃j,j<n/\val j=z)->R (.ok (.ret .none)) s')->
   codeAny (model P w) A (.builtin "set.update.loop" ⟨[.ref S,.ref I],[]⟩) R s:=by
 have nw:S∉wr:=λz=>U4 (W.sub _ z)
 have up:∀b∈wr,b∈S::wr:=λb z=>List.mem_cons_of_mem _ z
 intro k
 induction k with
 | zero=>
  intro i s l hk hi st hS hl hm r
  obtain rfl:i=n:=by lia
  refine codeAny_builtin F.entry_set_update_loop ?_
  rw[Around.under_plainId F.plain_set_update_loop _]
  refine wpAny_bind (m:=pyNext (.ref I)) (W.done s _ _ st λs' mv=>?_)
  refine wpAny_pure (r s' l (mv.mono up) (hS.at λo e=>mv.heap S o nw e) hm)
 | succ k ih=>
  intro i s l hk hi st hS hl hm r
  have lt:i<n:=by lia
  refine codeAny_builtin F.entry_set_update_loop ?_
  rw[Around.under_plainId F.plain_set_update_loop _]
  refine wpAny_bind (m:=pyNext (.ref I)) (W.item i s _ _ lt st λv s' pv bf mv=>?_)
  obtain⟨t,rfl⟩:=hval i v pv
  have O4:=hS.at (h':=s'.heap) λo e=>mv.heap S o nw e
  refine wpAny_bind (m:=holding [Value.int (val i) t] (setAdd S (.int (val i) t))) (wpAny_holding ?_)
  unfold setAdd
  refine wpAny_holding (wpAny_bind ((intKind P w).pyHash (k:=val i) (intKind_is _ _ _ _) ?_))
  refine add_int (s:={ s' with toks:=s'.toks+1 }) O4 (by lia) λh' l' b sb S2 m2 Wn=>?_
  refine wpAny_pure ⟨plainId_quiet F.plain_set_update_loop _,ih (i+1) _ l' (by lia) lt (W.frame _ s' _ _ bf (Nat.le_succ _) λc hc o e=>?_) S2 (by lia) (λz=>?_) λs2 l2 mv2 S3 m3=>?_⟩
  ·rw[sb.2 c (λq:c=S=>U4 (by rw[<-q];exact hc))];exact e
  ·rw[m2 z,hm z]
   constructor
   ·rintro(⟨j,hj,e⟩ | e)
    ·exact⟨j,by lia,e⟩
    ·exact⟨i,by lia,e.symm⟩
   ·rintro⟨j,hj,e⟩
    by_cases q:j=i
    ·subst q;exact .inr e.symm
    ·exact .inl ⟨j,by lia,e⟩
  ·refine r s2 l2 (Moved.trans W.gtrans ((mv.mono up).then_heap (Nat.le_succ _) λc o hc e=>?_) mv2) S3 m3
   rw[sb.2 c (λq:c=S=>hc (by rw[q];exact List.mem_cons_self))];exact e
end
theorem rJ:∀{vs:List Value} {ss:List Int},IntsAre vs ss->∀(i:Nat) (v:Value),vs[i]?=some v->∃t,v=.int (ss.getD i 0) t
 | _,_,.nil,i,v,h=>by cases i <;> cases h
 | _,_,.cons y t r,0,v,h=>by cases h;exact⟨t,rfl⟩
 | _,_,.cons y t r,i+1,v,h=>by
  obtain⟨u,e⟩:=rJ r i v (by simpa using h)
  exact⟨u,by rw[e];rfl⟩
section
variable {P:Program}{w:World}{A:Around}{E:Value->Shared->Prop}{s:Shared}
theorem Vz{l:Addr}{items:Array Value}{ss:List Int}{Q:Value->Shared->Prop}(hh:A.handled=none)(hl:s.heap.IsList l items)(hi:IntsAre items.toList ss)(hb:items.size+1<scanBound)
  (h:∀(h':Heap) (tk:Nat) (ls:List (Int×Tok)),iX w h' s.heap.objs.size ls->(∀z,z∈ls.map (·.1)↔z∈ss)->(∀b o,b<s.heap.objs.size->s.heap.get? b=some o->h'.get? b=some o)->Q (.ref s.heap.objs.size) { s with heap:=h',toks:=tk }) :
  wpAny (model P w) A (call (.type "set") [.ref l]) Q E s:=by
 have e:∀z:Int,(∃j,j<items.size/\ss.getD j 0=z)↔z∈ss:=λz=>by
  have hlen:items.size=ss.length:=by rw[<-Array.length_toList];exact hi.length
  rw[hlen,List.mem_iff_getElem]
  constructor
  ·rintro⟨j,hj,e⟩;exact⟨j,hj,by rw[<-e];simp[hj]⟩
  ·rintro⟨j,hj,e⟩;exact⟨j,hj,by rw[<-e];simp[hj]⟩
 obtain⟨c,tl,aCg⟩:=PySem.F.called_set.mro
 have WX:=PySem.F.called_set.made
 have zW:=PySem.F.called_set.sub
 refine wpAny_call (codeAny_of_tree (wpAny_pure (a:=_) ⟨Code.quiet_builtin _ (by decide +kernel),codeAny_builtin PySem.F.entry_type_call ?_⟩))
 rw[Around.under_plain (weight_type_call_type "set" [.ref l] []) rfl]
 have h1:=PySem.F.called_set.notType
 have h2:=PySem.F.called_set.canCreate
 have hct:=PySem.F.typeCall_set_1 (.ref l)
 repeat (any_goals (first | assumption | wp_step))
 refine codeAny_mono (Bo (x:=.ref l) (E:=E) (Q:=λobj s₁=>obj=.ref s.heap.objs.size/\s₁={ s with heap:=s.heap.push (dE #[] 0 (.fresh 0 0 (!pK w))) }) ⟨rfl,rfl⟩) λr s₁ hr=>?_
 cases r with
 | error e=>exact hr
 | ok fl=>
  cases fl with
  | ret obj=>
   obtain⟨rfl,rfl⟩:=hr
   have hS:(s.heap.push (dE #[] 0 (.fresh 0 0 (!pK w)))).get? s.heap.objs.size=some (dE #[] 0 (.fresh 0 0 (!pK w))):=Heap.get?_push_size _ rfl
   have hT:Shared.TypeIs { s with heap:=s.heap.push (dE #[] 0 (.fresh 0 0 (!pK w))) } (.ref s.heap.objs.size) "set":=⟨_,hS,rfl⟩
   have hli:=PySem.F.called_set.init.lookup
   have hbi:=PySem.F.called_set.init.bind (.ref s.heap.objs.size)
   repeat (any_goals (first | assumption | wp_step))
   refine codeAny_mono (codeAny_call_builtin (R:=wants (λr s₂=>r=.none/\∃h' tk ls,s₂={ s with heap:=h',toks:=tk }/\iX w h' s.heap.objs.size ls/\(∀z,z∈ls.map (·.1)↔z∈ss)/\
     (∀b o,b<s.heap.objs.size->s.heap.get? b=some o->h'.get? b=some o)) E) PySem.F.called_set.init.plain PySem.F.entry_set_init (check_set_init_1 hT ?_)) λr₂ s₂ Tj=>?_
   ·obtain⟨ol,WM,uM,nl,Qx⟩:=hl
    obtain⟨aBh,Jw,Wi,zg⟩:=ol
    simp only at uM Qx
    subst uM;subst Qx
    have Tt:(s.heap.push (dE #[] 0 (.fresh 0 0 (!pK w)))).get? l=some { cls:=.type "list",dict:=Jw,data:=.seq items nl,slots:=zg }:=Heap.get?_push_of_some _ WM
    have aB7:=PySem.F.sub_list_set
    have aB8:=PySem.F.sub_list_frozenset
    have qH:(Value.type "list" == Value.type "dict")=false:=by decide
    have tI:(s.heap.push (dE #[] 0 (.fresh 0 0 (!pK w)))).IsList l items:=⟨_,Tt,rfl,nl,rfl⟩
    unfold Builtin.«set.__init__» noKeywords Builtin.Frozenset.updateFrom
    unfold dE at *
    generalize hPI:pyIter=PI
    wp_walk
    subst hPI
    refine wpAny_pyIter_list tI (wpAny_bind (wpAny_runValue ?_))
    have W0:l<s.heap.objs.size:=Heap.lt_size WM
    have hh3:A.in1.in1.in1.handled=none:=by simp[hh]
    have hsz:(s.heap.push (dE #[] 0 (.fresh 0 0 (!pK w)))).objs.size=s.heap.objs.size+1:=Heap.size_push _ _
    have Tx:l≠(s.heap.push (dE #[] 0 (.fresh 0 0 (!pK w)))).objs.size:=by rw[hsz];exact Nat.ne_of_lt (Nat.lt_succ_of_lt W0)
    have U4:s.heap.objs.size∉[(s.heap.push (dE #[] 0 (.fresh 0 0 (!pK w)))).objs.size,l]:=by
     rw[hsz];simp only[List.mem_cons,List.mem_singleton,List.not_mem_nil,or_false,not_or];exact⟨Nat.ne_of_lt (Nat.lt_succ_self _),Nat.ne_of_gt W0⟩
    refine xP ((Walks.list hh3 _ l Tx items).toS) s.heap.objs.size U4 (λj=>ss.getD j 0) (λi v hv=>?hv) hb (items.size-0) 0 _ [] (by lia) (Nat.zero_le _)
     ⟨⟨_,Heap.get?_push_size _ rfl,rfl,rfl⟩,(tI.push _)⟩ ?hS0 (Nat.zero_le _) (λz=>⟨(λz=>nomatch z),λ⟨_,hj,_⟩=>absurd hj (Nat.not_lt_zero _)⟩) ?hR
    case hv=>exact rJ hi i v (by rw[Array.getElem?_toList];exact hv)
    case hS0=>exact⟨⟨#[],0,_,Heap.get?_push_of_some _ hS,rfl,rfl,rfl,List.Pairwise.nil⟩,List.nodup_nil,by decide⟩
    case hR=>
     intro s' l' hm O4 mem
     obtain⟨h',g',d',Vd,Wc⟩:=s'
     have eg:g'=s.gens:=hm.gens
     have ed:d'=s.drawn:=hm.drawn
     have eo:Wc=s.os:=hm.os
     subst eg;subst ed;subst eo
     refine wpAny_pure (wpAny_pure ⟨rfl,h',Vd,l',rfl,O4,λz=>(mem z).trans (e z),λb o hb e=>?_⟩)
     refine hm.heap b o ?_ (Heap.get?_push_of_some _ (Heap.get?_push_of_some _ e))
     rw[hsz]
     simp only[List.mem_cons,List.mem_singleton,List.not_mem_nil,or_false,not_or];exact⟨Nat.ne_of_lt hb,Nat.ne_of_lt (Nat.lt_succ_of_lt hb)⟩
   ·cases r₂ with
    | error e=>exact Tj
    | ok fl₂=>
     cases fl₂ with
     | ret r=>
      obtain⟨rfl,h',tk,ls,rfl,O4,hm',Tz⟩:=Tj
      repeat (any_goals (first | assumption | wp_step))
      exact h _ _ _ O4 hm' Tz
     | _=>exact Tj.elim
  | _=>exact hr.elim
end
section
variable {P:Program}{w:World}{A:Around}{E:Value->Shared->Prop}{s:Shared}{a:Addr}{l:List (Int×Tok)}
theorem iX.typeIs(S:iX w s.heap a l):s.TypeIs (.ref a) "set":=let ⟨_,_,_,e,_⟩:=S.ex;⟨_,e,rfl⟩
def Dp(P:Program)(w:World)(z:Nat)(a:Addr)(l:List (Int×Tok))(I:Addr)(s':Shared):Prop:=
 ∃(ord:List Value) (fp:List Addr) (St:Nat->Shared->Prop),(∀B:Around,B.handled=none->WalksS P w B I fp [I] (λx y=>y=x) l.length (λi v=>ord[i]?=some v) St)/\St 0 s'/\
  (∀b∈fp,b<s'.heap.objs.size/\(b=a\/z<=b))/\I∈fp/\ord.Perm (l.map λp=>Value.int p.1 p.2)
end
section
variable {P:Program}{w:World}{A:Around}{E:Value->Shared->Prop}{s:Shared}{a:Addr}{es:Array (Int×Value)}{t:SetTable}{ep slot i:Nat}
theorem zr{Q:Option (Value×Nat)->Shared->Prop}(hb:pK w=false)(hl:t.led=true)(d:(!t.plain&&decide (es.size > 1))=false)(hS:s.heap.get? a=some (dE es ep t))(hf:t.fits es.size=true)
  (q:Q (match es[SetTable.below t.place slot]?,t.place[SetTable.below t.place slot]? with | some (_,x),some j=>some (x,j+1) | _,_=>none) s):wpAny (model P w) A (setNext a slot i ep) Q E s:=by
 unfold setNext
 refine wpAny_bind (wpAny_setState_of hS rfl hf (wpAny_bind (js ?_)))
 rw[hb]
 dsimp only
 rw[if_neg (by simp)]
 show wpAny _ _ (if (!t.plain&&decide (es.size > 1))=true then _ else _) _ _ _
 rw[d,if_neg (by simp)]
 show wpAny _ _ ((if (!t.led && !es.isEmpty)=true then _ else _) >>= _) _ _ _
 rw[hl,Bool.not_true,Bool.false_and,if_neg (by simp)]
 exact wpAny_bind (wpAny_pure (wpAny_pure q))
end
section
variable {P:Program}{w:World}{A:Around}{E:Value->Shared->Prop}{s:Shared}{a:Addr}{l:List (Int×Tok)}
theorem Ee{Q:Value->Shared->Prop}(S:iX w s.heap a l)
  (q:∀I s',s.heap.objs.size<=I->(∀b o,s.heap.get? b=some o->s'.heap.get? b=some o)->s'.gens=s.gens->s'.os=s.os->Dp P w s.heap.objs.size a l I s'->Q (.ref I) s'):wpAny (model P w) A (pyIter (.ref a)) Q E s:=by
 obtain⟨⟨es,ep,t,ho,Qv,hf,J6,iP⟩,nd,sz⟩:=id S
 have hsz:es.size=l.length:=by rw[<-Array.length_toList,Qv,List.length_map]
 have hval:es.toList.map (·.2)=l.map λp=>Value.int p.1 p.2:=by rw[Qv,List.map_map];rfl
 have lt:a<s.heap.objs.size:=Heap.lt_size ho
 refine wpAny_pyIter_slot S.typeIs PySem.F.slot_set_iter (wpAny_call_entry PySem.F.slot_set_iter S.typeIs sQ ?_ (PySem.F.args_set_iter_1 _))
 unfold Builtin.«frozenset.__iter__»
 refine wpAny_bind (m:=Builtin.Frozenset.slot0 "__iter__" ⟨[.ref a],[]⟩) (wpAny_of_eq (a:=a) rfl ?_)
 unfold Builtin.Frozenset.sizeOf
 refine wpAny_bind (wpAny_bind (wpAny_setEntries_of ho rfl hf (wpAny_pure ?_)))
 unfold setDrawn
 refine wpAny_bind (wpAny_bind (wpAny_setState_of ho rfl hf (wpAny_bind (js (wpAny_pure ?_)))))
 have last:∀(first:Value) (s1:Shared),s1.heap.get? a=some (dE es ep t)->(∀b o,s.heap.get? b=some o->s1.heap.get? b=some o)->s.heap.objs.size<=s1.heap.objs.size->s1.gens=s.gens->s1.os=s.os->
   (∀s',s'.heap.get? s1.heap.objs.size=some (lM first 0 es.size ep a)->(∀b o,s1.heap.get? b=some o->s'.heap.get? b=some o)->Dp P w s.heap.objs.size a l s1.heap.objs.size s')->
   wpAny (model P w) A.in1 (do let e <-setEpoch a;let v <-newFields "set_iterator" [first,rawInt 0,Value.ref a,rawInt es.size,rawInt e];ret v) (λfin s'=>∃v,fin=Fin.done (Flow.ret v)/\∃T' r,s'.TypeIs v T'/\typeLookup (Value.type T') (Str.ofString "__next__")=pure (some r)/\Q v s') E s1:=by
  intro first s1 h1 k1 z1 g1 o1 hw
  refine wpAny_bind (wpAny_setEpoch_of h1 rfl hf ?_)
  unfold newFields
  refine wpAny_bind (wpAny_newObj_type ?_ (by size_fits))
  have hI:(s1.heap.push { cls:=.type "set_iterator",data:=.fields [first,rawInt 0,Value.ref a,rawInt es.size,rawInt ep].toArray }).get? s1.heap.objs.size=some (lM first 0 es.size ep a):=Heap.get?_push_size _ rfl
  refine wpAny_pure ⟨_,rfl,"set_iterator",_,⟨_,hI,rfl⟩,dW.lookup,q _ _ z1 (λb o e=>Heap.get?_push_of_some _ (k1 b o e)) g1 o1 (hw _ hI λb o e=>Heap.get?_push_of_some _ e)⟩
 show wpAny _ _ (if (!pK w&&(!t.plain&&decide (es.size > 1)))=true then _ else _) _ _ _
 by_cases hd:(!pK w&&(!t.plain&&decide (es.size > 1)))=true
 ·rw[if_pos hd]
  refine wpAny_bind (uR es.size (List.range es.size) _ _ (by simp) λys d hp=>?_)
  have Zd:ys.length=es.size:=by rw[hp.length_eq,List.length_range]
  refine wpAny_bind (wpAny_newTuple ?_ (by rw[List.length_map,Zd,hsz];exact fits_of_scanBound sz))
  refine last (.ref s.heap.objs.size) _ (Heap.get?_push_of_some _ ho) (λb o e=>Heap.get?_push_of_some _ e) (by show _<=(Heap.push _ _).objs.size;rw[Heap.size_push];exact Nat.le_succ _) rfl rfl λs' hI k=>?_
  have e1:(Heap.push s.heap { cls:=.type "tuple",data:=.seq (ys.map λ(i:Nat)=>rawInt i).toArray }).objs.size=s.heap.objs.size+1:=Heap.size_push _ _
  have Oy:=k s.heap.objs.size _ (Heap.get?_push_size _ rfl)
  have QC:=k a _ (Heap.get?_push_of_some _ ho)
  have lts:∀j∈ys,j<es.size:=λj hj=>List.mem_range.mp (hp.mem_iff.mp hj)
  refine⟨ys.map λj=>(es.toList.map (·.2)).getD j .none,_,_,λC hC=>DQ (n:=l.length) (pl:=ys) (c:=0) (p:=s.heap.objs.size) (es:=es) (t:=t) (ep:=ep) (a:=a) hC (by rw[e1];exact Nat.ne_of_lt (Nat.lt_succ_of_lt lt)) (by rw[e1];exact Nat.ne_of_lt (Nat.lt_succ_self _)) hf hsz (by rw[List.length_map,Zd,hsz]) (by rw[Zd,hsz]) λi hi=>?_,⟨by rw[<-hsz];exact hI,QC,Oy⟩,?_,by simp,?_⟩
  ·have zY:i<ys.length:=by rw[Zd,hsz];exact hi
   have hk:=lts ys[i] (List.getElem_mem zY)
   refine⟨ys[i],es[ys[i]].1,es[ys[i]].2,List.getElem?_eq_getElem zY,Array.getElem?_eq_getElem hk,?_⟩
   rw[List.getElem?_map,List.getElem?_eq_getElem zY,Option.map_some,List.getD_eq_getElem?_getD,List.getElem?_map,Array.getElem?_toList,Array.getElem?_eq_getElem hk]
   rfl
  ·intro b hb
   simp only[List.mem_cons,List.not_mem_nil,or_false]at hb
   rcases hb with rfl | rfl | rfl
   ·exact⟨Heap.lt_size hI,.inr (by rw[e1];exact Nat.le_succ _)⟩
   ·exact⟨Heap.lt_size QC,.inl rfl⟩
   ·exact⟨Heap.lt_size Oy,.inr (Nat.le_refl _)⟩
  ·rw[<-hval]
   refine(hp.map _).trans ?_
   rw[show(List.range es.size).map (λj=>(es.toList.map (·.2)).getD j .none)=es.toList.map (·.2) from ?_]
   refine List.ext_getElem? λi=>?_
   by_cases hi:i<es.size
   ·simp[hi]
   ·simp[hi]
 ·rw[if_neg hd]
  refine wpAny_bind (wpAny_pure ?_)
  refine last (rawInt 0) s ho (λ_ _ e=>e) (Nat.le_refl _) rfl rfl λs' hI k=>?_
  have QC:=k a _ ho
  have ZM:∀b∈[s.heap.objs.size,a],b<s'.heap.objs.size/\(b=a\/s.heap.objs.size<=b):=λb hb=>by
   simp only[List.mem_cons,List.not_mem_nil,or_false]at hb
   rcases hb with rfl | rfl
   ·exact⟨Heap.lt_size hI,.inr (Nat.le_refl _)⟩
   ·exact⟨Heap.lt_size QC,.inl rfl⟩
  cases hb:pK w with
  | true=>
   refine⟨(pickOrder (w.params.setOrder a ep) es).toList.map (·.2),_,_,λC hC=>tZ (n:=l.length) (es:=es) (t:=t) (ep:=ep) (a:=a) (λ_=>0) hC (Nat.ne_of_lt lt) hf hsz (by rw[List.length_map,(uv _ es).length_eq,Array.length_toList,hsz]) λi _ s1 C' E' Q' h1 hq=>?_,⟨by rw[<-hsz];exact hI,QC⟩,ZM,by simp,?_⟩
   ·refine xG hb h1 hf ?_
    rw[List.getElem?_map,Array.getElem?_toList,Option.map_map]at hq
    exact hq
   ·rw[<-hval];exact(uv _ es).map _
  | false=>
   have led:t.led=true:=by rw[J6,hb];rfl
   have hpz:t.place.size=es.size:=by
    unfold SetTable.fits at hf
    rw[Bool.and_eq_true]at hf
    exact eq_of_beq hf.1
   have dr:(!t.plain&&decide (es.size > 1))=false:=by rw[hb]at hd;simpa using hd
   refine⟨es.toList.map (·.2),_,_,λC hC=>tZ (n:=l.length) (es:=es) (t:=t) (ep:=ep) (a:=a) (je t.place) hC (Nat.ne_of_lt lt) hf hsz (by rw[List.length_map,Array.length_toList,hsz]) λi hi s1 C' E' Q' h1 hq=>?_,⟨by rw[<-hsz];exact hI,QC⟩,ZM,by simp,by rw[hval]⟩
   refine zr hb led dr h1 hf ?_
   rw[below_at iP (by lia)]
   rw[List.getElem?_map,Array.getElem?_toList]at hq
   by_cases h2:i<es.size
   ·rw[Array.getElem?_eq_getElem h2]at hq ⊢
    rw[Array.getElem?_eq_getElem (show i<t.place.size by lia)]
    have e:je t.place (i+1)=t.place[i]'(by lia)+1:=by
     unfold je
     rw[if_neg (by lia),Nat.add_sub_cancel,Array.getD_eq_getD_getElem?,Array.getElem?_eq_getElem (show i<t.place.size by lia)]
     rfl
    rw[e]at hq
    exact hq
   ·rw[Array.getElem?_eq_none (by lia)]at hq ⊢
    exact hq
theorem wg{Q:List Value->Shared->Prop}(hh:A.handled=none)(S:iX w s.heap a l)
  (q:∀(s':Shared) (vs:List Value),(∀b o,s.heap.get? b=some o->s'.heap.get? b=some o)->s.heap.objs.size<=s'.heap.objs.size->s'.gens=s.gens->s'.os=s.os->vs.Perm (l.map λp=>Value.int p.1 p.2)->Q vs s'):wpAny (model P w) A (collect (.ref a)) Q E s:=by
 have lt:a<s.heap.objs.size:=let ⟨_,_,_,e,_⟩:=S.ex;Heap.lt_size e
 unfold collect
 refine wpAny_bind (wpAny_runValue (codeAny_builtin entry_proto_collect' ?_))
 rw[Around.under_plainId PySem.F.plain_proto_collect _]
 refine wpAny_bind (m:=newList []) (wpAny_newObj_type ?_)
 refine wpAny_pure ⟨plainId_quiet PySem.F.plain_list_iadd _,codeAny_builtin entry_list_iadd' ?_⟩
 rw[Around.under_plainId PySem.F.plain_list_iadd _]
 let L0:Obj:={ cls:=.type "list",data:=.seq ([]:List Value).toArray }
 have k0:∀b o,s.heap.get? b=some o->(s.heap.push L0).get? b=some o:=λb o e=>Heap.get?_push_of_some _ e
 have hL:(s.heap.push L0).get? s.heap.objs.size=some L0:=Heap.get?_push_size _ rfl
 have S0:iX w (s.heap.push L0) a l:=S.at λo e=>k0 a o e
 show wpAny _ A.in1 (Builtin.List.listExtendWith (.ref s.heap.objs.size) (.ref a) (.ref s.heap.objs.size)) _ _ { s with heap:=s.heap.push L0 }
 unfold Builtin.List.listExtendWith
 refine wpAny_bind (wpAny_typeOf (T:="set") (iX.typeIs (s:={ s with heap:=s.heap.push L0 }) S0) ?_)
 have h1:Builtin.List.listSameRef (.ref s.heap.objs.size) (.ref a)=false:=by simp[Builtin.List.listSameRef,Nat.ne_of_gt lt]
 have h2:(Value.type "set" == Value.type "list")=false:=by decide
 have h3:(Value.type "set" == Value.type "tuple")=false:=by decide
 simp only[h1,h2,h3,Bool.or_false,Bool.false_eq_true,if_false]
 refine wpAny_bind (Ee (s:={ s with heap:=s.heap.push L0 }) S0 λI s1 zI k1 g1 o1 W=>?_)
 have S1:iX w s1.heap a l:=S0.at λo e=>k1 a o e
 have yK:=k1 _ _ hL
 have qH:s.heap.objs.size≠I:=by
  have:(s.heap.push L0).objs.size<=I:=zI
  rw[Heap.size_push]at this
  exact Nat.ne_of_lt this
 refine wpAny_bind (wpAny_holding (Hq (iX.typeIs S1) ?_))
 obtain⟨ord,fp,St,wk,st,ZM,mI,po⟩:=W
 have hlen:l.length<=sizeLine:=fits_of_scanBound S.sz
 have z1:(s.heap.push L0).objs.size=s.heap.objs.size+1:=Heap.size_push _ _
 have nf:s.heap.objs.size∉fp:=λz=>by
  rcases(ZM _ z).2 with e | e
  ·exact absurd e (Nat.ne_of_gt lt)
  ·have e':(s.heap.push L0).objs.size<=s.heap.objs.size:=e
   rw[z1]at e'
   exact absurd e' (Nat.not_succ_le_self _)
 refine wpAny_ite_split (λ_=>?_) (λz=>absurd (by decide +kernel) z)
 refine wpAny_bind (wpAny_rule (wpAny_bind ?_))
 show wpAny _ _ (updateSeq s.heap.objs.size (·.push .none) >>= λ_=>updateSeq s.heap.objs.size (·.pop)) _ _ _
 refine wpAny_bind (wpAny_updateSeq yK rfl ?_)
 have Kf:=Heap.get?_update_self (Obj.mapSeq (·.push Value.none)) yK rfl
 refine wpAny_updateSeq (hz:=by seq_fits) Kf rfl ?_
 have Xo:=Heap.get?_update_self (Obj.mapSeq (·.pop)) Kf rfl
 have Sf:∀b o,b≠s.heap.objs.size->s1.heap.get? b=some o->((s1.heap.update s.heap.objs.size (Obj.mapSeq (·.push Value.none))).update s.heap.objs.size (Obj.mapSeq (·.pop))).get? b=some o:=
  λb o hb e=>(Heap.get?_update_other _ _ (Ne.symm hb)).trans ((Heap.get?_update_other _ _ (Ne.symm hb)).trans e)
 have W1:=wk A.in1 hh
 refine wpAny_pure ⟨plainId_quiet PySem.F.plain_extend_loop _,codeAny_extend_loopS W1 hlen _ nf _ l.length 0 _ #[] _ rfl (Nat.zero_le _) (W1.frame 0 s1 _ s1.toks st (Nat.le_refl _) λb hb o e=>Sf b o (λz=>nf (z ▸ hb)) e) Xo (ItemsOf.nil _) λs2 acc c2 mv hS2 yi=>?_⟩
 refine wpAny_bind (m:=load s.heap.objs.size) (wpAny_load hS2 (wpAny_pure ?_))
 refine q s2 acc.toList (λb o e=>mv.heap b o (λhm=>?_) (Sf b o (Nat.ne_of_lt (Heap.lt_size e)) (k1 b o (k0 b o e)))) (Nat.le_of_lt (Heap.lt_size hS2)) (mv.gens.trans g1) (mv.os.trans o1) ?_
 ·have fE:b<s.heap.objs.size:=Heap.lt_size e
  rcases List.mem_cons.mp hm with e1 | e1
  ·exact absurd e1 (Nat.ne_of_lt fE)
  ·rw[List.mem_singleton.mp e1]at fE
   have:(s.heap.push L0).objs.size<=I:=zI
   rw[z1]at this
   exact absurd (Nat.lt_of_lt_of_le fE (Nat.le_of_succ_le this)) (Nat.lt_irrefl _)
 ·have e:acc.toList=ord:=by
   refine List.ext_getElem? λj=>?_
   by_cases hj:j<l.length
   ·have h0:j<acc.size:=by rw[yi.1];exact hj
    have h1:acc[j]?=some acc[j]:=Array.getElem?_eq_getElem h0
    rw[Array.getElem?_toList,h1,yi.2 j _ h1]
   ·rw[List.getElem?_eq_none (by rw[Array.length_toList,yi.1];lia),List.getElem?_eq_none (by rw[po.length_eq,List.length_map];lia)]
  rw[e];exact po
theorem zV{vs:List Value}{l:List (Int×Tok)}(po:vs.Perm (l.map λp=>Value.int p.1 p.2)):∃ts,IntsAre vs ts/\ts.Perm (l.map (·.1)):=by
 have:∃l':List (Int×Tok),vs=l'.map (λp:Int×Tok=>Value.int p.1 p.2)/\l'.Perm l:=by
  let back:Value->Int×Tok:=λe=>match e with | .int x t=>(x,t) | _=>(default,0)
  refine⟨vs.map back,?_,?_⟩
  ·rw[List.map_map]
   conv=>lhs;rw[<-List.map_id vs]
   refine List.map_congr_left λe he=>?_
   obtain⟨z,_,rfl⟩:=List.mem_map.mp (po.mem_iff.mp he)
   rfl
  ·have:=po.map back
   rw[List.map_map,show(back ∘ λp:Int×Tok=>Value.int p.1 p.2)=id from rfl,List.map_id]at this
   exact this
 obtain⟨l',rfl,pl⟩:=this
 refine⟨l'.map (·.1),?_,pl.map _⟩
 clear po pl
 induction l' with
 | nil=>exact .nil
 | cons p l' ih=>exact .cons p.1 p.2 ih
theorem yV{x:Value}{us:List Int}{Q:Value->Shared->Prop}(Xr:us.length<64)
  (hc:∀(Q':List Value->Shared->Prop),(∀(s':Shared) (vs:List Value) (ts:List Int),(∀b o,s.heap.get? b=some o->s'.heap.get? b=some o)->s.heap.objs.size<=s'.heap.objs.size->s'.gens=s.gens->s'.os=s.os->IntsAre vs ts->ts.Perm us->Q' vs s')->wpAny (model P w) A.in1 (collect x) Q' E s)
  (q:∀(s':Shared) (D c:Nat) (vs:List Value) (ss:List Int),(∀b o,s.heap.get? b=some o->s'.heap.get? b=some o)->s.heap.objs.size<=D->s'.gens=s.gens->s'.os=s.os->s'.heap.get? D=some { cls:=.type "list",data:=.seq vs.toArray c }->IntsAre vs ss->
   ss.Perm us->ss.Pairwise (·<=·)->Q (.ref D) s'):wpAny (model P w) A (call (.builtin "sorted") [x]) Q E s:=by
 refine Calls.call_function_entry kind_sorted plain_sorted entry_sorted (args_sorted1 _) ?_
 unfold Builtin.«sorted»
 refine wpAny_bind (m:=checkCount "sorted" 1 1 _) (wpAny_pure ?_)
 refine wpAny_bind (hc _ λs1 vs ts k1 old g1 o1 Ln pts=>?_)
 have hl:vs.length=us.length:=by rw[Ln.length,pts.length_eq]
 refine wpAny_bind (wpAny_newList ?_ (by rw[hl];exact jd (by lia)))
 have Fq:(s1.heap.push (seqObj "list" vs.toArray 0)).get? s1.heap.objs.size=some (seqObj "list" vs.toArray 0):=Heap.get?_push_size _ rfl
 refine wpAny_bind (wpAny_holding (wpAny_call_entry slot_list_sort ⟨_,Fq,rfl⟩ entry_list_sort (list_sort_tree Fq Ln (by lia) λout ss' e1 e2 e3=>⟨_,rfl,?_⟩) (args_list_sort _)))
 obtain⟨c,hc⟩:=sortedHeap_at (out:=out) Fq
 refine wpAny_pure ⟨_,rfl,q _ s1.heap.objs.size c out.toList ss' (λb o e=>?_) old g1 o1 (by rw[hc]) e1 (e2.trans pts) e3⟩
 have lt:=Heap.lt_size (k1 b o e)
 show(sortedHeap _ _ _ _).get? b=some o
 rw[sortedHeap_old (Nat.ne_of_lt lt) (by rw[size_push'];exact Nat.lt_succ_of_lt lt)]
 exact Heap.get?_push_of_some _ (k1 b o e)
end
def Yr(w:World)(p:Addr)(ss:List Int):HO:=.ext λh=>∃l,iX w h p l/\∀z,z∈l.map (·.1)↔z∈ss
section
variable {X:Cx}
def xk(w:World):List V->Hp->VK->Prop:=λvs H Q=>∃a ss,vs=[.ref a]/\H a=some (Yr w a ss)/\ss.length<64/\
 ∀ss':List Int,(∀z,z∈ss'↔z∈ss)->ss'.Pairwise (· < ·)->∀p,H p=none->Q (.ref p) (upd H p (.lst (ss'.map V.int)))
theorem zK{l:List Int}(n:l.Nodup)(h:l.Pairwise (·<=·)):l.Pairwise (· < ·):=(List.Pairwise.and n h).imp λ⟨a,b⟩=>by lia
theorem qp(hh:X.A.handled=none):dD X (.builtin "sorted") (xk X.w):=by
 intro pins s σ H vs us Q I rv h
 obtain⟨a,ss,rfl,hq,hn,q⟩:=h
 obtain⟨u,rfl,ru⟩:=vals1 rv
 cases ru
 obtain⟨⟨l,hS,hm⟩,_,_⟩:=I.aY a _ hq
 have hl:(l.map (·.1)).length<=ss.length:=uE hS.nd λx hx=>(hm x).mp hx
 refine yV (us:=l.map (·.1)) (by lia) (λQ' hQ'=>wg (A:=X.A.in1) hh hS λs' vs k z g o po=>let ⟨ts,h1,h2⟩:=zV po;hQ' s' vs ts k z g o h1 h2) λs' D c vs ss' k z g o hD J0 pss srt=>?_
 have uL:H D=none:=I.aY.fresh z
 have I1:Inv X pins σ (upd H D (.lst (ss'.map V.int))) { s with heap:=s'.heap,toks:=s.toks }:=I.laid k z ⟨by rw[List.length_map,pss.length_eq];exact jd (by lia),vs,c,oX J0,hD⟩
 refine⟨.ref D,_,I1.same rfl g o,rfl,q ss' (λz=>(pss.mem_iff).trans (hm z)) (zK (pss.nodup_iff.mpr hS.nd) srt) _ uL⟩
def Ib(w:World):List V->Hp->VK->Prop:=λvs H Q=>∃a,vs=[.ref a]/\∃ss:List Int,H a=some (.lst (ss.map V.int))/\ss.length<4000/\∀p,H p=none->Q (.ref p) (upd H p (Yr w p ss))
def kZ(w:World):List V->Hp->VK->Prop:=λvs H Q=>∃a,vs=[.ref a]/\∃ss:List Int,H a=some (Yr w a ss)/\ss.length<64/\
 ∀ss':List Int,(∀z,z∈ss'↔z∈ss)->ss'.Pairwise (· < ·)->∀p,H p=none->Q (.ref p) (upd H p (.lst (ss'.map V.int)))
theorem rV(hh:X.A.handled=none):dD X (.builtin "sorted") (kZ X.w):=(qp hh).imp λx H Q ⟨p,e,ss,h,n,q⟩=>⟨p,ss,e,h,n,q⟩
end
end L2
end
section
namespace HT
open PySem PyProof.Rows L2
section
variable {prog:Program}{w:World}{A:Around}{E:Value->Shared->Prop}{s:Shared}
theorem lD{t sl:Addr}{items:Array Value}{vl vu:Value}{lo hi:Option Int}{Q:Value->Shared->Prop}(ht:IsTup s.heap t items)(hs:s.heap.IsSliceOf sl vl vu .none)(pl:IsPart vl lo)(pu:IsPart vu hi)
  (h1:cT items.size 0 lo=0) (h2:cT items.size items.size hi=items.size) (h:Q (.ref t) s):wpAny (model prog w) A (getItem (.ref t) (.ref sl)) Q E s:=by
 obtain⟨os,Ts,Zo,W8⟩:=id hs
 have U3:s.TypeIs (.ref sl) "slice":=⟨os,Ts,Zo⟩
 unfold getItem
 try with_reducible refine wpAny_holding ?_
 first | refine wpAny_bind (wpAny_pure ?_) | skip
 refine wpAny_bind (wpAny_sequenceKey ht.typeIs (by decide) ?_)
 refine wpAny_bind (wpAny_callSpecial?_slot (name:=Str.ofString "__getitem__") ht.typeIs PyProof.Rows.slot_tuple_getitem
  (wpAny_call_entry PyProof.Rows.slot_tuple_getitem ht.typeIs entry_tuple_getitem ?_ (args_tuple_getitem _ _)))
 show wpAny _ _ (Builtin.Tuple.tupleItemsOf (.ref t) >>= _) _ _ s
 refine wpAny_bind (tupleItemsOf_ ht ?_)
 refine wpAny_bind (wpAny_typeOf U3 ?_)
 rw[if_pos (by decide)]
 refine wpAny_bind (iK hs pl pu ?_)
 have dv:(((cT items.size 0 lo:Nat):Int)==0&&(1:Int)==1&&(cT items.size items.size hi-cT items.size 0 lo)==items.size)=true:=by
  rw[h1,h2];simp
 show wpAny _ _ (if (((cT items.size 0 lo:Nat):Int)==0&&(1:Int)==1&&(cT items.size items.size hi-cT items.size 0 lo)==items.size)=true then _ else _) _ _ s
 rw[if_pos dv]
 refine wpAny_bind (m:=Builtin.Tuple.tupleIsExact (.ref t)) ?_
 unfold Builtin.Tuple.tupleIsExact
 refine wpAny_bind (wpAny_typeOf ht.typeIs (wpAny_pure ?_))
 rw[if_pos (by decide)]
 exact wpAny_bind (wpAny_rule (wpAny_pure ⟨_,rfl,wpAny_pure h⟩))
end
end HT
namespace L2
open PySem PySem.Spec PyProof.Rows
section
variable {X:Cx}
def Br:V->Option Int->Option Int->Hp->VK->Prop:=λx lo hi H Q=>∃a,x=.ref a/\∃xs,H a=some (.tup xs)/\
 ((HT.cT xs.length 0 lo=0/\HT.cT xs.length xs.length hi=xs.length)->Q (.ref a) H)/\(¬(HT.cT xs.length 0 lo=0/\HT.cT xs.length xs.length hi=xs.length)->∀p,H p=none->Q (.ref p) (upd H p (.tup (gX xs lo hi))))
theorem Vv:LR X Br:=by
 intro pins s σ H x v vl vu lo hi sl Q I rx hs pl pu h
 obtain⟨a,rfl,xs,hx,q1,q2⟩:=h
 by_cases hw:HT.cT xs.length 0 lo=0/\HT.cT xs.length xs.length hi=xs.length
 ·cases rx
  obtain⟨its,r,ht,hz⟩:=I.tuple (bE hx)
  have hlen:its.toArray.size=xs.length:=by rw[List.size_toArray];exact r.length.symm
  refine⟨"tuple",_,PyProof.Rows.slot_tuple_getitem.lookup,ht.typeIs,?_⟩
  exact HT.lD ht hs pl pu (by rw[hlen];exact hw.1) (by rw[hlen];exact hw.2) ⟨.ref a,H,I,rfl,q1 hw⟩
 ·exact aAg pins s σ H _ v vl vu lo hi sl Q I rx hs pl pu ⟨a,rfl,xs,hx,hw,q2 hw⟩
end
section
variable {X:Cx}{pins:List (Addr×Obj)}{s:Shared}{σ:St}{H:Hp}
def Rz(neg:Bool):R2:=λx y H Q=>∃a L,x=.ref a/\y=.ref L/\∃u bs ts,H a=some (.tup (List.map V.int u))/\H L=some (.lst (List.map V.ref bs))/\aF H bs ts/\Q (.bl (if neg then !decide (u∈ts) else decide (u∈ts))) H
end
def jS{δ:Type}(Rep:Hp->V->δ->Prop)(H:Hp)(vs:List V)(ds:List δ):Prop:=vs.length=ds.length/\∀(i:Nat) v d,vs[i]?=some v->ds[i]?=some d->Rep H v d
theorem jS.nil{δ:Type}{Rep:Hp->V->δ->Prop}{H:Hp}:jS Rep H [] []:=⟨rfl,λi v d h=>by simp at h⟩
theorem jS.snoc{δ:Type}{Rep:Hp->V->δ->Prop}{H:Hp}{vs:List V}{ds:List δ}{v:V}{d:δ}(h:jS Rep H vs ds)(hv:Rep H v d):jS Rep H (vs++[v]) (ds++[d]):=by
 refine⟨by rw[List.length_append,List.length_append,h.1];rfl,λi u e hu he=>?_⟩
 have hl:=h.1
 by_cases hi:i<vs.length
 ·rw[List.getElem?_append_left hi]at hu
  rw[List.getElem?_append_left (by lia)]at he
  exact h.2 i u e hu he
 ·rw[List.getElem?_append_right (by lia)]at hu
  rw[List.getElem?_append_right (by lia),<-hl]at he
  have h0:i-vs.length=0:=by
   cases z:i-vs.length with
   | zero=>rfl
   | succ n=>rw[z]at hu;simp at hu
  rw[h0]at hu he
  cases hu;cases he
  exact hv
theorem jS.mono{δ:Type}{Rep:Hp->V->δ->Prop}{H H':Hp}{vs:List V}{ds:List δ}(k:∀v d,Rep H v d->Rep H' v d)(h:jS Rep H vs ds):jS Rep H' vs ds:=⟨h.1,λi v d a b=>k v d (h.2 i v d a b)⟩
def gp(H:Hp)(v:V)(x:List Int):Prop:=∃b,v=.ref b/\H b=some (.tup (List.map V.int x))
theorem qA{H:Hp}{vs:List V}{ts:List (List Int)}(h:jS gp H vs ts):∃bs,vs=List.map V.ref bs/\aF H bs ts:=by
 induction vs generalizing ts with
 | nil=>
  have:ts=[]:=List.length_eq_zero_iff.mp h.1.symm
  subst this
  exact⟨[],rfl,rfl,λi b t e=>by simp at e⟩
 | cons v vs ih=>
  cases ts with
  | nil=>exact absurd h.1 (by simp)
  | cons t ts=>
   obtain⟨bs,e1,s1⟩:=ih (ts:=ts) ⟨by have:=h.1;simpa using this,λi v d a b=>h.2 (i+1) v d (by simpa using a) (by simpa using b)⟩
   obtain⟨b,rfl,hb⟩:=h.2 0 v t rfl rfl
   refine⟨b::bs,by rw[e1];rfl,by rw[List.length_cons,List.length_cons,s1.1],λi c u hc hu=>?_⟩
   cases i with
   | zero=>cases hc;cases hu;exact hb
   | succ n=>exact s1.2 n c u (by simpa using hc) (by simpa using hu)
theorem kS{δ:Type}(f:Nat->Option δ)(i:Nat):(List.range (i+1)).filterMap f=(List.range i).filterMap f++(f i).toList:=by
 rw[List.range_succ,List.filterMap_append]
 cases e:f i <;> simp[e]
theorem Kr{δ:Type}(f:Nat->Option δ)(i:Nat):((List.range i).filterMap f).length<=i:=Nat.le_trans (List.length_filterMap_le _ _) (by rw[List.length_range];exact Nat.le_refl _)
theorem Ad{K:PySem.W.Frag}{a:Addr}{zs:List V}{idx:List Nat}{tt:CB->TT}{te:CB->TE}{σ:St}{Q:VK}{H1:Hp}{δ:Type}(S:Hp->Hp->Prop)(f:Nat->Option δ)(Rep:Addr->Hp->V->δ->Prop)(sr:S H1 H1)(st:∀H H',S H1 H->S H H'->S H1 H')
  (sp:∀D H o,H1 D=none->S H1 H->S H1 (upd H D o)) (sk:∀D H H' o,H1 D=none->S H1 H->S H H'->H D=some o->H' D=some o)
  (mono:∀D H H' v d,S H1 H->S H H'->Rep D H v d->Rep D H' v d) (zt:∀D H o v d,H1 D=none->S H1 H->(∃xs,H D=some (.lst xs))->Rep D H v d->Rep D (upd H D o) v d)
  (hL:∀H,S H1 H->H a=some (.lst zs)) (l9:zs.length<=900000)
  (hs:∀(D:Addr) (c:CB) (H:Hp) (i:Nat) (z:V) (yes:V->Hp->Prop) (no:Hp->Prop),zs[i]?=some z->S H1 H->H1 D=none->(∃xs,H D=some (.lst xs))->(∀d,f i=some d->∀v H',S H H'->Rep D H' v d->yes v H')->(f i=none->∀H',S H H'->no H')->tt c (some (z)::bR σ idx) H λb H4=>if b=true then te c (some (z)::bR σ idx) H4 yes else no H4)
  (q:∀D H' vs,S H1 H'->H1 D=none->H' D=some (.lst vs)->jS (Rep D) H' vs ((List.range (zs.length)).filterMap f)->Q (.ref D) H'):iu (Av K a) 1 idx (λ_=>dh 0) tt te σ Q H1:=by
 obtain⟨Pc,jl⟩:∃Pc:Addr->Nat->List V->Hp->Prop,∀Z i ys H',Pc Z i ys H'↔S H1 H'/\H' Z=some (.lst ys)/\jS (Rep Z) H' ys ((List.range i).filterMap f):=⟨_,λ_ _ _ _=>Iff.rfl⟩
 refine wd Pc (λZ hZ=>(jl _ _ _ _).mpr ⟨sp Z _ _ hZ sr,ai,.nil⟩) (λZ hZ i ys H' _ pv=>hL H' ((jl _ _ _ _).mp pv).1) (λZ hZ i z ys H' hz pv cb=>?_) (λZ hZ ys H' pv=>?_)
 ·obtain⟨s1,pA,rl⟩:=(jl _ _ _ _).mp pv
  have hi:i<zs.length:=(List.getElem?_eq_some_iff.mp hz).1
  refine hs Z cb H' i z _ _ hz s1 hZ ⟨_,pA⟩ (λd hd v H2 s2 hv=>?_) (λhn H2 s2=>?_)
  ·refine⟨sk Z _ _ _ hZ s1 s2 pA,?_,(jl _ _ _ _).mpr ⟨sp Z _ _ hZ (st _ _ s1 s2),ai,?_⟩⟩
   ·rw[rl.1]
    have:=Kr f i
    exact Nat.lt_of_le_of_lt (by lia:((List.range i).filterMap f).length<=1000000) (by decide)
   ·rw[kS,hd]
    exact(((rl.mono λv d=>mono Z _ _ v d s1 s2)).snoc hv).mono λv d=>zt Z H2 _ v d hZ (st _ _ s1 s2) ⟨_,sk Z _ _ _ hZ s1 s2 pA⟩
  ·refine(jl _ _ _ _).mpr ⟨st _ _ s1 s2,sk Z _ _ _ hZ s1 s2 pA,?_⟩
   rw[kS,hn,Option.toList_none,List.append_nil]
   exact rl.mono λv d=>mono Z _ _ v d s1 s2
 ·obtain⟨s1,pA,rl⟩:=(jl _ _ _ _).mp pv
  exact q Z H' ys s1 hZ pA rl
theorem FT{K:PySem.W.Frag}{a:Addr}{zs:List V}{idx:List Nat}{tt:CB->TT}{te:CB->TE}{σ:St}{Q:VK}{H1:Hp}{δ:Type}(S:Hp->Hp->Prop)(f:Nat->Option δ)(Rep:Addr->Hp->V->δ->Prop)(sr:S H1 H1)(st:∀H H',S H1 H->S H H'->S H1 H')
  (sp:∀D H o,H1 D=none->S H1 H->S H1 (upd H D o)) (sk:∀D H H' o,H1 D=none->S H1 H->S H H'->H D=some o->H' D=some o)
  (mono:∀D H H' v d,S H1 H->S H H'->Rep D H v d->Rep D H' v d) (zt:∀D H o v d,H1 D=none->S H1 H->(∃xs,H D=some (.lst xs))->Rep D H v d->Rep D (upd H D o) v d)
  (hL:∀H,S H1 H->H a=some (.tup zs)) (l9:zs.length<=900000)
  (hs:∀(D:Addr) (c:CB) (H:Hp) (i:Nat) (z:V) (yes:V->Hp->Prop) (no:Hp->Prop),zs[i]?=some z->S H1 H->H1 D=none->(∃xs,H D=some (.lst xs))->(∀d,f i=some d->∀v H',S H H'->Rep D H' v d->yes v H')->(f i=none->∀H',S H H'->no H')->tt c (some (z)::bR σ idx) H λb H4=>if b=true then te c (some (z)::bR σ idx) H4 yes else no H4)
  (q:∀D H' vs,S H1 H'->H1 D=none->H' D=some (.lst vs)->jS (Rep D) H' vs ((List.range (zs.length)).filterMap f)->Q (.ref D) H'):iu (P4 K a) 1 idx (λ_=>dh 0) tt te σ Q H1:=by
 obtain⟨Pc,jl⟩:∃Pc:Addr->Nat->List V->Hp->Prop,∀Z i ys H',Pc Z i ys H'↔S H1 H'/\H' Z=some (.lst ys)/\jS (Rep Z) H' ys ((List.range i).filterMap f):=⟨_,λ_ _ _ _=>Iff.rfl⟩
 refine ie Pc (λZ hZ=>(jl _ _ _ _).mpr ⟨sp Z _ _ hZ sr,ai,.nil⟩) (λZ hZ i ys H' _ pv=>hL H' ((jl _ _ _ _).mp pv).1) (λZ hZ i z ys H' hz pv cb=>?_) (λZ hZ ys H' pv=>?_)
 ·obtain⟨s1,pA,rl⟩:=(jl _ _ _ _).mp pv
  have hi:i<zs.length:=(List.getElem?_eq_some_iff.mp hz).1
  refine hs Z cb H' i z _ _ hz s1 hZ ⟨_,pA⟩ (λd hd v H2 s2 hv=>?_) (λhn H2 s2=>?_)
  ·refine⟨sk Z _ _ _ hZ s1 s2 pA,?_,(jl _ _ _ _).mpr ⟨sp Z _ _ hZ (st _ _ s1 s2),ai,?_⟩⟩
   ·rw[rl.1]
    have:=Kr f i
    exact Nat.lt_of_le_of_lt (by lia:((List.range i).filterMap f).length<=1000000) (by decide)
   ·rw[kS,hd]
    exact(((rl.mono λv d=>mono Z _ _ v d s1 s2)).snoc hv).mono λv d=>zt Z H2 _ v d hZ (st _ _ s1 s2) ⟨_,sk Z _ _ _ hZ s1 s2 pA⟩
  ·refine(jl _ _ _ _).mpr ⟨st _ _ s1 s2,sk Z _ _ _ hZ s1 s2 pA,?_⟩
   rw[kS,hn,Option.toList_none,List.append_nil]
   exact rl.mono λv d=>mono Z _ _ v d s1 s2
 ·obtain⟨s1,pA,rl⟩:=(jl _ _ _ _).mp pv
  exact q Z H' ys s1 hZ pA rl
theorem dk{K:PySem.W.Frag}{a:Addr}{zs:List V}{idx:List Nat}{tt:CB->TT}{te:CB->TE}{σ:St}{Q:VK}{H1:Hp}{δ:Type}(f:Nat->Option δ)(Rep:Addr->Hp->V->δ->Prop)(mono:∀D H H' v d,bD H H'->Rep D H v d->Rep D H' v d)(zt:∀D H o v d,(∃xs,H D=some (.lst xs))->H1 D=none->Rep D H v d->Rep D (upd H D o) v d)
  (hL:H1 a=some (.lst zs)) (l9:zs.length<=900000)
  (hs:∀(D:Addr) (c:CB) (H:Hp) (i:Nat) (z:V) (yes:V->Hp->Prop) (no:Hp->Prop),zs[i]?=some z->bD H1 H->H1 D=none->(∃xs,H D=some (.lst xs))->(∀d,f i=some d->∀v H',bD H H'->Rep D H' v d->yes v H')->(f i=none->∀H',bD H H'->no H')->tt c (some (z)::bR σ idx) H λb H4=>if b=true then te c (some (z)::bR σ idx) H4 yes else no H4)
  (q:∀D H' vs,bD H1 H'->H1 D=none->H' D=some (.lst vs)->jS (Rep D) H' vs ((List.range (zs.length)).filterMap f)->Q (.ref D) H'):iu (Av K a) 1 idx (λ_=>dh 0) tt te σ Q H1:=
 Ad bD f Rep (λ_ _ e=>e) (λ_ _ a b=>a.trans b) (λD H o hD s b u e=>by rw[au (av e hD)];exact s b u e) (λD H H' o _ _ s e=>s D o e) (λD H H' v d _ s r=>mono D H H' v d s r) (λD H o v d hD _ hl r=>zt D H o v d hl hD r) (λH s=>s _ _ hL) l9 hs q
theorem pH{K:PySem.W.Frag}{a:Addr}{zs:List V}{idx:List Nat}{tt:CB->TT}{te:CB->TE}{σ:St}{Q:VK}{H1:Hp}{δ:Type}(f:Nat->Option δ)(Rep:Addr->Hp->V->δ->Prop)(mono:∀D H H' v d,bD H H'->Rep D H v d->Rep D H' v d)(zt:∀D H o v d,(∃xs,H D=some (.lst xs))->H1 D=none->Rep D H v d->Rep D (upd H D o) v d)
  (hL:H1 a=some (.tup zs)) (l9:zs.length<=900000)
  (hs:∀(D:Addr) (c:CB) (H:Hp) (i:Nat) (z:V) (yes:V->Hp->Prop) (no:Hp->Prop),zs[i]?=some z->bD H1 H->H1 D=none->(∃xs,H D=some (.lst xs))->(∀d,f i=some d->∀v H',bD H H'->Rep D H' v d->yes v H')->(f i=none->∀H',bD H H'->no H')->tt c (some (z)::bR σ idx) H λb H4=>if b=true then te c (some (z)::bR σ idx) H4 yes else no H4)
  (q:∀D H' vs,bD H1 H'->H1 D=none->H' D=some (.lst vs)->jS (Rep D) H' vs ((List.range (zs.length)).filterMap f)->Q (.ref D) H'):iu (P4 K a) 1 idx (λ_=>dh 0) tt te σ Q H1:=
 FT bD f Rep (λ_ _ e=>e) (λ_ _ a b=>a.trans b) (λD H o hD s b u e=>by rw[au (av e hD)];exact s b u e) (λD H H' o _ _ s e=>s D o e) (λD H H' v d _ s r=>mono D H H' v d s r) (λD H o v d hD _ hl r=>zt D H o v d hl hD r) (λH s=>s _ _ hL) l9 hs q
theorem gp.mono{H H':Hp}{v:V}{d:List Int}(k:∀b xs,H b=some (.tup xs)->H' b=some (.tup xs))(r:gp H v d):gp H' v d:=let ⟨b,e,h⟩:=r;⟨b,e,k _ _ h⟩
theorem gp.put{H:Hp}{v:V}{d:List Int}{D:Addr}{o:HO}(hl:∃xs,H D=some (.lst xs))(r:gp H v d):gp (upd H D o) v d:=by
 obtain⟨b,rfl,h⟩:=r
 obtain⟨xs,hx⟩:=hl
 exact⟨b,rfl,by rw[au (aW h hx (by intro z;cases z))];exact h⟩
theorem gp.same:∀(D:Addr) (H H':Hp) (v:V) (d:List Int),bD H H'->(λ_=>gp) D H v d->(λ_=>gp) D H' v d:=λ_ _ _ _ _ s r=>r.mono λb xs e=>s _ _ e
theorem gp.puts{H1:Hp}:∀(D:Addr) (H:Hp) (o:HO) (v:V) (d:List Int),(∃xs,H D=some (.lst xs))->H1 D=none->(λ_=>gp) D H v d->(λ_=>gp) D (upd H D o) v d:=λ_ _ _ _ _ hl _ r=>r.put hl
def Ge(H:Hp)(v d:V):Prop:=v=d
theorem nI{H:Hp}{vs ds:List V}(h:jS Ge H vs ds):vs=ds:=List.ext_getElem? λi=>by
 by_cases hi:i<vs.length
 ·have hj:i<ds.length:=by have:=h.1;lia
  rw[List.getElem?_eq_getElem hi,List.getElem?_eq_getElem hj]
  exact congrArg some (h.2 i _ _ (List.getElem?_eq_getElem hi) (List.getElem?_eq_getElem hj))
 ·rw[List.getElem?_eq_none (by lia),List.getElem?_eq_none (by have:=h.1;lia)]
theorem Cw{δ:Type}{f:Nat->Option δ}{l:List δ}(h:∀i,i<l.length->f i=l[i]?):(List.range l.length).filterMap f=l:=by
 have:∀n,n<=l.length->(List.range n).filterMap f=l.take n:=λn=>by
  induction n with
  | zero=>intro _;rfl
  | succ n ih=>
   intro hn
   rw[kS,ih (by lia),h n (by lia),List.take_add_one]
 rw[this _ (Nat.le_refl _),List.take_length]
theorem pB{δ:Type}{l:List δ}{p:δ->Bool}{f:Nat->Option δ}(h:∀i (hi:i<l.length),f i=if p l[i] then some l[i] else none):(List.range l.length).filterMap f=l.filter p:=by
 have:∀n,n<=l.length->(List.range n).filterMap f=(l.take n).filter p:=λn=>by
  induction n with
  | zero=>intro _;rfl
  | succ n ih=>
   intro hn
   rw[kS,ih (by lia),h n (by lia),List.take_add_one,List.filter_append,List.getElem?_eq_getElem (by lia)]
   cases e:p l[n] <;> simp[e]
 rw[this _ (Nat.le_refl _),List.take_length]
theorem km{α δ:Type}{l:List α}{g:α->δ}{f:Nat->Option δ}(h:∀i (hi:i<l.length),f i=some (g l[i])):(List.range l.length).filterMap f=l.map g:=by
 have:=Cw (f:=f) (l:=l.map g) λi hi=>by
  rw[List.length_map]at hi
  rw[h i hi,List.getElem?_map,List.getElem?_eq_getElem hi];rfl
 rwa [List.length_map]at this
end L2
end
section
namespace L2
open PySem
theorem aF.mono{H H':Hp}{bs:List Addr}{ts:List (List Int)}(k:∀b xs,H b=some (.tup xs)->H' b=some (.tup xs))(s:aF H bs ts):aF H' bs ts:=⟨s.1,λi b t hb ht=>k _ _ (s.2 i b t hb ht)⟩
theorem aF.snoc{H:Hp}{bs:List Addr}{ts:List (List Int)}{b:Addr}{t:List Int}(s:aF H bs ts)(hb:H b=some (.tup (List.map V.int t))):aF H (bs++[b]) (ts++[t]):=by
 refine⟨by rw[List.length_append,List.length_append,s.1];rfl,λi c u hc hu=>?_⟩
 by_cases hi:i<bs.length
 ·rw[List.getElem?_append_left hi]at hc
  rw[List.getElem?_append_left (by rw[<-s.1];exact hi)]at hu
  exact s.2 i c u hc hu
 ·rw[List.getElem?_append_right (by lia)]at hc
  rw[List.getElem?_append_right (by rw[<-s.1];lia),<-s.1]at hu
  have h0:i-bs.length=0:=by
   cases z:i-bs.length with
   | zero=>rfl
   | succ n=>rw[z]at hc;simp at hc
  rw[h0]at hc hu
  cases hc;cases hu
  exact hb
theorem aF.app{H:Hp}{bs cs:List Addr}{ts us:List (List Int)}(s:aF H bs ts)(u:aF H cs us):aF H (bs++cs) (ts++us):=by
 refine⟨by rw[List.length_append,List.length_append,s.1,u.1],λi c x hc hx=>?_⟩
 by_cases hi:i<bs.length
 ·rw[List.getElem?_append_left hi]at hc
  rw[List.getElem?_append_left (by rw[<-s.1];exact hi)]at hx
  exact s.2 i c x hc hx
 ·rw[List.getElem?_append_right (by lia)]at hc
  rw[List.getElem?_append_right (by rw[<-s.1];lia),<-s.1]at hx
  exact u.2 _ c x hc hx
theorem oq(K:PySem.W.Frag)(T:String):PySem.W.kitOne K (.type T) (.type T)=some true:=by
 unfold PySem.W.kitOne
 rw[if_pos (by simp)]
theorem SX{K:PySem.W.Frag}{A B:String}(h:(Value.type A==Value.type B)=false)(e:PySem.W.kitCls K (.type A) (.type B)=some false):PySem.W.kitOne K (.type A) (.type B)=some false:=by
 unfold PySem.W.kitOne
 rw[if_neg (by rw[h];exact Bool.false_ne_true)]
 exact e
end L2
end
section
namespace L2
open PySem PySem.Spec PyProof.Rows
section
variable {P:Program}{w:World}{A:Around}{E:Value->Shared->Prop}{s:Shared}
theorem Ef{l:Addr}{items:Array Value}{ss:List Int}{Q:Value->Shared->Prop}(hh:A.handled=none)(hl:s.heap.IsTuple l items)(hi:IntsAre items.toList ss)(hb:items.size+1<scanBound)
  (h:∀(h':Heap) (tk:Nat) (ls:List (Int×Tok)),iX w h' s.heap.objs.size ls->(∀z,z∈ls.map (·.1)↔z∈ss)->(∀b o,b<s.heap.objs.size->s.heap.get? b=some o->h'.get? b=some o)->Q (.ref s.heap.objs.size) { s with heap:=h',toks:=tk }) :
  wpAny (model P w) A (call (.type "set") [.ref l]) Q E s:=by
 have e:∀z:Int,(∃j,j<items.size/\ss.getD j 0=z)↔z∈ss:=λz=>by
  have hlen:items.size=ss.length:=by rw[<-Array.length_toList];exact hi.length
  rw[hlen,List.mem_iff_getElem]
  constructor
  ·rintro⟨j,hj,e⟩;exact⟨j,hj,by rw[<-e];simp[hj]⟩
  ·rintro⟨j,hj,e⟩;exact⟨j,hj,by rw[<-e];simp[hj]⟩
 obtain⟨c,tl,aCg⟩:=PySem.F.called_set.mro
 have WX:=PySem.F.called_set.made
 have zW:=PySem.F.called_set.sub
 refine wpAny_call (codeAny_of_tree (wpAny_pure (a:=_) ⟨Code.quiet_builtin _ (by decide +kernel),codeAny_builtin PySem.F.entry_type_call ?_⟩))
 rw[Around.under_plain (weight_type_call_type "set" [.ref l] []) rfl]
 have h1:=PySem.F.called_set.notType
 have h2:=PySem.F.called_set.canCreate
 have hct:=PySem.F.typeCall_set_1 (.ref l)
 repeat (any_goals (first | assumption | wp_step))
 refine codeAny_mono (Bo (x:=.ref l) (E:=E) (Q:=λobj s₁=>obj=.ref s.heap.objs.size/\s₁={ s with heap:=s.heap.push (dE #[] 0 (.fresh 0 0 (!pK w))) }) ⟨rfl,rfl⟩) λr s₁ hr=>?_
 cases r with
 | error e=>exact hr
 | ok fl=>
  cases fl with
  | ret obj=>
   obtain⟨rfl,rfl⟩:=hr
   have hS:(s.heap.push (dE #[] 0 (.fresh 0 0 (!pK w)))).get? s.heap.objs.size=some (dE #[] 0 (.fresh 0 0 (!pK w))):=Heap.get?_push_size _ rfl
   have hT:Shared.TypeIs { s with heap:=s.heap.push (dE #[] 0 (.fresh 0 0 (!pK w))) } (.ref s.heap.objs.size) "set":=⟨_,hS,rfl⟩
   have hli:=PySem.F.called_set.init.lookup
   have hbi:=PySem.F.called_set.init.bind (.ref s.heap.objs.size)
   repeat (any_goals (first | assumption | wp_step))
   refine codeAny_mono (codeAny_call_builtin (R:=wants (λr s₂=>r=.none/\∃h' tk ls,s₂={ s with heap:=h',toks:=tk }/\iX w h' s.heap.objs.size ls/\(∀z,z∈ls.map (·.1)↔z∈ss)/\
     (∀b o,b<s.heap.objs.size->s.heap.get? b=some o->h'.get? b=some o)) E) PySem.F.called_set.init.plain PySem.F.entry_set_init (check_set_init_1 hT ?_)) λr₂ s₂ Tj=>?_
   ·obtain⟨ol,WM,uM,nl,Qx⟩:=hl
    obtain⟨aBh,Jw,Wi,zg⟩:=ol
    simp only at uM Qx
    subst uM;subst Qx
    have Tt:(s.heap.push (dE #[] 0 (.fresh 0 0 (!pK w)))).get? l=some { cls:=.type "tuple",dict:=Jw,data:=.seq items nl,slots:=zg }:=Heap.get?_push_of_some _ WM
    have aB7:=PySem.F.sub_tuple_set
    have aB8:=PySem.F.sub_tuple_frozenset
    have qH:(Value.type "tuple" == Value.type "dict")=false:=by decide
    have tI:(s.heap.push (dE #[] 0 (.fresh 0 0 (!pK w)))).IsTuple l items:=⟨_,Tt,rfl,nl,rfl⟩
    unfold Builtin.«set.__init__» noKeywords Builtin.Frozenset.updateFrom
    unfold dE at *
    generalize hPI:pyIter=PI
    wp_walk
    subst hPI
    refine wpAny_pyIter_tuple tI (wpAny_bind (wpAny_runValue ?_))
    have W0:l<s.heap.objs.size:=Heap.lt_size WM
    have hh3:A.in1.in1.in1.handled=none:=by simp[hh]
    have hsz:(s.heap.push (dE #[] 0 (.fresh 0 0 (!pK w)))).objs.size=s.heap.objs.size+1:=Heap.size_push _ _
    have Tx:l≠(s.heap.push (dE #[] 0 (.fresh 0 0 (!pK w)))).objs.size:=by rw[hsz];exact Nat.ne_of_lt (Nat.lt_succ_of_lt W0)
    have U4:s.heap.objs.size∉[(s.heap.push (dE #[] 0 (.fresh 0 0 (!pK w)))).objs.size,l]:=by
     rw[hsz];simp only[List.mem_cons,List.mem_singleton,List.not_mem_nil,or_false,not_or];exact⟨Nat.ne_of_lt (Nat.lt_succ_self _),Nat.ne_of_gt W0⟩
    refine xP ((Walks.tuple hh3 _ l Tx items).toS) s.heap.objs.size U4 (λj=>ss.getD j 0) (λi v hv=>?hv) hb (items.size-0) 0 _ [] (by lia) (Nat.zero_le _)
     ⟨⟨_,Heap.get?_push_size _ rfl,rfl,rfl⟩,(tI.push _)⟩ ?hS0 (Nat.zero_le _) (λz=>⟨(λz=>nomatch z),λ⟨_,hj,_⟩=>absurd hj (Nat.not_lt_zero _)⟩) ?hR
    case hv=>exact rJ hi i v (by rw[Array.getElem?_toList];exact hv)
    case hS0=>exact⟨⟨#[],0,_,Heap.get?_push_of_some _ hS,rfl,rfl,rfl,List.Pairwise.nil⟩,List.nodup_nil,by decide⟩
    case hR=>
     intro s' l' hm O4 mem
     obtain⟨h',g',d',Vd,Wc⟩:=s'
     have eg:g'=s.gens:=hm.gens
     have ed:d'=s.drawn:=hm.drawn
     have eo:Wc=s.os:=hm.os
     subst eg;subst ed;subst eo
     refine wpAny_pure (wpAny_pure ⟨rfl,h',Vd,l',rfl,O4,λz=>(mem z).trans (e z),λb o hb e=>?_⟩)
     refine hm.heap b o ?_ (Heap.get?_push_of_some _ (Heap.get?_push_of_some _ e))
     rw[hsz]
     simp only[List.mem_cons,List.mem_singleton,List.not_mem_nil,or_false,not_or];exact⟨Nat.ne_of_lt hb,Nat.ne_of_lt (Nat.lt_succ_of_lt hb)⟩
   ·cases r₂ with
    | error e=>exact Tj
    | ok fl₂=>
     cases fl₂ with
     | ret r=>
      obtain⟨rfl,h',tk,ls,rfl,O4,hm',Tz⟩:=Tj
      repeat (any_goals (first | assumption | wp_step))
      exact h _ _ _ O4 hm' Tz
     | _=>exact Tj.elim
  | _=>exact hr.elim
end
section
variable {X:Cx}
def vD(w:World):List V->Hp->VK->Prop:=λvs H Q=>∃a,vs=[.ref a]/\∃ss:List Int,H a=some (.tup (ss.map V.int))/\ss.length<4000/\∀p,H p=none->Q (.ref p) (upd H p (Yr w p ss))
theorem Aj(hh:X.A.handled=none):dD X (.type "set") (vD X.w):=by
 intro pins s σ H vs us Q I rv h
 obtain⟨a,rfl,ss,hq,hn,q⟩:=h
 obtain⟨u,rfl,ru⟩:=vals1 rv
 cases ru
 obtain⟨its,r,pl,hz⟩:=I.tuple (bE hq)
 have hl:=r.length
 rw[List.length_map]at hl
 refine Ef (ss:=ss) hh pl (intsAre_of r) (by show its.toArray.size+1<4096;rw[List.size_toArray];lia) λh' tk ls hS hm hk=>?_
 have Tz:∀b o,s.heap.get? b=some o->h'.get? b=some o:=λb o e=>hk b o (Heap.lt_size e) e
 refine⟨.ref s.heap.objs.size,_,I.laid (t':=tk) (o:=Yr X.w s.heap.objs.size ss) Tz (Nat.le_refl _) ?_,rfl,q _ I.fresh⟩
 exact⟨⟨ls,hS,hm⟩,(let ⟨_,_,_,e,_⟩:=hS.ex;⟨_,e⟩),λh1 h2 ⟨l1,x1,m1⟩ k=>⟨l1,x1.at k,m1⟩⟩
end
section
variable {P:Program}{w:World}{κ:Type} [DecidableEq κ] {knd:PySem.KeyKind P w κ} {A:Around} {E:Value->Shared->Prop} {s:Shared} {a b:Addr} {aG JN:List (κ×Value)}
end
section
variable {X:Cx}
def Qg(neg:Bool):R2:=λx y H Q=>∃a b,x=.ref a/\y=.ref b/\∃aG JN,H a=some (.dK aG)/\H b=some (.dK JN)/\aG.length=JN.length/\
 (∀k v,(k,v)∈aG->∃p q t,v=.ref p/\(k,V.ref q)∈JN/\H p=some (.tup (List.map V.int t))/\H q=some (.tup (List.map V.int t)))/\Q (.bl (!neg)) H
end
section
variable {X:Cx}{pins:List (Addr×Obj)}{σ:St}{H:Hp}{s:Shared}{d:Addr}{o:Obj}{aG:List (Key×V)}
end
def Itd(d:Addr)(o:Obj)(aG:List (Key×V)):It:=
 ⟨λi H=>i<aG.length/\H d=some (.uQ o (.dK aG)),λi H x H'=>H'=H/\∃k v,aG[i]?=some (k,v)/\x=kV k,λi H=>aG.length<=i/\H d=some (.uQ o (.dK aG))⟩
section
variable {X:Cx}{tg:Expr}
def Ql(te:TE):TI:=λσ H R=>te σ H λv H1=>∃a aG,v=.ref a/\H1 a=some (.dK aG)/\∀o,R (Itd a o aG) (upd H1 a (.uQ o (.dK aG)))
def P'(H0:Hp)(t:TS):TS:=λD σ H=>∃d o aG,H d=some (.uQ o (.dK aG))/\H0 d=none/\t D σ (upd H d (.dK aG))
end
section
variable {X:Cx}
def HQ:V->List V->Hp->VK->Prop:=λx vs H Q=>∃a n d,x=.ref a/\vs=[.int n,d]/\∃aG,H a=some (.dK aG)/\Q ((eF aG (Sum.inl n)).getD d) H
def xl:V->List V->Hp->VK->Prop:=λx vs H Q=>∃l b xs zs,x=.ref l/\vs=[.ref b]/\H l=some (.lst xs)/\H b=some (.tup zs)/\xs.length+zs.length<=sizeLine/\Q .non (upd H l (.lst (xs++zs)))
end
section
variable {X:Cx}{N:List Str}{sc:Scope}{pos:Pos}
end
section
variable {X:Cx}
end
end L2
end
section
namespace L2
open PySem
theorem kX{H H1:Hp}{p:Addr}{o:HO}(a:bD H H1)(hn:H p=none):bD H (upd H1 p o):=λb u e=>by rw[au (av e hn)];exact a b u e
theorem uH{κ:Type} [DecidableEq κ] {aG:List (κ×V)} {k:κ} {v:V}:(putK aG k v).map (·.1)=if k∈aG.map (·.1) then aG.map (·.1) else aG.map (·.1)++[k]:=by
 unfold putK
 by_cases h:(aG.any λkv=>decide (kv.1=k))=true
 ·have hm:k∈aG.map (·.1):=by
   obtain⟨kv,UL,e⟩:=List.any_eq_true.mp h
   rw[<-of_decide_eq_true e]
   exact List.mem_map_of_mem UL
  rw[if_pos h,if_pos hm,List.map_map]
  refine List.map_congr_left λkv _=>?_
  show(if kv.1=k then (kv.1,v) else kv).1=kv.1
  split <;> rfl
 ·have hm:k∉aG.map (·.1):=λz=>by
   obtain⟨kv,UL,e⟩:=List.mem_map.mp z
   exact h (List.any_eq_true.mpr ⟨kv,UL,decide_eq_true e⟩)
  rw[if_neg h,if_neg hm,List.map_append]
  rfl
theorem vX{a b:List Int}(h:(a.map Sum.inl:List Key)=b.map Sum.inl):a=b:=(List.map_inj_right λ_ _ e=>Sum.inl.inj e).mp h
theorem dG{qs:List Addr}{i:Nat}{x:V}(h:(List.map V.ref qs)[i]?=some x):∃q,qs[i]?=some q/\x=.ref q:=by
 rw[List.getElem?_map]at h
 cases e:qs[i]? with
 | none=>rw[e]at h;cases h
 | some q=>rw[e]at h;exact⟨q,rfl,(Option.some.inj h).symm⟩
theorem aE{H:Hp}{p:Addr}(h:H p=none)(o:HO):bD H (upd H p o):=λb u q=>by rw[au (av q h)];exact q
def Hi:Sp:=λvs H Q _=>∃L,vs=[.ref L]/\∃as ss,H L=some (.lst (List.map V.ref as))/\aF H as ss/\as.length<=90000/\
 ∀D H' bs ts,bD H H'->H D=none->H' D=some (.lst (List.map V.ref bs))->aF H' bs ts->ts.Nodup->(∀x,x∈ts↔x∈ss)->ts.Pairwise (λa b=>bU a b=true)->Q (.ref D) H'
def aA(x y:List Int):Bool:=x.all λm=>decide (m∈y)
theorem rK(m:Int)(y:List Int):Qk (.int m) (List.map V.int y)=decide (m∈y):=by
 unfold Qk
 rw[List.any_map,Bool.eq_iff_iff,List.any_eq_true,decide_eq_true_eq]
 constructor
 ·rintro⟨z,hz,e⟩
  have:z=m:=by simpa [Gu]using e
  rw[<-this];exact hz
 ·intro h
  exact⟨m,h,by simp[Gu]⟩
theorem pC(y:List Int):(List.map V.int y).all gP=true:=by
 rw[List.all_map,List.all_eq_true]
 intro _ _
 rfl
theorem int_at{ns:List Int}{i:Nat}{x:V}(h:(List.map V.int ns)[i]?=some x):∃n,ns[i]?=some n/\x=.int n:=by
 rw[List.getElem?_map]at h
 cases e:ns[i]? with
 | none=>rw[e]at h;cases h
 | some q=>rw[e]at h;exact⟨q,rfl,(Option.some.inj h).symm⟩
def Rn:Sp:=λvs H Q _=>∃a b,vs=[.ref a,.ref b]/\∃x y:List Int,H a=some (.tup (List.map V.int x))/\H b=some (.tup (List.map V.int y))/\Q (.bl (aA x y)) H
def uh(lies:Bool):Sp:=λvs H Q _=>∃a L,vs=[.ref a,.ref L]/\∃(x:List Int) (bs:List Addr) (ts:List (List Int)),H a=some (.tup (List.map V.int x))/\H L=some (.lst (List.map V.ref bs))/\aF H bs ts/\Q (.bl (ts.any λt=>if lies then aA x t else aA t x)) H
def hv(l:Addr)(a b c d e:Int):HO:=.lst [.ref l,.int a,.int b,.int c,.int d,.int e]
def Ys(l:Addr)(o:HO):Prop:=∃a b c d e,o=hv l a b c d e/\0<=a
def vm:Sp:=λvs H Q _=>∃h,vs=[.ref h]/\∃l a b c d e,H h=some (hv l a b c d e)/\Q (.int (d*48271%2147483647+e*40693%2147483399)) (upd H h (hv l a b c (d*48271%2147483647) (e*40693%2147483399)))
def Rj:Sp:=λvs H Q _=>∃h,vs=[.ref h]/\∃l ns o,H h=some o/\Ys l o/\H l=some (.lst (List.map V.int ns))/\∀o',Ys l o'->Q .non (upd H h o')
def Hk:Sp:=λvs H Q _=>∃h m,vs=[.ref h,.int m]/\1<=m/\m<2 ^ 300/\∃l ns o,H h=some o/\Ys l o/\H l=some (.lst (List.map V.int ns))/\∀r o',0<=r->r<m->Ys l o'->Q (.int r) (upd H h o')
def Hd(H:Hp)(h l:Addr):Prop:=∃ns o,H h=some o/\Ys l o/\H l=some (.lst (List.map V.int ns))
def fO(H:Hp)(h:Addr):Prop:=∃l,Hd H h l
structure Dr(h:Addr)(H H':Hp):Prop where
 keep:∀b o,b≠h->H b=some o->H' b=some o
 hand:∀l,Hd H h l->Hd H' h l
theorem Dr.refl{h:Addr}{H:Hp}:Dr h H H:=⟨λ_ _ _ e=>e,λ_ x=>x⟩
theorem Dr.trans{h:Addr}{H H1 H2:Hp}(a:Dr h H H1)(b:Dr h H1 H2):Dr h H H2:=⟨λc o hc e=>b.keep c o hc (a.keep c o hc e),λl x=>b.hand l (a.hand l x)⟩
theorem Dr.fF{h:Addr}{H H1:Hp}(a:Dr h H H1)(x:fO H h):fO H1 h:=let ⟨l,y⟩:=x;⟨l,a.hand l y⟩
theorem Hd.apart{H:Hp}{h l:Addr}(x:Hd H h l):l≠h:=by
 obtain⟨ns,o,e1,⟨a,b,c,d,e,rfl,_⟩,e3⟩:=x
 intro z
 rw[z,e1]at e3
 have q:=Option.some.inj e3
 unfold hv at q
 injection q with q
 match ns,q with
 | [],q=>cases q
 | n::_,q=>injection q with q1 _;cases q1
theorem Dr.new{h p:Addr}{H H1:Hp}{o:HO}(a:Dr h H H1)(hp:H1 p=none):Dr h H (upd H1 p o):=by
 refine⟨λc o' hc e=>?_,λl x=>?_⟩
 ·rw[au (av (a.keep c o' hc e) hp)];exact a.keep c o' hc e
 ·obtain⟨ns,oh,e1,e2,e3⟩:=a.hand l x
  exact⟨ns,oh,by rw[au (av e1 hp)];exact e1,e2,by rw[au (av e3 hp)];exact e3⟩
theorem Dr.put{h p:Addr}{H H1:Hp}{o':HO}(a:Dr h H H1)(hn:H p=none):Dr h H (upd H1 p o'):=by
 refine⟨λc o' hc e=>?_,λl x=>?_⟩
 ·rw[au (av e hn)];exact a.keep c o' hc e
 ·obtain⟨ns,oh,e1,e2,e3⟩:=a.hand l x
  obtain⟨_,_,f1,_,f3⟩:=x
  exact⟨ns,oh,by rw[au (av f1 hn)];exact e1,e2,by rw[au (av f3 hn)];exact e3⟩
theorem fO.ne{h p:Addr}{H:Hp}(x:fO H h)(hp:H p=none):p≠h:=by
 obtain⟨l,ns,oh,e1,_,_⟩:=x
 exact(av e1 hp).symm
theorem Dr.free{h p:Addr}{H H1:Hp}(a:Dr h H H1)(x:fO H h)(hp:H1 p=none):H p=none:=by
 cases e:H p with
 | none=>rfl
 | some o=>
  have n:=(a.fF x).ne hp
  have:=a.keep p o n e
  rw[hp]at this;cases this
theorem cY{h:Addr}{m:Int}{H0 H:Hp}{Q:VK}{E:XK}(hd:fO H0 h)(d:Dr h H0 H)(h1:1<=m)(h2:m<2 ^ 300)(q:∀r H',0<=r->r<m->Dr h H0 H'->(∀b,b≠h->H' b=H b)->Q (.int r) H'):Hk [.ref h,.int m] H Q E:=by
 obtain⟨l,x⟩:=hd
 have x':=d.hand l x
 have ap:=x'.apart
 obtain⟨ns,oh,e1,e2,e3⟩:=x'
 refine⟨h,m,rfl,h1,h2,l,ns,oh,e1,e2,e3,λr o' r0 r1 ho=>q r _ r0 r1 ⟨λc o hc e=>?_,λl' x'=>?_⟩ (λb hb=>au hb)⟩
 ·rw[au hc];exact d.keep c o hc e
 ·have y:=d.hand l' x'
  have ap':=y.apart
  obtain⟨Gn,oh',f1,f2,f3⟩:=y
  have el:l'=l:=by
   obtain⟨a,b,c,d,e,rfl,_⟩:=e2
   obtain⟨a',b',c',d',e',rfl,_⟩:=f2
   rw[e1]at f1
   have:=Option.some.inj f1
   unfold hv at this
   injection this with this
   injection this with this _
   exact(V.ref.inj this).symm
  subst el
  exact⟨ns,o',ai,ho,by rw[au ap];exact e3⟩
theorem yp{α:Type}(f:α->V)(xs:List α)(lo hi:Option Int):gX (xs.map f) lo hi=((xs.drop (HT.cT xs.length 0 lo)).take (HT.cT xs.length xs.length hi-HT.cT xs.length 0 lo)).map f:=by
 unfold gX;rw[List.length_map,List.map_take,List.map_drop]
def Ro(K:PySem.W.Frag):Sp:=λvs H Q _=>∃a ns,vs=[.ref a]/\nv K H a (List.map V.int ns)/\∀h H',bD H H'->H h=none->fO H' h->Q (.ref h) H'
def dF(x:List Int):Prop:=x.Pairwise (· < ·)
theorem bx{x y:List Int}:aA x y=true↔∀m∈x,m∈y:=by
 unfold aA
 rw[List.all_eq_true]
 exact⟨λh m hm=>of_decide_eq_true (h m hm),λh m hm=>decide_eq_true (h m hm)⟩
theorem dF.nodup{x:List Int}(h:dF x):x.Nodup:=h.imp λZq e=>by lia
theorem nY:∀{x y:List Int},dF x->dF y->(∀m,m∈x↔m∈y)->x=y
 | [],[],_,_,_=>rfl
 | [],b::y,_,_,h=>absurd ((h b).mpr List.mem_cons_self) (by simp)
 | a::x,[],_,_,h=>absurd ((h a).mp List.mem_cons_self) (by simp)
 | a::x,b::y,hx,hy,h=>by
  have qG:=List.pairwise_cons.mp hx
  have vY:=List.pairwise_cons.mp hy
  have Zq:a=b:=by
   rcases List.mem_cons.mp ((h a).mp List.mem_cons_self) with e | e
   ·exact e
   ·rcases List.mem_cons.mp ((h b).mpr List.mem_cons_self) with e' | e'
    ·exact e'.symm
    ·have:=vY.1 a e
     have:=qG.1 b e'
     lia
  subst Zq
  rw[nY qG.2 vY.2 λm=>⟨λhm=>?_,λhm=>?_⟩]
  ·rcases List.mem_cons.mp ((h m).mp (List.mem_cons_of_mem _ hm)) with e | e
   ·have:=qG.1 m hm;lia
   ·exact e
  ·rcases List.mem_cons.mp ((h m).mpr (List.mem_cons_of_mem _ hm)) with e | e
   ·have:=vY.1 m hm;lia
   ·exact e
theorem dH{x y:List Int}(hx:dF x)(h:aA x y=true):x.length<=y.length:=du hx.nodup (bx.mp h)
theorem gu{x y:List Int}(hx:dF x)(hy:dF y)(h:aA x y=true)(hl:x.length=y.length):x=y:=by
 refine nY hx hy λm=>⟨bx.mp h m,λhm=>?_⟩
 refine Classical.byContradiction λhn=>?_
 have h1:(m::x).Nodup:=List.nodup_cons.mpr ⟨hn,hx.nodup⟩
 have:=du h1 λz hz=>by
  rcases List.mem_cons.mp hz with e | e
  ·rw[e];exact hm
  ·exact bx.mp h z e
 rw[List.length_cons]at this
 lia
theorem ia(x:List Int):aA x x=true:=bx.mpr λ_ h=>h
theorem fD{x y z:List Int}(h1:aA x y=true)(h2:aA y z=true):aA x z=true:=bx.mpr λm hm=>bx.mp h2 m (bx.mp h1 m hm)
def gM:List (List Int)->List (List Int)->List (List Int)
 | [],acc=>acc
 | x::r,acc=>gM r (if acc.any (λt=>aA t x) then acc else acc++[x])
theorem rH:∀(r acc seen:List (List Int)),(∀x∈seen++r,dF x)->(seen++r).Pairwise (λa b=>bU a b=true)->(∀x,x∈acc↔x∈seen/\∀y∈seen,aA y x=true->y=x)->
  (∀x,x∈gM r acc↔x∈seen++r/\∀y∈seen++r,aA y x=true->y=x)
 | [],acc,seen,_,_,h=>λx=>by
  show x∈acc↔_
  rw[List.append_nil]
  exact h x
 | a::r,acc,seen,hr,pw,h=>by
  have e:seen++a::r=(seen++[a])++r:=by simp
  show ∀x,x∈gM r (if acc.any (λt=>aA t a)=true then acc else acc++[a])↔_
  rw[e]at hr pw ⊢
  refine rH r _ (seen++[a]) hr pw λx=>?_
  have ra:dF a:=hr a (by simp)
  have V3:=(List.pairwise_append.mp pw).1
  have ahead:∀y∈seen,bU y a=true:=λy hy=>(List.pairwise_append.mp V3).2.2 y hy a (by simp)
  have Wt:∀y∈seen,y≠a:=λy hy e=>by
   have:=ahead y hy
   rw[e]at this
   unfold bU at this
   rw[iO]at this
   simp at this
  have low:∀n,∀y∈seen,y.length<=n->∃z∈acc,aA z y=true:=by
   intro n
   induction n with
   | zero=>
    intro y hy hl
    refine⟨y,(h y).mpr ⟨hy,λz hz hp=>?_⟩,ia y⟩
    have h1:=dH (hr z (by simp[hz])) hp
    exact gu (hr z (by simp[hz])) (hr y (by simp[hy])) hp (by lia)
   | succ n ih=>
    intro y hy hl
    by_cases hm:∀z∈seen,aA z y=true->z=y
    ·exact⟨y,(h y).mpr ⟨hy,hm⟩,ia y⟩
    ·obtain⟨z,hz⟩:=Classical.not_forall.mp hm
     obtain⟨hz,tG⟩:=Classical.not_imp.mp hz
     obtain⟨hp,qH⟩:=Classical.not_imp.mp tG
     have h1:=dH (hr z (by simp[hz])) hp
     have h2:z.length≠y.length:=λe=>qH (gu (hr z (by simp[hz])) (hr y (by simp[hy])) hp e)
     obtain⟨u,hu,Ti⟩:=ih z hz (by lia)
     exact⟨u,hu,fD Ti hp⟩
  by_cases c:acc.any (λt=>aA t a)=true
  ·rw[if_pos c]
   obtain⟨t,ht,Lp⟩:=List.any_eq_true.mp c
   have Ln:=((h t).mp ht).1
   rw[h x]
   constructor
   ·rintro⟨h1,h2⟩
    refine⟨by simp[h1],λy hy hp=>?_⟩
    rcases List.mem_append.mp hy with z | z
    ·exact h2 y z hp
    ·have ey:y=a:=by simpa using z
     subst ey
     have:=fD Lp hp
     have e2:=h2 t Ln this
     subst e2
     have l1:=dH (hr t (by simp[h1])) Lp
     have l2:=dH ra hp
     exact(gu ra (hr t (by simp[h1])) hp (by lia))
   ·rintro⟨h1,h2⟩
    rcases List.mem_append.mp h1 with z | z
    ·exact⟨z,λy hy hp=>h2 y (by simp[hy]) hp⟩
    ·have ex:x=a:=by simpa using z
     subst ex
     exact absurd (h2 t (by simp[Ln]) Lp) (Wt t Ln)
  ·rw[if_neg c,List.mem_append,h x]
   constructor
   ·rintro(⟨h1,h2⟩ | h1)
    ·refine⟨by simp[h1],λy hy hp=>?_⟩
     rcases List.mem_append.mp hy with z | z
     ·exact h2 y z hp
     ·have ey:y=a:=by simpa using z
      subst ey
      have l2:=dH ra hp
      have:=ahead x h1
      unfold bU at this
      simp only[Bool.or_eq_true,Bool.and_eq_true,decide_eq_true_eq]at this
      rcases this with u | ⟨u,_⟩
      ·lia
      ·exact gu ra (hr x (by simp[h1])) hp u.symm
    ·have ex:x=a:=by simpa using h1
     subst ex
     refine⟨by simp,λy hy hp=>?_⟩
     rcases List.mem_append.mp hy with z | z
     ·obtain⟨u,hu,Ti⟩:=low y.length y z (Nat.le_refl _)
      exact(c (List.any_eq_true.mpr ⟨u,hu,fD Ti hp⟩)).elim
     ·simpa using z
   ·rintro⟨h1,h2⟩
    rcases List.mem_append.mp h1 with z | z
    ·exact .inl ⟨z,λy hy hp=>h2 y (by simp[hy]) hp⟩
    ·exact .inr z
theorem mS:∀(r acc:List (List Int)),∃l,gM r acc=acc++l/\l.Sublist r
 | [],acc=>⟨[],by simp[gM],List.Sublist.refl _⟩
 | a::r,acc=>by
  show ∃l,gM r (if acc.any (λt=>aA t a)=true then acc else acc++[a])=acc++l/\_
  split
  ·obtain⟨l,e,s⟩:=mS r acc
   exact⟨l,e,s.cons a⟩
  ·obtain⟨l,e,s⟩:=mS r (acc++[a])
   exact⟨a::l,by rw[e];simp,s.cons_cons a⟩
def cO(x y:List Int):List Int:=x.filter λm=>decide (m∉y)
def Rm:Sp:=λvs H Q _=>∃a b,vs=[.ref a,.ref b]/\∃x y:List Int,H a=some (.tup (List.map V.int x))/\H b=some (.tup (List.map V.int y))/\x.length<=900/\∀p H',bD H H'->H p=none->H' p=some (.tup (List.map V.int (cO x y)))->Q (.ref p) H'
def gN:List (List Int)->List (List Int)->List (List Int)
 | [],acc=>acc
 | x::r,acc=>gN r (if acc.any (λt=>aA x t) then acc else acc++[x])
theorem rO:∀(r acc seen:List (List Int)),(∀x∈seen++r,dF x)->(seen++r).Pairwise (λa b=>bU b a=true)->(∀x,x∈acc↔x∈seen/\∀y∈seen,aA x y=true->y=x)->(∀y∈seen,∃z∈acc,aA y z=true)->
  (∀x,x∈gN r acc↔x∈seen++r/\∀y∈seen++r,aA x y=true->y=x)
 | [],acc,seen,_,_,h,_=>λx=>by
  show x∈acc↔_
  rw[List.append_nil]
  exact h x
 | a::r,acc,seen,hr,pw,h,cov=>by
  have e:seen++a::r=(seen++[a])++r:=by simp
  show ∀x,x∈gN r (if acc.any (λt=>aA a t)=true then acc else acc++[a])↔_
  rw[e]at hr pw ⊢
  have ra:dF a:=hr a (by simp)
  have V3:=(List.pairwise_append.mp pw).1
  have ahead:∀y∈seen,bU a y=true:=λy hy=>(List.pairwise_append.mp V3).2.2 y hy a (by simp)
  have Wt:∀y∈seen,y≠a:=λy hy e=>by
   have:=ahead y hy
   rw[e]at this
   unfold bU at this
   rw[iO]at this
   simp at this
  refine rO r _ (seen++[a]) hr pw (λx=>?_) (λy hy=>?_)
  ·by_cases c:acc.any (λt=>aA a t)=true
   ·rw[if_pos c]
    obtain⟨t,ht,Lp⟩:=List.any_eq_true.mp c
    have Ln:=((h t).mp ht).1
    rw[h x]
    constructor
    ·rintro⟨h1,h2⟩
     refine⟨by simp[h1],λy hy hp=>?_⟩
     rcases List.mem_append.mp hy with z | z
     ·exact h2 y z hp
     ·have ey:y=a:=by simpa using z
      subst ey
      have e2:=h2 t Ln (fD hp Lp)
      subst e2
      have rt:dF t:=hr t (by simp[h1])
      have l1:=dH ra Lp
      have l2:=dH rt hp
      exact gu ra rt Lp (by lia)
    ·rintro⟨h1,h2⟩
     rcases List.mem_append.mp h1 with z | z
     ·exact⟨z,λy hy hp=>h2 y (by simp[hy]) hp⟩
     ·have ex:x=a:=by simpa using z
      subst ex
      exact absurd (h2 t (by simp[Ln]) Lp) (Wt t Ln)
   ·rw[if_neg c,List.mem_append,h x]
    constructor
    ·rintro(⟨h1,h2⟩ | h1)
     ·refine⟨by simp[h1],λy hy hp=>?_⟩
      rcases List.mem_append.mp hy with z | z
      ·exact h2 y z hp
      ·have ey:y=a:=by simpa using z
       subst ey
       have rx:dF x:=hr x (by simp[h1])
       have l2:=dH rx hp
       have:=ahead x h1
       unfold bU at this
       simp only[Bool.or_eq_true,Bool.and_eq_true,decide_eq_true_eq]at this
       rcases this with u | ⟨u,_⟩
       ·lia
       ·exact(gu rx ra hp u.symm).symm
     ·have ex:x=a:=by simpa using h1
      subst ex
      refine⟨by simp,λy hy hp=>?_⟩
      rcases List.mem_append.mp hy with z | z
      ·obtain⟨u,hu,Ti⟩:=cov y z
       exact(c (List.any_eq_true.mpr ⟨u,hu,fD hp Ti⟩)).elim
      ·simpa using z
    ·rintro⟨h1,h2⟩
     rcases List.mem_append.mp h1 with z | z
     ·exact .inl ⟨z,λy hy hp=>h2 y (by simp[hy]) hp⟩
     ·exact .inr z
  ·by_cases c:acc.any (λt=>aA a t)=true
   ·rw[if_pos c]
    rcases List.mem_append.mp hy with z | z
    ·exact cov y z
    ·have ey:y=a:=by simpa using z
     subst ey
     obtain⟨t,ht,Lp⟩:=List.any_eq_true.mp c
     exact⟨t,ht,Lp⟩
   ·rw[if_neg c]
    rcases List.mem_append.mp hy with z | z
    ·obtain⟨u,hu,Ti⟩:=cov y z
     exact⟨u,by simp[hu],Ti⟩
    ·have ey:y=a:=by simpa using z
     subst ey
     exact⟨y,by simp,ia y⟩
theorem mW:∀(r acc:List (List Int)),∃l,gN r acc=acc++l/\l.Sublist r
 | [],acc=>⟨[],by simp[gN],List.Sublist.refl _⟩
 | a::r,acc=>by
  show ∃l,gN r (if acc.any (λt=>aA a t)=true then acc else acc++[a])=acc++l/\_
  split
  ·obtain⟨l,e,s⟩:=mW r acc
   exact⟨l,e,s.cons a⟩
  ·obtain⟨l,e,s⟩:=mW r (acc++[a])
   exact⟨a::l,by rw[e];simp,s.cons_cons a⟩
theorem aF.rev{H:Hp}{bs:List Addr}{ts:List (List Int)}(s:aF H bs ts):aF H bs.reverse ts.reverse:=by
 refine⟨by rw[List.length_reverse,List.length_reverse];exact s.1,λi b t hb ht=>?_⟩
 have hi:i<bs.length:=by
  have:=(List.getElem?_eq_some_iff.mp hb).1
  rwa [List.length_reverse]at this
 rw[List.getElem?_reverse hi]at hb
 rw[List.getElem?_reverse (by rw[<-s.1];exact hi),<-s.1]at ht
 exact s.2 _ b t hb ht
def Ms:Sp:=λvs H Q _=>∃i:Int,vs=[.int i]/\Q (.bl true) H
def Mz:Sp:=λvs H Q _=>∃a,vs=[.ref a]/\∃x:List Int,H a=some (.tup (List.map V.int x))/\x.length<=900/\dF x/\∀H',bD H H'->Q (.bl true) H'
theorem all_true:∀(n:Nat),(List.replicate n true).all id=true
 | 0=>rfl
 | n+1=>by rw[List.replicate_succ,List.all_cons,all_true n];rfl
theorem uj(x:List Int):bU x x=false:=by
 unfold bU
 rw[iO,Bool.and_false,Bool.or_false]
 simp
theorem O9{a b c d r:Int}(h0:0<=r)(h1:r<4):∃v,qb [V.int a,V.int b,V.int c,V.int d] r=some (.int v)/\(v=a\/v=b\/v=c\/v=d):=by
 have:r=0\/r=1\/r=2\/r=3:=by lia
 rcases this with e | e | e | e <;> subst e
 ·exact⟨a,yA ..,by simp⟩
 ·exact⟨b,Dl ..,by simp⟩
 ·exact⟨c,Dk ..,by simp⟩
 ·exact⟨d,Dj ..,by simp⟩
theorem Dr.on{h:Addr}{H H1 H2:Hp}(a:Dr h H H1)(s:bD H1 H2):Dr h H H2:=⟨λc o hc e=>s _ _ (a.keep c o hc e),λl x=>by
 obtain⟨ns,oh,e1,e2,e3⟩:=a.hand l x
 exact⟨ns,oh,s _ _ e1,e2,s _ _ e3⟩⟩
theorem fO.sV{h b:Addr}{H:Hp}{xs:List V}(x:fO H h)(e:H b=some (.tup xs)):b≠h:=by
 obtain⟨l,ns,o,e1,⟨_,_,_,_,_,rfl,_⟩,_⟩:=x
 exact aW e e1 (by intro z;cases z)
def g6(ps:List (List Int))(m:Int):List (List Int):=ps++ps.map (· ++ [m])
def cD(x:List Int):List (List Int):=x.foldl g6 [[]]
theorem qU(x:List Int)(m:Int):cD (x++[m])=g6 (cD x) m:=by unfold cD;rw[List.foldl_append];rfl
theorem gB(x:List Int):(cD x).length=2 ^ x.length:=by
 have:∀(x:List Int) (ps:List (List Int)),(x.foldl g6 ps).length=ps.length*2 ^ x.length:=λx=>by
  induction x with
  | nil=>intro ps;simp
  | cons m x ih=>
   intro ps
   rw[List.foldl_cons,ih,List.length_cons,Nat.pow_succ]
   unfold g6
   rw[List.length_append,List.length_map,Nat.mul_comm (2 ^ x.length) 2,<-Nat.mul_assoc]
   congr 1
   lia
 unfold cD
 rw[this];simp
theorem w5{x:List Int}(nd:x.Nodup):(cD x).Nodup:=by
 have:∀(x:List Int) (ps:List (List Int)),x.Nodup->ps.Nodup->(∀p∈ps,∀m∈x,m∉p)->(x.foldl g6 ps).Nodup:=λx=>by
  induction x with
  | nil=>intro ps _ h _;exact h
  | cons m x ih=>
   intro ps nx np h
   rw[List.nodup_cons]at nx
   rw[List.foldl_cons]
   refine ih _ nx.2 ?_ ?_
   ·unfold g6
    rw[List.nodup_append]
    refine⟨np,?_,λa ha b hb e=>?_⟩
    ·exact(List.pairwise_map.mpr (np.imp λqH e=>qH (List.append_cancel_right e)))
    ·obtain⟨c,hc,rfl⟩:=List.mem_map.mp hb
     subst e
     exact h _ ha m List.mem_cons_self (by simp)
   ·intro p hp k hk
    unfold g6 at hp
    rcases List.mem_append.mp hp with hp | hp
    ·exact h p hp k (List.mem_cons_of_mem _ hk)
    ·obtain⟨c,hc,rfl⟩:=List.mem_map.mp hp
     intro z
     rcases List.mem_append.mp z with z | z
     ·exact h c hc k (List.mem_cons_of_mem _ hk) z
     ·rw[List.mem_singleton.mp z]at hk
      exact nx.1 hk
 exact this x [[]] nd (by simp) (by simp)
theorem iy{x t:List Int}(h:t∈cD x):t.length<=x.length:=by
 have:∀(x:List Int) (n:Nat) (ps:List (List Int)),(∀p∈ps,p.length<=n)->∀t∈x.foldl g6 ps,t.length<=n+x.length:=λx=>by
  induction x with
  | nil=>intro n ps h t ht;exact h t ht
  | cons m x ih=>
   intro n ps h t ht
   rw[List.foldl_cons]at ht
   have:=ih (n+1) _ (λp hp=>?_) t ht
   ·rw[List.length_cons];lia
   ·unfold g6 at hp
    rcases List.mem_append.mp hp with hp | hp
    ·have:=h p hp;lia
    ·obtain⟨c,hc,rfl⟩:=List.mem_map.mp hp
     have:=h c hc
     rw[List.length_append];simp;lia
 have:=this x 0 [[]] (by simp) t h
 lia
theorem rh{n:Nat}(h:n<=10):2 ^ n<=1024:=Nat.le_trans (Nat.pow_le_pow_right (by decide) h) (by decide)
theorem Dr.sets{h:Addr}{H H':Hp}{bs:List Addr}{ts:List (List Int)}(hd:fO H h)(d:Dr h H H')(s:aF H bs ts):aF H' bs ts:=s.mono λb xs e=>d.keep _ _ (hd.sV e) e
abbrev cut(n:Int)(s:List Int):List Int:=s.filter λm=>decide (m≠n)
theorem rG{G:List (List Int)}(up:∀s∈G,dF s):∀(k:Nat) (s:List Int),s.length<=k->s∈G->∃t,(t∈G/\∀y∈G,aA y t=true->y=t)/\∀m∈t,m∈s
 | 0,s,hl,hs=>by
  have:s=[]:=List.length_eq_zero_iff.mp (by omega)
  subst this
  exact⟨[],⟨hs,λy hy hp=>gu (up y hy) (up _ hs) hp (by have:=dH (up y hy) hp;simp at this;simp[this])⟩,λm hm=>hm⟩
 | k+1,s,hl,hs=>by
  by_cases h:∀y∈G,aA y s=true->y=s
  ·exact⟨s,⟨hs,h⟩,λm hm=>hm⟩
  ·obtain⟨y,hy⟩:=Classical.not_forall.mp h
   obtain⟨y1,y2⟩:=Classical.not_imp.mp hy
   obtain⟨y3,y4⟩:=Classical.not_imp.mp y2
   have l1:=dH (up y y1) y3
   have l2:y.length≠s.length:=λe=>y4 (gu (up y y1) (up s hs) y3 e)
   obtain⟨t,ht,sub⟩:=rG up k y (by omega) y1
   exact⟨t,ht,λm hm=>bx.mp y3 m (sub m hm)⟩
end L2
end
section
namespace L2
structure Nx(P R:St->Hp->Prop):Prop where
 to:∀σ H,P σ H->R σ H
theorem dA{t u:TS}{D:Ends}{σ:St}{H:Hp}(h:∀R:St->Hp->Prop,Nx (u D) R->t { D with nx:=R } σ H):DX t u D σ H:=h (u D) ⟨λ_ _ z=>z⟩
end L2
end
section
namespace L2
open PySem PySem.Spec PyProof.Rows
section
variable {X:Cx}{o e value:Expr}{f:Str}{pos pos':Pos}{ta tv:TE}
theorem eJ(he:ZE X e ta)(hb:attributeBase e f X.env (eval e X.env)=eval e X.env):ZE X (.Attribute e f pos) (Mj X.K ta f):=⟨R' he.to hb⟩
theorem nB(ha:ZE X o ta)(hv:ZE X value tv)(hs:swapsWith value (some (.Attribute o f pos')) pos.line X.env=pure false):ZS X (.Assign [.Attribute o f pos'] value pos) (MT X.K ta tv f):=⟨RQ ha.to hv.to hs⟩
end
section
variable {X:Cx}{CX:Dx}{k:Nat}{f C:Addr}{fd:FuncData}{ps:List Str}{sp:Sp}{pD:List V}{ds:List Value}{E:XK}{x m:Str}{p pos apos:Pos}{e o:Expr}{es:List Expr}{ta:TE}{t:TA}
theorem qL{pl:Sem Bool}(he:ZE X o ta)(c:Cls X.K C)(hm:Meth X.K C m f)(F:bG X.prog X.w X.K X.mg X.base CX k f fd ps sp)(hr:bW k X.A)(hb:Binds X.K fd ps ds)(hd:Vals pD ds)(hx:Passes CX X E)(ha:ZA X (e::es) t)
  (Fo:starEach (e::es) X.env=(false,eval e X.env)::starEach es X.env:=by rfl) (iP:(backTo pos (starEach es X.env)).any (·.1)=false:=by rfl)
  (ht:eval (.Call (.Attribute o m apos) (e::es) [] pos) X.env=(do
   let ov <-eval o X.env
   standAt apos.atName
   let (f,first) <-holding [ov] (getMethod ov m pl)
   callWith pos f first (backTo pos (starEach (e::es) X.env)) (backToKw pos (keywordEach [] X.env))):=by rfl) :
  ZE X (.Call (.Attribute o m apos) (e::es) [] pos) (Be C m sp pD E ta t):=⟨NX he.to c hm F hr hb hd hx ha.to Fo iP ht⟩
theorem GF(M:Mk X.K C f)(F:bG X.prog X.w X.K X.mg X.base CX k f fd ps sp)(hr:bW (k+1) X.A)(hg:Gl X x)(hm:X.mg x=some (.ref C))(hb:Binds X.K fd ps ds)(hd:Vals pD ds)(hx:Passes CX X E)
  (ha:ZA X (e::es) t) (pz:(x==("__debug__" : Str))=false:=by decide) (he:starEach (e::es) X.env=(false,eval e X.env)::starEach es X.env:=by rfl) (iP:(backTo pos (starEach es X.env)).any (·.1)=false:=by rfl) :
  ZE X (.Call (.Name x p) (e::es) [] pos) (Bf C sp pD E t):=⟨NZ M F hr hg hm hb hd hx ha.to pz he iP⟩
end
def Le(H:Hp)(ps:List Addr)(fs:List (List (List Int))):Prop:=ps.length=fs.length/\∀(i:Nat) p f,ps[i]?=some p->fs[i]?=some f->∃bs,H p=some (.lst (List.map V.ref bs))/\aF H bs f
section
variable {X:Cx}{pins:List (Addr×Obj)}{s:Shared}{σ:St}{H:Hp}{A:Around}
def Qf(neg:Bool):R2:=λx y H Q=>∃a b,x=.ref a/\y=.ref b/\∃ps qs cl dl,H a=some (.lst (List.map V.ref ps))/\H b=some (.lst (List.map V.ref qs))/\Le H ps cl/\Le H qs dl/\Q (.bl (if neg then !decide (cl=dl) else decide (cl=dl))) H
end
end L2
end
section
namespace L2
open PySem PySem.Spec PyProof.Rows
open PySem.W (Frag Looks)
abbrev Vc:List Value:=[.type "ValueError",.type "Exception",.type "BaseException",.type "object"]
def Mf(K:Frag)(n:Addr):Bool:=match K.lookup n with
 | some o=>(match o.data with | .dict es _=>es.toList.all λe=>(match e.key with | .str _ _=>true | _=>false) | _=>false)
 | none=>false
theorem P8{K:Frag}{h:Heap}{n:Addr}(X:K.In h)(q:Mf K n=true):∃m,h.Ns n m:=by
 unfold Mf at q
 cases e:K.lookup n with
 | none=>rw[e]at q;cases q
 | some o=>
  rw[e]at q
  dsimp only at q
  cases d:o.data with
  | dict es ep=>
   rw[d]at q
   dsimp only at q
   refine⟨nsFind es,o,es,ep,X _ _ e,d,λx hx=>?_,λ_=>rfl⟩
   have:=List.all_eq_true.mp q x (Array.mem_toList_iff.mpr hx)
   cases k:x.key with
   | str y t=>exact⟨y,t,rfl⟩
   | _=>rw[k]at this;cases this
  | _=>rw[d]at q;cases q
def Mb(K:Frag):List Value->Bool
 | .ref a::tl=>(match K.lookup a with
  | some o=>(match o.data with | .cls cd=>Mf K cd.ns&&(PySem.W.nsIn K cd.ns "__init__" == some none) | _=>false)
  | none=>false)&&Mb K tl
 | l=>l==Vc
theorem P7{K:Frag}{h:Heap}(X:K.In h):∀{l:List Value},Mb K l=true->OwnTail h Vc l
 | .ref a::tl,q=>by
  simp only[Mb,Bool.and_eq_true]at q
  obtain⟨q,r⟩:=q
  cases e:K.lookup a with
  | none=>rw[e]at q;cases q
  | some o=>
   rw[e]at q
   obtain⟨oc,od,da,sl⟩:=o
   cases da with
   | cls cd=>
    simp only[Bool.and_eq_true,beq_iff_eq]at q
    obtain⟨m,hm⟩:=P8 X q.1
    exact .own (X _ _ e) hm (PySem.W.ns_none_of X hm q.2) (P7 X r)
   | _=>cases q
 | [],q=>by cases eq_of_beq q
 | .type n::tl,q=>by rw[show Value.type n::tl=Vc from eq_of_beq q];exact .base
 | .none::tl,q=>by cases eq_of_beq q
 | .bool _::tl,q=>by cases eq_of_beq q
 | .int _ _::tl,q=>by cases eq_of_beq q
 | .str _ _::tl,q=>by cases eq_of_beq q
 | .builtin _::tl,q=>by cases eq_of_beq q
 | .float _ _::tl,q=>by cases eq_of_beq q
 | .bytes _ _::tl,q=>by cases eq_of_beq q
 | .ellipsis::tl,q=>by cases eq_of_beq q
 | .notImplemented::tl,q=>by cases eq_of_beq q
def qM(K:Frag)(C:Addr):Bool:=match K.lookup C with
 | some o=>o.cls == .type "type" && (match o.data with
  | .cls cd=>!cd.hasDel&&cd.hasDict&&Mf K cd.ns&&(match cd.mro with | v::tl=>v == .ref C&&Mb K tl | []=>false) | _=>false)&&(match o.slots.toList with | [_,_,_,_,some v,_]=>v == .builtin "ValueError.__new__" | _=>false)
 | none=>false
theorem tY{K:Frag}{h:Heap}{C:Addr}(X:K.In h)(q:qM K C=true):∃nm qn N bs bm sn sub ab col dd k0 k1 k2 k3 k5 mN,h.get? C=some (excClassObj nm qn C N bs bm true sn sub ab col dd k0 k1 k2 k3 k5 "ValueError.__new__")/\h.Ns N mN/\OwnTail h Vc bm:=by
 unfold qM at q
 cases e:K.lookup C with
 | none=>rw[e]at q;cases q
 | some o=>
  rw[e]at q
  obtain⟨oc,od,da,sl⟩:=o
  simp only[Bool.and_eq_true,beq_iff_eq]at q
  obtain⟨⟨rfl,q1⟩,q2⟩:=q
  cases da with
  | cls cd=>
   obtain⟨nm,bs,mro,ns,qn,hd,sn,sub,ab,col,del⟩:=cd
   simp only[Bool.and_eq_true,Bool.not_eq_true']at q1
   obtain⟨⟨⟨rfl,rfl⟩,n1⟩,q1⟩:=q1
   cases mro with
   | nil=>cases q1
   | cons v tl=>
    simp only[Bool.and_eq_true,beq_iff_eq]at q1
    obtain⟨rfl,q1⟩:=q1
    obtain⟨l⟩:=sl
    match l,q2 with
    | [k0,k1,k2,k3,some v,k5],q2=>
     obtain⟨m,hm⟩:=P8 X n1
     have ev:v=.builtin "ValueError.__new__":=eq_of_beq q2
     subst ev
     exact⟨nm,qn,ns,bs,tl,sn,sub,ab,col,od,k0,k1,k2,k3,k5,m,X _ _ e,hm,P7 X q1⟩
  | _=>cases q1
section
variable {prog:Program}{w:World}{A:Around}{E:Value->Shared->Prop}{s:Shared}{K:Frag}{C fI:Addr}
theorem sM{rest:List Value}{Q:PySem.Fin->Shared->Prop}(X:K.In s.heap)(q:qM K C=true)(hi:PySem.W.findIn K (.ref C) "__init__" = some (some (.ref fI)))(hf:PySem.W.typeIn K (.ref fI)=some (.type "function"))
  (hq:∀h',Heap.MadeExcOf s.heap h' (s.heap.objs.size+1) (.ref C) rest->wpAny (model prog w) A (call (.ref fI) (.ref (s.heap.objs.size+1)::rest)) (λr s'=>r=.none/\Q (.done (.ret (.ref (s.heap.objs.size+1)))) s') E { s with heap:=h' }) (uK:rest.length<=sizeLine) :
  wpAny (model prog w) A (Builtin.«type.__call__» ⟨.ref C::rest,[]⟩) Q E s:=by
 obtain⟨nm,qn,N,bs,bm,sn,sub,ab,col,dd,k0,k1,k2,k3,k5,mN,hC,hN,T⟩:=tY X q
 obtain⟨h,g,d,t,os⟩:=s
 dsimp only at X hC hN T hq
 repeat (first | with_reducible refine wpAny_loadPart_at hC ?_ | with_reducible refine wpAny_madeBy_exc hC ?_ | wp_step)
 have FF:=PySem.F.excBase_ValueError
 refine codeAny_call_builtin_code (Code.quiet_builtin _ FF.quiet) (wpAny_check_new_subU FF (by decide +kernel) T hC (codeAny_exc_new_subU FF (by decide +kernel) FF T hC ?_ uK))
 show wpAny _ _ _ _ _ _
 have kp:∀b o,h.get? b=some o->((h.push { cls:=.type "tuple",data:=.seq rest.toArray }).push { cls:=.ref C,data:=.fields #[.ref h.objs.size,.none,.none,.none,.bool false,.none] }).get? b=some o:=λb o e=>Heap.get?_push_of_some _ (Heap.get?_push_of_some _ e)
 have e1:((h.push { cls:=.type "tuple",data:=.seq rest.toArray }).push { cls:=.ref C,data:=.fields #[.ref h.objs.size,.none,.none,.none,.bool false,.none] }).get? (h.objs.size+1)=some { cls:=.ref C,data:=.fields #[.ref h.objs.size,.none,.none,.none,.bool false,.none] }:=by heap_get
 have mk:Heap.MadeExcOf h ((h.push { cls:=.type "tuple",data:=.seq rest.toArray }).push { cls:=.ref C,data:=.fields #[.ref h.objs.size,.none,.none,.none,.bool false,.none] }) (h.objs.size+1) (.ref C) rest:=⟨kp,Heap.get?_none_of_le (Nat.le_succ _),h.objs.size,e1,Heap.get?_none_of_le (Nat.le_refl _),Heap.get?_push_of_some _ (Heap.get?_push_at rfl rfl)⟩
 generalize ((h.push { cls:=.type "tuple",data:=.seq rest.toArray }).push { cls:=.ref C,data:=.fields #[.ref h.objs.size,.none,.none,.none,.bool false,.none] })=h2 at kp e1 mk ⊢
 have hC2:=kp _ _ hC
 have X2:K.In h2:=X.keeps kp
 have hcC:(Value.ref C::bm).contains (.ref C)=true:=by simp
 unfold isInstance
 repeat (first | with_reducible refine wpAny_loadPart_at e1 ?_ | (with_reducible refine wpAny_isSubtype_exc hC2 ?_;rw[hcC]) | wp_step)
 show wpAny _ _ (typeLookup (.ref C) _) _ _ _
 refine(PySem.W.looks_findIn (M:=model prog w) (h:=h2) X2 hi) _ _ _ _ (λ_ _ e=>e) (wpAny_holding (wpAny_bind ((PySem.W.bind_fn (M:=model prog w) (h:=h2) X2 (.ref (h.objs.size+1)) hf) _ _ _ _ (λ_ _ e=>e) ?_)))
 refine wpAny_bind (wpAny_mono (hq h2 mk) (λr s' hr=>?_) λ_ _ z=>z)
 obtain⟨rfl,z⟩:=hr
 wp_walk
 exact z
theorem KY{rest:List Value}{Q:Value->Shared->Prop}(X:K.In s.heap)(q:qM K C=true)(hi:PySem.W.findIn K (.ref C) "__init__" = some (some (.ref fI)))(hf:PySem.W.typeIn K (.ref fI)=some (.type "function"))
  (hq:∀h',Heap.MadeExcOf s.heap h' (s.heap.objs.size+1) (.ref C) rest->wpAny (model prog w) (A.under (.builtin "type.__call__" ⟨.ref C::rest,[]⟩)) (call (.ref fI) (.ref (s.heap.objs.size+1)::rest)) (λr s'=>r=.none/\Q (.ref (s.heap.objs.size+1)) s') E { s with heap:=h' }) (uK:rest.length<=sizeLine) :
  wpAny (model prog w) A (call (.ref C) rest) Q E s:=by
 obtain⟨nm,qn,N,bs,bm,sn,sub,ab,col,dd,k0,k1,k2,k3,k5,mN,hC,hN,T⟩:=tY X q
 obtain⟨h,g,d,t,os⟩:=s
 dsimp only at X hC hN T hq
 have f1:=tc_lookup
 have f2:=tc_bind (.ref C)
 have hT:(⟨h,g,d,t,os⟩:Shared).TypeIs (.ref C) "type":=⟨_,hC,rfl⟩
 refine wpAny_call (codeAny_of_tree (show wpAny _ _ (callAny (.ref C) _) _ _ _ from ?_))
 repeat (any_goals (first | assumption | with_reducible refine wpAny_loadPart_at hC ?_ | wp_step))
 refine⟨rfl,codeAny_call_builtin_at (Code.quiet_builtin _ (by decide +kernel)) entry_typeCall (wpAny_check_type_call_sub hC (sM (s:=⟨h,g,d,t,os⟩) X q hi hf (λh' hm=>?_) uK))⟩
 exact hq h' hm
end
section
variable {prog:Program}{w:World}{A:Around}{E:Value->Shared->Prop}{s:Shared}{K:Frag}{C e:Addr}{oe:Obj}{vs:Array Value}
theorem Ga{t0:Addr}{rest:List Value}{Q:Value->Shared->Prop}(X:K.In s.heap)(q:qM K C=true)(he:s.heap.get? e=some { cls:=.ref C,data:=.fields #[.ref t0,.none,.none,.none,.bool false,.none] })
  (hq:Q .none { s with heap:=(s.heap.push { cls:=.type "tuple",data:=.seq rest.toArray }).update e (Obj.mapFields (·.setIfInBounds 0 (Value.ref s.heap.objs.size))) }) (uK:rest.length<=sizeLine) :
  wpAny (model prog w) A (call (.builtin "ValueError.__init__") (.ref e::rest)) Q E s:=by
 obtain⟨nm,qn,N,bs,bm,sn,sub,ab,col,dd,k0,k1,k2,k3,k5,mN,hC,hN,T⟩:=tY X q
 have FF:=PySem.F.excBase_ValueError
 obtain⟨h,g,d,t,os⟩:=s
 dsimp only at X hC hN T hq he
 have UW:(h.push { cls:=.type "tuple",data:=.seq rest.toArray }).get? e=some { cls:=.ref C,data:=.fields #[.ref t0,.none,.none,.none,.bool false,.none] }:=Heap.get?_push_of_some _ he
 refine wpAny_call (codeAny_call_builtin FF.init.plain FF.initEntry (wpAny_check_init_subU FF T hC he rfl ?_))
 wp_walk
 exact hq
theorem xj(self:Value){h:Heap}{l:List Value}(T:OwnTail h Vc l):refuseLoop self "__setattr__" l=pure ():=by
 induction T with
 | base=>exact PySem.F.store_ValueError.passes self
 | own _ _ _ _ ih=>rw[refuseLoop_ref];exact ih
theorem DN{name:Str}{tk:Tok}{v:Value}{R:Result->Shared->Prop}(X:K.In s.heap)(q:qM K C=true)(he:s.heap.get? e=some oe)(hc:oe.cls=.ref C)(ht:PySem.W.takerIn K C name=some none)
  (h:∀b,wpAny (model prog w) A.in1 (Builtin.ObjectAttr.storeInOwnDict (.ref e) (.ref C) (.str name tk) name v b) (λfin s'=>match fin with | .done f=>R (.ok f) s' | .again c'=>c'.quiet=true/\codeAny (model prog w) A c' R s') (λx s'=>R (.error x) s') s) :
  codeAny (model prog w) A (.call (.builtin "object.__setattr__") ⟨[.ref e,.str name tk,v],[]⟩) R s:=by
 obtain⟨nm,qn,N,bs,bm,sn,sub,ab,col,dd,k0,k1,k2,k3,k5,mN,hC,hN,T⟩:=tY X q
 have SF:=PySem.F.store_object
 have ty:Looks (model prog w) s.heap (typeOf (.ref e)) (.ref C):=hc ▸ (Looks.ld he).andThen .now
 have sub:Looks (model prog w) s.heap (isInstance (.ref e) (.type "object")) true:=ty.andThen (λA Q E s k z=>by
  obtain⟨h,g,d,t,os⟩:=s
  refine wpAny_isSubtype_exc (k _ _ hC) ?_
  rw[List.contains_cons,T.hasType (X:="object") (b:=true) (by decide +kernel),Bool.or_true]
  exact z)
 refine codeAny_call_builtin SF.slot.plain SF.entry (@PySem.W.check_slot (model prog w) _ _ s "object.__setattr__" "object" "__setattr__" (.ref e) [.str name tk,v] [] _ SF.kind SF.split sub (SF.args (.ref e) (.str name tk) v) ?_)
 obtain⟨attr,ha,hr⟩:=Option.bind_eq_some_iff.mp ht
 have hm:Looks (model prog w) s.heap (mroOf (.ref C)) (.ref C::bm):=λA Q E s k z=>by
  obtain⟨h,g,d,t,os⟩:=s
  exact wpAny_mroOf_exc (k _ _ hC) z
 have L3:Looks (model prog w) s.heap (Builtin.ObjectAttr.storeTaker? attr) none:=by
  cases attr with
  | none=>exact .now
  | some a=>
   obtain⟨b,hb,z⟩:=Option.map_eq_some_iff.mp hr
   cases b with
   | true=>cases z
   | false=>exact(PySem.W.looks_takesIn X hb).andThen .now
 rw[PySem.W.osa_eq,refuse_eq]
 refine wpAny_bind (wpAny_bind (ty.here (wpAny_bind (hm.here ?_))))
 rw[refuseLoop_ref,xj _ T]
 exact wpAny_pure (wpAny_bind (ty.here (wpAny_bind ((PySem.W.looks_findIn X ha).here (wpAny_bind (L3.here (h _)))))))
theorem Z6{name:Str}{v:Value}{Q:Unit->Shared->Prop}(X:K.In s.heap)(q:qM K C=true)(he:s.heap.get? e=some oe)(hc:oe.cls=.ref C)(hd:oe.dict=none)(J0:oe.data=.fields vs)
  (hs:PySem.W.findIn K (.ref C) "__setattr__" = some (some (.builtin "object.__setattr__"))) (ht:PySem.W.takerIn K C name=some none)
  (h:∀h' tk,h'.get? e=some { oe with dict:=some s.heap.objs.size }->h'.Ns1 s.heap.objs.size (λy=>if y=name then some v else none)->(∀b o,b≠e->s.heap.get? b=some o->h'.get? b=some o)->Q () { s with heap:=h',toks:=tk }) :
  wpAny (model prog w) A (setAttr (.ref e) name v) Q E s:=by
 obtain⟨oc,od,oda,BR⟩:=oe
 dsimp only at hc hd J0
 subst hc hd J0
 have J:PySem.W.InstAt s.heap e ⟨.ref C,none,.fields vs,BR⟩ C none:=⟨he,rfl,rfl,True.intro⟩
 refine PySem.W.set_plain X J hs (DN (s:={ s with toks:=s.toks+1 }) X q he rfl ht λb=>?_)
 obtain⟨nm,qn,N,bs,bm,sn,sub,ab,col,dd,k0,k1,k2,k3,k5,mN,hC,hN,T⟩:=tY X q
 have tK:Looks (model prog w) s.heap (classData C) _:=(Looks.ld (part:=none) hC).andThen .now
 refine wpAny_bind (wpAny_pure (wpAny_bind (wpAny_bind (wpAny_loadPart he (wpAny_bind (Looks.here (s:={ s with toks:=s.toks+1 }) tK ?_))))))
 rw[if_neg (by simp)]
 dsimp only
 rw[if_neg (by simp[typeHasDict])]
 have UW:(s.heap.push { cls:=.type "dict",data:=.dict #[] }).get? e=some ⟨.ref C,none,.fields vs,BR⟩:=Heap.get?_push_of_some _ he
 have qH:e≠s.heap.objs.size:=Nat.ne_of_lt (Heap.lt_size he)
 refine wpAny_bind (wpAny_alloc' (wpAny_bind (wpAny_update' UW ?_)))
 refine wpAny_pure ?_
 have Gp:=Heap.get?_update_self (λo:Obj=>{ cls:=o.cls,dict:=some s.heap.objs.size,data:=o.data,slots:=o.slots }) UW rfl
 have kp2:∀b o,b≠e->(s.heap.push { cls:=.type "dict",data:=.dict #[] }).get? b=some o->((s.heap.push { cls:=.type "dict",data:=.dict #[] }).update e λo=>{ cls:=o.cls,dict:=some s.heap.objs.size,data:=o.data,slots:=o.slots }).get? b=some o:=λb o hb z=>(Heap.get?_update_ne _ _ _ _ hb).trans z
 have hgd:=kp2 _ _ qH.symm (Heap.get?_push_at (h:=s.heap) (o:={ cls:=.type "dict",data:=.dict #[] }) rfl rfl)
 have kp3:∀b o,b≠e->s.heap.get? b=some o->((s.heap.push { cls:=.type "dict",data:=.dict #[] }).update e λo=>{ cls:=o.cls,dict:=some s.heap.objs.size,data:=o.data,slots:=o.slots }).get? b=some o:=λb o hb z=>kp2 b o hb (Heap.get?_push_of_some _ z)
 generalize ((s.heap.push { cls:=.type "dict",data:=.dict #[] }).update e λo=>{ cls:=o.cls,dict:=some s.heap.objs.size,data:=o.data,slots:=o.slots })=h2 at Gp hgd kp3 ⊢
 have hnd:h2.Ns s.heap.objs.size (λ_=>none):=⟨_,#[],_,hgd,rfl,λx hx=>absurd hx (by simp),λ_=>rfl⟩
 refine wpAny_bind (wpAny_pure (wpAny_bind ?_))
 refine wpAny_nsSet1 (s:={ s with heap:=h2,toks:=s.toks+1 }) (Heap.Ns1.of_empty hnd) λh' uL sb=>?_
 obtain⟨oD,esD,epD,hoD,hdD,hcD⟩:=uL.count (Within.cons name v Within.nil)
 refine wpAny_bind (wpAny_lookBehind hoD (by rw[hdD];exact pastItsLine_dict (Nat.le_trans hcD (by rw[List.length_cons,List.length_nil,sizeLine_eq];omega))) ?_)
 exact wpAny_pure (h h' _ ((sb.2 _ qH).trans Gp) uL λb o hb z=>(sb.2 b (Nat.ne_of_lt (Heap.lt_size z))).trans (kp3 b o hb z))
end
abbrev Q6(C:Addr)(dx:Option Addr)(t:Addr):Obj:={ cls:=.ref C,dict:=dx,data:=.fields #[.ref t,.none,.none,.none,.bool false,.none] }
section
variable {M:Model}{A:Around}{E:Value->Shared->Prop}{s:Shared}{K:Frag}{C:Addr}{env:Env}
theorem Q5{x:Sem Value}{Q:Flow->Shared->Prop}(q:qM K C=true)(hh:A.handled=none)(h:wpAny M A x (λv s₁=>∃e dx t,v=.ref e/\K.In s₁.heap/\s₁.heap.get? e=some (Q6 C dx t)/\E (.ref e) s₁) E s) :
  wpAny M A (raiseStmt env (some x) none) Q E s:=by
 unfold raiseStmt
 refine wpAny_bind (wpAny_mono h (λv s₁ h₁=>?_) λ_ _ z=>z)
 obtain⟨e,dx,t,rfl,X,he,hE⟩:=h₁
 obtain⟨nm,qn,N,bs,bm,sn,sub,ab,col,dd,k0,k1,k2,k3,k5,mN,hC,hN,T⟩:=tY X q
 have hb:(Value.ref C::bm).contains (.type "BaseException")=true:=by rw[List.contains_cons,T.hasType (X:="BaseException") (b:=true) (by decide +kernel),Bool.or_true]
 obtain⟨hp,g,d,tk,os⟩:=s₁
 dsimp only at hC he
 repeat (first | with_reducible refine wpAny_loadPart_at he ?_ | (with_reducible refine wpAny_isSubtype_exc hC ?_;rw[hb]) | wp_step)
 exact wpAny_raiseNew_none hh hE
end
def PX(N:Addr->Prop)(h:Heap)(e C:Addr)(dx:Option Addr):Prop:=N e/\∃vs sl,h.get? e=some ⟨.ref C,dx,.fields vs,sl⟩/\(vs[1]?=some .none\/∃T oT ts,N T/\T≠e/\vs[1]?=some (.ref T)/\h.get? T=some oT/\oT.data=.fields ts/\ts[3]?=some .none)
structure Lv(fs ch:List Addr)(h h':Heap):Prop where
 keep:∀b o,b∉fs->b∉ch->h.get? b=some o->h'.get? b=some o
 slot:∀b o,b∈fs->h.get? b=some o->∃sl,h'.get? b=some { o with slots:=sl }
section
variable {M:Model}{A:Around}{E:Value->Shared->Prop}{s:Shared}{env:Env}{outer:List Env}{base:Heap}{N:Addr->Prop}{e C L:Addr}{dx:Option Addr}
theorem GL{oe:Obj}{vs:Array Value}{head:Value}{O3:Bool}{Q:Unit->Shared->Prop}(v3:A.frames=some (env::outer))(hl:s.heap.FunFrames base (env::outer))(hf:env.frame=some L)
  (he:s.heap.get? e=some oe) (hd:oe.data=.fields vs) (hz:1<vs.size)
  (h:∀h' T oT ts,s.heap.objs.size<=T->T≠e->h'.get? e=some { oe with data:=.fields (vs.setIfInBounds 1 (.ref T)) }->h'.get? T=some oT->oT.data=.fields ts->ts[3]?=some (rawInt L)->
   (∀b o,b≠e->b∉lP (env::outer)->s.heap.get? b=some o->h'.get? b=some o)->(∀b o,b∈lP (env::outer)->s.heap.get? b=some o->∃sl,h'.get? b=some { o with slots:=sl })->h'.FunFrames base (env::outer)->Q () { s with heap:=h' }) :
  wpAny M A (do let a <-frameOf env;let pl <-entryPlaceOf L O3;let b <-EntryCells.newEntry head a .none (rawInt L) .none pl;setField (.ref e) 1 b) Q E s:=by
 have nf:∀b,b∈lP (env::outer)->b≠e:=λb hb z=>by
  obtain⟨_,o,ho,nd⟩:=hl.mem hb
  rw[z,he]at ho;cases ho;exact nd vs hd
 refine wpAny_bind (wpAny_frameOf_fun v3 hl hf λh₁ so=>wpAny_bind (wpAny_entryPlaceOf λpl iP=>?_))
 unfold EntryCells.newEntry newFields
 refine wpAny_bind (wpAny_newObj_type ?_ (iP.sizeOk5 _ _ _ _ _))
 have UW:h₁.get? e=some oe:=(so.2.1 e λz=>nf e z rfl).trans he
 have k2:∀b o,h₁.get? b=some o->(h₁.push { cls:=.type "traceback",dict:=none,data:=.fields ([head,.ref L,.none,rawInt L,.none]++(if pl.isEmpty then List.replicate 6 Value.none else pl)).toArray }).get? b=some o:=λb o z=>Heap.get?_push_of_some _ z
 have t2:=Heap.get?_push_size h₁ (o:={ cls:=.type "traceback",dict:=none,data:=.fields ([head,.ref L,.none,rawInt L,.none]++(if pl.isEmpty then List.replicate 6 Value.none else pl)).toArray }) rfl
 have t3:([head,.ref L,.none,rawInt L,.none]++(if pl.isEmpty then List.replicate 6 Value.none else pl)).toArray[3]?=some (rawInt L):=by simp
 generalize ([head,.ref L,.none,rawInt L,.none]++(if pl.isEmpty then List.replicate 6 Value.none else pl)).toArray=ts at k2 t2 t3 ⊢
 generalize h₁.push { cls:=.type "traceback",dict:=none,data:=.fields ts }=h₂ at k2 t2 ⊢
 have W7:=k2 _ _ UW
 have TX:h₁.objs.size≠e:=Nat.ne_of_gt (Heap.lt_size UW)
 refine wpAny_setField W7 hd hz ?_
 have Sf:∀b o,b≠e->h₂.get? b=some o->(h₂.update e (Obj.mapFields (·.setIfInBounds 1 (Value.ref h₁.objs.size)))).get? b=some o:=λb o hb z=>(Heap.get?_update_other _ _ hb.symm).trans z
 have d3:=Obj.data_mapFields hd (·.setIfInBounds 1 (Value.ref h₁.objs.size))
 have he3:=Heap.get?_update_self (Obj.mapFields (·.setIfInBounds 1 (Value.ref h₁.objs.size))) W7 (Obj.isFreed_of_fields d3)
 have sl3:∀b o,b∈lP (env::outer)->s.heap.get? b=some o->∃sl,(h₂.update e (Obj.mapFields (·.setIfInBounds 1 (Value.ref h₁.objs.size)))).get? b=some { o with slots:=sl }:=λb o hb z=>by
  obtain⟨sl,e1⟩:=so.2.2 b o z
  exact⟨sl,Sf _ _ (nf b hb) (k2 _ _ e1)⟩
 refine h _ h₁.objs.size _ ts (Nat.le_of_eq so.1.symm) TX ?_ (Sf _ _ TX t2) rfl t3 (λb o hb hf z=>Sf b o hb (k2 _ _ ((so.2.1 b hf).trans z))) sl3 ?_
 ·rw[he3]
  obtain⟨oc,od,oda,BR⟩:=oe
  dsimp only at hd
  subst hd
  rfl
 ·refine hl.of_keeps λb o hb nd=>?_
  obtain⟨sl,e1⟩:=so.2.2 b o hb
  refine⟨_,Sf b _ (λz=>?_) (k2 _ _ e1),rfl⟩
  rw[z,he]at hb;cases hb;exact nd vs hd
theorem Va{T:Addr}{oe oT:Obj}{vs ts:Array Value}{Q:Unit->Shared->Prop}(he:s.heap.get? e=some oe)(hd:oe.data=.fields vs)(h1:vs[1]?=some (.ref T))(hT:s.heap.get? T=some oT)(hdT:oT.data=.fields ts)(hz:3<ts.size)
  (h:Q () { s with heap:=s.heap.update T (Obj.mapFields (·.setIfInBounds 3 Value.none)) }):wpAny M A (setFlight (.ref e) none) Q E s:=by
 unfold setFlight
 refine wpAny_bind (wpAny_field he hd h1 ?_)
 rw[if_pos (show(Value.ref T != Value.none)=true from by simp)]
 exact wpAny_setField hT hdT hz h
theorem Q7{Q:Unit->Shared->Prop}(v3:A.frames=some (env::outer))(hl:s.heap.FunFrames base (env::outer))(hf:env.frame=some L)(hN:∀b,s.heap.objs.size<=b->N b)(x:PX N s.heap e C dx)
  (h:∀h' ch,(∀b∈ch,N b/\∃o vs,s.heap.get? b=some o/\o.data=.fields vs)->PX N h' e C dx->Lv (lP (env::outer)) ch s.heap h'->Q () { s with heap:=h' }):wpAny M A (noteFrame (.ref e) env) (λ_ s'=>wpAny M A (setFlight (.ref e) none) Q E s') E s:=by
 obtain⟨ne,vs,sl,he,tb⟩:=x
 have fin:∀(ch:List Addr) (yJ:∀b∈ch,N b/\∃o vs,s.heap.get? b=some o/\o.data=.fields vs) (s1:Shared) (h':Heap) (T:Addr) (oT:Obj) (ts:Array Value),s1.heap.objs.size=s.heap.objs.size->s1.heap.objs.size<=T->T≠e->h'.get? e=some ⟨.ref C,dx,.fields (vs.setIfInBounds 1 (.ref T)),sl⟩->1<vs.size->h'.get? T=some oT->oT.data=.fields ts->ts[3]?=some (rawInt L)->
   (∀b o,b∉lP (env::outer)->b∉ch->s.heap.get? b=some o->h'.get? b=some o)->(∀b o,b∈lP (env::outer)->s.heap.get? b=some o->∃sl,h'.get? b=some { o with slots:=sl })->s1={ s with heap:=s1.heap }->
   wpAny M A (setFlight (.ref e) none) Q E { s1 with heap:=h' }:=λch yJ s1 h' T oT ts hs hT TX e1 hz t1 t2 t3 k1 k2 es=>by
  have v1:(vs.setIfInBounds 1 (Value.ref T))[1]?=some (.ref T):=by simp[hz]
  have z3:=(Array.getElem?_eq_some_iff.mp t3).1
  refine Va (s:={ s1 with heap:=h' }) e1 rfl v1 t1 t2 z3 ?_
  have nT:N T:=hN T (by omega)
  have ot:∀b o,b≠T->h'.get? b=some o->(h'.update T (Obj.mapFields (·.setIfInBounds 3 Value.none))).get? b=some o:=λb o hb z=>(Heap.get?_update_other _ _ hb.symm).trans z
  have t4:=Heap.get?_update_self (Obj.mapFields (·.setIfInBounds 3 Value.none)) t1 (Obj.isFreed_of_fields (Obj.data_mapFields t2 _))
  have g:=h (h'.update T (Obj.mapFields (·.setIfInBounds 3 Value.none))) ch yJ ⟨ne,_,sl,ot _ _ TX.symm e1,.inr ⟨T,_,_,nT,TX,v1,t4,Obj.data_mapFields t2 _,by simp[z3]⟩⟩ ⟨λb o hb nb z=>ot b o (λy=>?_) (k1 b o hb nb z),λb o hb z=>?_⟩
  ·rw[es];exact g
  ·have:=Heap.lt_size z
   rw[y]at this
   exact absurd this (Nat.not_lt.mpr (by rw[<-hs];exact hT))
  ·obtain⟨Vw,e2⟩:=k2 b o hb z
   refine⟨Vw,ot b _ (λy=>?_) e2⟩
   obtain⟨_,o',J5,nd⟩:=hl.mem hb
   have:=Heap.lt_size J5
   rw[y]at this
   exact absurd this (Nat.not_lt.mpr (by rw[<-hs];exact hT))
 unfold noteFrame
 simp only[hf]
 rcases tb with h1 | ⟨T,oT,ts,nT,TX,h1,hT,dT,h3⟩
 ·have hz:=(Array.getElem?_eq_some_iff.mp h1).1
  refine wpAny_bind (wpAny_field he rfl h1 ?_)
  rw[if_neg (by decide)]
  exact GL v3 hl hf he rfl hz λh' T oT ts a1 a2 a3 a4 a5 a6 a7 a8 _=>fin [e] (λb hb=>by rw[List.mem_singleton.mp hb];exact⟨ne,_,_,he,rfl⟩) s h' T oT ts rfl a1 a2 a3 hz a4 a5 a6 (λb o hb nb z=>a7 b o (λy=>nb (by rw[y];simp)) hb z) a8 rfl
 ·have hz:=(Array.getElem?_eq_some_iff.mp h1).1
  refine wpAny_bind (wpAny_field he rfl h1 ?_)
  rw[if_pos (show(Value.ref T != Value.none)=true by simp)]
  refine wpAny_bind (wpAny_field hT dT h3 ?_)
  rw[if_neg (show ¬((Value.none==rawInt L)=true) by simp[rawInt])]
  refine wpAny_bind (wpAny_setField hT dT (Array.getElem?_eq_some_iff.mp h3).1 ?_)
  have ot:∀b o,b≠T->s.heap.get? b=some o->(s.heap.update T (Obj.mapFields (·.setIfInBounds 3 Value.none))).get? b=some o:=λb o hb z=>(Heap.get?_update_other _ _ hb.symm).trans z
  have nfT:∀b o,s.heap.get? b=some o->(∀vs,o.data≠.fields vs)->b≠T:=λb o z nd y=>by rw[y,hT]at z;cases z;exact nd ts dT
  have Cq:(s.heap.update T (Obj.mapFields (·.setIfInBounds 3 Value.none))).FunFrames base (env::outer):=hl.of_keeps λb o z nd=>⟨o,ot b o (nfT b o z nd) z,rfl⟩
  have sz:(s.heap.update T (Obj.mapFields (·.setIfInBounds 3 Value.none))).objs.size=s.heap.objs.size:=by simp
  have W7:=ot _ _ TX.symm he
  generalize s.heap.update T (Obj.mapFields (·.setIfInBounds 3 Value.none))=hq at ot Cq sz W7 ⊢
  refine GL (s:={ s with heap:=hq }) v3 Cq hf W7 rfl hz λh' T' oT' ts' a1 a2 a3 a4 a5 a6 a7 a8 _=>fin [e,T] (λb hb=>?_) { s with heap:=hq } h' T' oT' ts' sz a1 a2 a3 hz a4 a5 a6 (λb o hb nb z=>a7 b o (λy=>nb (by rw[y];simp)) hb (ot b o (λy=>nb (by rw[y];simp)) z)) (λb o hb z=>a8 b o hb (ot b o ?_ z)) rfl
  ·have:b=e\/b=T:=by simpa using hb
   rcases this with rfl | rfl
   ·exact⟨ne,_,_,he,rfl⟩
   ·exact⟨nT,_,_,hT,dT⟩
  ·obtain⟨_,o',J5,nd⟩:=hl.mem hb
   exact nfT b o' J5 nd
theorem GK{Q:Unit->Shared->Prop}(v3:A.frames=some (env::outer))(hl:s.heap.FunFrames base (env::outer))(hf:env.frame=some L)(hN:∀b,s.heap.objs.size<=b->N b)(x:PX N s.heap e C dx)
  (h:∀h' ch,(∀b∈ch,N b/\∃o vs,s.heap.get? b=some o/\o.data=.fields vs)->PX N h' e C dx->Lv (lP (env::outer)) ch s.heap h'->Q () { s with heap:=h' }):wpAny M A (leaving env (.ref e)) Q E s:=wpAny_bind (Q7 v3 hl hf hN x h)
end
structure XC(K:Frag)(C:Addr):Prop where
 is:qM K C=true
 hd:PySem.W.hasDictIn K C=true
 sa:PySem.W.findIn K (.ref C) "__setattr__" = some (some (.builtin "object.__setattr__"))
 ga:PySem.W.findIn K (.ref C) "__getattribute__" = some (some (.builtin "BaseException.__getattribute__"))
 gn:PySem.W.findIn K (.ref C) "__getattr__" = some none
 ca:PySem.W.findIn K (.ref C) "__class__" = some (some (.builtin "object.__class__"))
 cn:PySem.W.specialIn K (.builtin "object.__class__") "__get__" = some (some (.builtin "getset_descriptor.__get__"))
 ct:PySem.W.takesIn K (.builtin "object.__class__")=some true
 cm:PySem.W.mroIn K C (.type "object")=some true
section
variable {prog:Program}{w:World}{A:Around}{E:Value->Shared->Prop}{s:Shared}{K:Frag}{C e:Addr}{oe:Obj}{od:Option Obj}
end
def Bb(P:Program)(w:World):Dx:=λouter H s E x s'=>∃e C dx H',x=.ref e/\s'.os=s.os/\AllBare s'.gens/\Un (lP outer) [] H H' s.heap s'.heap/\fP P w H' s'.heap/\PX (λb=>s.heap.objs.size<=b/\H' b=none) s'.heap e C dx/\E (.ref C) dx H'
def XN(X:Cx)(pins:List (Addr×Obj))(H:Hp)(b:Addr):Prop:=X.s₀.heap.objs.size<=b/\H b=none/\b≠X.env.locals/\(∀x c,X.env.cells.lookup x=some c->c≠b)/\∀p∈X.pn++pins,p.1≠b
theorem XN.new{X:Cx}{pins:List (Addr×Obj)}{σ:St}{H H':Hp}{s:Shared}(I:Inv X pins σ H s){b:Addr}(hb:s.heap.objs.size<=b)(hn:H' b=none):XN X pins H' b:=by
 have nb:∀{c:Addr} {o:Obj},s.heap.get? c=some o->c≠b:=λz y=>absurd (Heap.lt_size z) (by rw[y];exact Nat.not_lt.mpr hb)
 refine⟨Nat.le_trans I.sz hb,hn,λy=>?_,λx c e=>?_,λp hp=>nb (I.pin p hp).1⟩
 ·obtain⟨m,⟨o,_,_,ho,_⟩,_⟩:=I.loc
  exact nb ho y.symm
 ·obtain⟨v,o,ho,_⟩:=I.cell x c e
  exact nb ho
def lU(X:Cx)(EH:St->XK):Prop:=∀(pins:List (Addr×Obj)) (σ:St) (H:Hp) (s:Shared) (e C:Addr) (dx:Option Addr),Inv X pins σ H s->PX (XN X pins H) s.heap e C dx->EH σ (.ref C) dx H->X.xe (.ref e) s
theorem PX.mono{N N':Addr->Prop}{h:Heap}{e C:Addr}{dx:Option Addr}(k:∀b,N b->N' b)(x:PX N h e C dx):PX N' h e C dx:=by
 obtain⟨n,vs,sl,he,tb⟩:=x
 refine⟨k _ n,vs,sl,he,tb.imp id ?_⟩
 rintro⟨T,oT,ts,nT,r⟩
 exact⟨T,oT,ts,k _ nT,r⟩
theorem lU.pass{X:Cx}{EH:St->XK}(L:lU X EH){pins:List (Addr×Obj)}{σ:St}{H:Hp}{s s':Shared}{x:Value}(I:Inv X pins σ H s)(h:Bb X.prog X.w X.stack H s (EH σ) x s'):X.xe x s':=by
 obtain⟨e,C,dx,H',rfl,os,bare,un,aY,xa,q⟩:=h
 have I':Inv X pins σ H' s':=I.call' os un aY bare (λb z=>absurd z (by simp))
 exact L pins σ H' s' e C dx I' (xa.mono λb hb=>.new I hb.1 hb.2) q
section
variable {P:Program}{w:World}{K:Frag}{mg:Str->Option Value}{base:Heap}
theorem JH{N:List Str}{qual:Str}{scope:Scope}{f:Addr}{cd:Value}{A:Around}{outer:List Env}{s:Shared}{H:Hp}{E:XK}:lU (eZ (Bb P w) P w K mg base N qual scope f cd A outer s H E) (λ_=>E):=by
 intro pins σ H1 s1 e C dx I xa hE
 have hsz:s.heap.objs.size<=s1.heap.objs.size:=I.sz
 refine GK (L:=s.heap.objs.size) (N:=λb=>s.heap.objs.size<=b/\H1 b=none) (base:=base) I.ok.frames I.stack rfl (λb hb=>⟨Nat.le_trans hsz hb,I.aY.fresh hb⟩) (xa.mono λb hb=>⟨hb.1,hb.2.1⟩) λh' ch yJ xa' lv=>?_
 have nn:∀b o,s.heap.get? b=some o->b∉ch:=λb o z y=>absurd (Heap.lt_size z) (Nat.not_lt.mpr (yJ b y).1.1)
 have nf:∀b o,s.heap.get? b=some o->b∉lP outer->b∉lP (envOfC qual scope s.heap.objs.size f cd::outer):=λb o z hb y=>by
  rcases List.mem_cons.mp (show b∈s.heap.objs.size::lP outer from y) with y | y
  ·have:=Heap.lt_size z
   rw[y]at this
   exact Nat.lt_irrefl _ this
  ·exact hb y
 have sub:∀b,b∈lP outer->b∈lP (envOfC qual scope s.heap.objs.size f cd::outer):=λb hb=>List.mem_cons_of_mem (a:=b) s.heap.objs.size hb
 have un:Un (lP outer) [] H H1 s.heap s1.heap:=I.base
 refine⟨e,C,dx,H1,rfl,I.os,I.bare,⟨λb o z n hb hx=>lv.keep b o (nf b o z hb) (nn b o z) (un.keep b o z n hb hx),λb o z n hb hx=>?_,un.free,λb o z hx=>?_,un.tups,un.frzs,un.tbls⟩,λa u z=>?_,xa',hE⟩
 ·obtain⟨sl,z1⟩:=un.slot b o z n hb hx
  obtain⟨Ed,z2⟩:=lv.slot b _ (sub b hb) z1
  exact⟨Ed,z2⟩
 ·obtain⟨o',z1⟩:=un.there b o z hx
  by_cases hb:b∈lP (envOfC qual scope s.heap.objs.size f cd::outer)
  ·obtain⟨Ed,z2⟩:=lv.slot b _ hb z1
   exact⟨_,z2⟩
  ·exact⟨o',lv.keep b o' hb (nn b o z) z1⟩
 ·refine(I.aY a u z).stay (λb v hb y=>?_) (λ_ q=>q) λ_ _ q=>q
  have hn:¬H1 b=none:=λy=>by
   rcases hb with rfl | hb
   ·rw[z]at y;cases y
   ·rw[hb]at y;cases y
  exact lv.keep b v (λy=>hn (I.vk b y)) (λy=>hn (yJ b y).1.2) y
theorem gZ.okE{x qual:Str}{st:Stmt}{f:Addr}{fd:FuncData}{N ps:List Str}{k:Nat}{sp:Sp}(F:gZ K x qual st f fd)(S:aO N ps (ag st))(len:∀vs H Q E,sp vs H Q E->vs.length=ps.length)
  (eG:∀(cB:Value) (A:Around) (outer:List Env) (s:Shared) (H:Hp) (vs:List V) (Q:VK) (E:XK),bW k (A.deeper (envOfC qual (ag st) s.heap.objs.size f cB))->sp vs H Q E->
   HC (eZ (Bb P w) P w K mg base N qual (ag st) f cB A outer s H E) N (ag st)->(∀x,(eZ (Bb P w) P w K mg base N qual (ag st) f cB A outer s H E).fn x=true)->
   lU (eZ (Bb P w) P w K mg base N qual (ag st) f cB A outer s H E) (λ_=>E)->PassesOwn (model P w) (eZ (Bb P w) P w K mg base N qual (ag st) f cB A outer s H E).A (eZ (Bb P w) P w K mg base N qual (ag st) f cB A outer s H E).env (eZ (Bb P w) P w K mg base N qual (ag st) f cB A outer s H E).xe->
   ∃t,Dn (eZ (Bb P w) P w K mg base N qual (ag st) f cB A outer s H E) (aH st) t/\t { nx:=λ_ H'=>Q .non H',rt:=Q } (start N vs) H):bG P w K mg base (Bb P w) (k+1) f fd ps sp:=by
 obtain⟨oc,od,kV,doc,pm,an,cB,ct,BR,rfl,lk,tK⟩:=F.ex
 refine Kq lk tK S len λA outer s H vs Q E hr yH=>?_
 obtain⟨t,h,q⟩:=eG cB A outer s H vs Q E hr yH ⟨rfl,rfl⟩ (λ_=>rfl) JH PassesOwn.leaving
 exact⟨t,h.to,q⟩
end
section
variable {X:Cx}{k:Nat}{f C:Addr}{fd:FuncData}{ps:List Str}{sp:Sp}{EH:St->XK}{x:Str}{p pos:Pos}{e:Expr}{es:List Expr}{t:TA}
def G'(sp:Sp)(EH:St->XK)(t:TA):TE:=λσ H Q=>t σ H λvs H1=>sp vs H1 Q (EH σ)
end
section
variable {X:Cx}{k:Nat}{fI C:Addr}{fd:FuncData}{ps:List Str}{sp:Sp}{EH:St->XK}{x:Str}{np cG pos:Pos}{a:Expr}{t:TA}
def Bd(C:Addr)(t:TA)(EH:St->XK):TS:=λ_ σ H=>t σ H λvs H1=>vs.length<=sizeLine/\EH σ (.ref C) none H1
def gU(e C:Addr)(dx:Option Addr)(t:Addr):Heap->Prop:=λh=>h.get? e=some (Q6 C dx t)
theorem vb{P:Program}{w:World}{H:Hp}{h:Heap}{e C t:Addr}{dx:Option Addr}(z:h.get? e=some (Q6 C dx t)):cI P w H h e (.ext (gU e C dx t)):=⟨z,⟨_,z⟩,λh1 h2 a b=>b _ a⟩
def vn(C:Addr)(fld:Str):Sp:=λvs H Q _=>∃e v t,vs=[.ref e,v]/\H e=some (.ext (gU e C none t))/\∀dx t',H dx=none->dx≠e->Q .non (upd (upd H e (.ext (gU e C (some dx) t'))) dx (.xd [(fld,v)]))
def FJ(H:Hp)(e:Addr):Hp:=λb=>if b=e then none else H b
theorem pE{H:Hp}{e:Addr}:FJ H e e=none:=if_pos rfl
theorem ic{H:Hp}{e b:Addr}(h:b≠e):FJ H e b=H b:=if_neg h
theorem lj{H:Hp}{e b:Addr}(h:H b=none):FJ H e b=none:=by
 by_cases hb:b=e
 ·rw[hb];exact pE
 ·rw[ic hb];exact h
theorem Inv.forget{pins:List (Addr×Obj)}{σ:St}{H:Hp}{s:Shared}{e:Addr}{φ:Heap->Prop}(I:Inv X pins σ H s)(he:H e=some (.ext φ)):Inv X pins σ (FJ H e) s:=by
 have ne:∀{b:Addr} {u:HO},H b=some u->(HO.ext φ≠u)->b≠e:=λz n=>(aW he z n).symm
 have ok:fP X.prog X.w (FJ H e) s.heap:=λb u z=>by
  by_cases hb:b=e
  ·rw[hb,pE]at z;cases z
  ·rw[ic hb]at z
   refine(I.aY b u z).stay (λ_ _ _ q=>q) (λc q=>?_) λc xs q=>?_
   ·rw[ic (ne q (by intro z;cases z))];exact q
   ·rw[ic (ne q (by intro z;cases z))];exact q
 refine⟨I.ok,I.os,I.bare,⟨I.base.keep,I.base.slot,λb ob z n hx=>lj (I.base.free b ob z n hx),I.base.there,λb xs z=>?_,λb ob u z=>?_,λb ps z=>?_⟩,I.loc,I.cell,lj I.free,λx c z=>lj (I.iR x c z),λp hp=>?_,ok,I.len⟩
 ·have e1:=I.base.tups b xs z
  rw[ic (ne e1 (by intro z;cases z))];exact e1
 ·have e1:=I.base.frzs b ob u z
  rw[ic (ne e1 (by intro z;cases z))];exact e1
 ·obtain⟨m,e1⟩:=I.base.tbls b ps z
  exact⟨m,by rw[ic (ne e1 (by intro z;cases z))];exact e1⟩
 ·obtain⟨p1,p2,p3⟩:=I.pin p hp
  exact⟨p1,lj p2,p3⟩
def qz(C:Addr)(fld:Str)(t:TE)(EH:St->XK):TS:=λ_ σ H=>t σ H λv H1=>∀dx,H1 dx=none->EH σ (.ref C) (some dx) (upd H1 dx (.xd [(fld,v)]))
theorem El{fld:Str}{te:TE}(c:XC X.K C)(hi:PySem.W.findIn X.K (.ref C) "__init__" = some (some (.ref fI)))(hf:PySem.W.typeIn X.K (.ref fI)=some (.type "function"))(hk:PySem.W.keepIn X.K (.ref C)=true)
  (F:bG X.prog X.w X.K X.mg X.base eI k fI fd ps (vn C fld)) (hb:Binds X.K fd ps []) (hr:bW (k+1) X.A) (hg:Gl X x) (hm:X.mg x=some (.ref C)) (hc:X.calm=true) (L:lU X EH) (ha:PE X a te)
  (pz:(x==("__debug__" : Str))=false:=by decide) (he:starEach [a] X.env=(false,eval a X.env)::starEach [] X.env:=by rfl) (iP:(backTo cG (starEach [] X.env)).any (·.1)=false:=by rfl) :
  PS X (.Raise (some (.Call (.Name x np) [a] [] cG)) none pos) (qz C fld te EH):=by
 intro pins s σ H D I h
 rw[arm_exec_Raise]
 refine wpAny_bind (wpAny_standAt (Q5 c.is (I.ok.hd hc) ?_))
 refine wpAny_bind (wpAny_Call_Name_kw (lh I hg hm ?_ pz))
 refine PySem.W.callWith_K (h₀:=X.base) I.ok.mod.S6 hk (cw (qE ha zf he cG pins s σ H (λvs H1=>match vs with | [v]=>(∀dx,H1 dx=none->EH σ (.ref C) (some dx) (upd H1 dx (.xd [(fld,v)]))) | _=>False) I h) λus s1 ⟨vs,H1,I1,r,q⟩=>⟨I1.jT,?_⟩) he iP
 match vs,q,r with
 | [v],q,r=>
  have ul:us.length<=sizeLine:=by rw[<-r.length];show 1<=sizeLine;decide
  refine KY I1.jT c.is hi hf (λh' mk=>?_) ul
  obtain⟨t,e1,_,_⟩:=mk.there
  have fe:H1 (s1.heap.objs.size+1)=none:=I1.aY.fresh (Nat.le_succ _)
  have I2:=I1.laid (a:=s1.heap.objs.size+1) (o:=.ext (gU (s1.heap.objs.size+1) C none t)) (t':=s1.toks) mk.keeps (Nat.le_succ _) (vb e1)
  have fe2:∀H':Hp,H' (s1.heap.objs.size+1)=none->XN X pins H' (s1.heap.objs.size+1):=λH' z=>.new I1 (Nat.le_succ _) z
  generalize s1.heap.objs.size+1=e at e1 fe I2 fe2
  have hq:vn C fld [.ref e,v] (upd H1 e (.ext (gU e C none t))) (λu H2=>u=.non/\∃dx t',H1 dx=none/\dx≠e/\H2=upd (upd (upd H1 e (.ext (gU e C none t))) e (.ext (gU e C (some dx) t'))) dx (.xd [(fld,v)])) E0:=⟨e,v,t,rfl,ai,λdx t' hd qH=>⟨rfl,dx,t',by rwa [au qH]at hd,qH,rfl⟩⟩
  have r2:Vals [V.ref e,v] (Value.ref e::us):=.cons rfl r
  have hl:(Value.ref e::us).length=ps.length:=by rw[<-r2.length];exact F.len _ _ _ _ hq
  have b:=hb _ (Value.ref e::us) I2.jT (by rw[List.append_nil];exact hl)
  rw[List.append_nil]at b
  refine wpAny_call (codeAny_mono (F.run _ X.stack _ _ ⟨Value.ref e::us,[]⟩ (Value.ref e::us) _ _ E0 (hr.make C us []) (I2.FG.make C us []) b r2 hq) λr s' Fp=>?_)
  cases r with
  | error e=>exact False.elim Fp
  | ok fl=>
   cases fl with
   | ret u=>
    obtain⟨v',H3,I3,rv,rfl,dx,t',zZ,qH,rfl⟩:=I2.after Fp
    have e3:upd (upd (upd H1 e (.ext (gU e C none t))) e (.ext (gU e C (some dx) t'))) dx (.xd [(fld,v)]) e=some (.ext (gU e C (some dx) t')):=by rw[au qH.symm,ai]
    have o3:gU e C (some dx) t' s'.heap:=(I3.aY e _ e3).1
    have I4:=Inv.forget I3 e3
    have eh:FJ (upd (upd (upd H1 e (.ext (gU e C none t))) e (.ext (gU e C (some dx) t'))) dx (.xd [(fld,v)])) e=upd H1 dx (.xd [(fld,v)]):=by
     funext b
     by_cases hb:b=e
     ·rw[hb,pE,au qH.symm,fe]
     ·rw[ic hb]
      by_cases hd:b=dx
      ·rw[hd,ai,ai]
      ·rw[au hd,au hd,au hb,au hb]
    rw[eh]at I4
    refine⟨rv,wpAny_bind (wpAny_standAt (wpAny_pure ⟨e,some dx,t',rfl,I4.jT,o3,L pins σ _ _ e C (some dx) I4 ⟨fe2 _ (by rw[au qH.symm];exact fe),_,_,o3,.inl rfl⟩ (q dx zZ)⟩))⟩
   | _=>exact False.elim Fp
end
section
variable {X:Cx}{B:Addr}{x:Str}{np cG apos pos pos':Pos}{a b o value:Expr}{t:TA}{ta tv:TE}{fld:Str}
def Bh(K:Frag)(t:TA):TE:=λσ H Q=>t σ H λvs H1=>∃e C t0 v,vs=[.ref e,v]/\H1 e=some (.ext (gU e C none t0))/\XC K C/\∀t',Q .non (upd H1 e (.ext (gU e C none t')))
theorem Px{pins:List (Addr×Obj)}{σ:St}{H1:Hp}{s1:Shared}{us:List Value}{vs:List V}{Q:VK}{A:Around}{E:Value->Shared->Prop}(I1:Inv X pins σ H1 s1)(r:Vals vs us)
  (h:∃e C t0 v,vs=[.ref e,v]/\H1 e=some (.ext (gU e C none t0))/\XC X.K C/\∀t',Q .non (upd H1 e (.ext (gU e C none t')))):wpAny (model X.prog X.w) A (call (.builtin "ValueError.__init__") us) (EP X pins σ Q) E s1:=by
 obtain⟨e,C,t0,v,rfl,he,c,q⟩:=h
 obtain⟨u1,u2,rfl,r1,r2⟩:=r.two
 obtain rfl:u1=Value.ref e:=r1
 have o1:s1.heap.get? e=some (Q6 C none t0):=(I1.aY e _ he).1
 have e1:(s1.heap.push { cls:=.type "tuple",data:=.seq [u2].toArray }).get? e=some (Q6 C none t0):=Heap.get?_push_of_some _ o1
 have e2:((s1.heap.push { cls:=.type "tuple",data:=.seq [u2].toArray }).update e (Obj.mapFields (·.setIfInBounds 0 (Value.ref s1.heap.objs.size)))).get? e=some (Q6 C none s1.heap.objs.size):=(Heap.get?_update_self _ e1 rfl).trans rfl
 have k2:∀b ob,b≠e->s1.heap.get? b=some ob->((s1.heap.push { cls:=.type "tuple",data:=.seq [u2].toArray }).update e (Obj.mapFields (·.setIfInBounds 0 (Value.ref s1.heap.objs.size)))).get? b=some ob:=λb ob hb z=>(Heap.get?_update_other _ _ hb.symm).trans (Heap.get?_push_of_some _ z)
 refine Ga I1.jT c.is o1 ?_ (show 1<=sizeLine by decide)
 generalize ((s1.heap.push { cls:=.type "tuple",data:=.seq [u2].toArray }).update e (Obj.mapFields (·.setIfInBounds 0 (Value.ref s1.heap.objs.size))))=h2 at e2 k2 ⊢
 exact⟨.non,_,I1.write (x:=e) (e:=e) (o:=.ext (gU e C none s1.heap.objs.size)) (t':=s1.toks) (by rw[he];trivial) (.inl rfl) (λb ob hb z=>k2 b ob hb z) ⟨_,e2⟩ (vb e2),rfl,q _⟩
theorem N3{pl:Sem Bool}(hr:PySem.W.readsIn X.K B (.type "type")=true)(hf:PySem.W.findCls X.K (.ref B) (.type "type") "__init__" = some (.val (.builtin "ValueError.__init__")))
  (hs:PySem.W.specialIn X.K (.ref B) "__getattribute__" = some (some (.builtin "type.__getattribute__"))) (hg:Gl X x) (hm:X.mg x=some (.ref B)) (ha:PA X [a,b] t)
  (pz:(x==("__debug__" : Str))=false:=by decide) (Fo:starEach [a,b] X.env=(false,eval a X.env)::starEach [b] X.env:=by rfl) (iP:(backTo cG (starEach [b] X.env)).any (·.1)=false:=by rfl)
  (ht:eval (.Call (.Attribute (.Name x np) "__init__" apos) [a,b] [] cG) X.env=(do
   let ov <-eval (.Name x np) X.env
   standAt apos.atName
   let (f,first) <-holding [ov] (getMethod ov "__init__" pl)
   callWith cG f first (backTo cG (starEach [a,b] X.env)) (backToKw cG (keywordEach [] X.env))):=by rfl) :
  PE X (.Call (.Attribute (.Name x np) "__init__" apos) [a,b] [] cG) (Bh X.K t):=by
 intro pins s σ H Q I h
 refine PySem.W.methodCall_KW (pl:=pl) (lh I hg hm ?_ pz) ht
 refine PySem.W.method_cls I.jT hs (PySem.W.cls_value I.jT hr hf rfl ?_)
 have I0:Inv X pins σ H { s with toks:=s.toks+1 }:=I.tok _
 show wpAny _ _ (callWith cG (.builtin "ValueError.__init__") [] (backTo cG (starEach [a,b] X.env)) []) _ _ _
 exact PyProof.Rows.callWith_builtin1 (cw (ha cG pins _ σ H _ I0 h) λus s1 ⟨vs,H1,I1,r,q⟩=>Px I1 r q) Fo iP
def Bp(K:Frag)(ta tv:TE)(fld:Str):TS:=λD σ H=>tv σ H λy H1=>ta σ H1 λx H2=>∃e C t,x=.ref e/\H2 e=some (.ext (gU e C none t))/\XC K C/\PySem.W.takerIn K C fld=some none/\
 ∀dx,H2 dx=none->dx≠e->D.nx σ (upd (upd H2 e (.ext (gU e C (some dx) t))) dx (.xd [(fld,y)]))
theorem Nw(ha:PE X o ta)(hv:PE X value tv)(hs:swapsWith value (some (.Attribute o fld pos')) pos.line X.env=pure false):PS X (.Assign [.Attribute o fld pos'] value pos) (Bp X.K ta tv fld):=by
 intro pins s σ H D I h
 refine plainObj_wpAny_Assign_Attribute (cw (hv pins s σ H _ I h) λu s1 ⟨y,H1,I1,ry,q⟩=>cw (ha pins s1 σ H1 _ I1 q) λov s2 ⟨x,H2,I2,rx,e,C,t,ex,he,c,tk,q2⟩=>?_) hs
 subst ex
 obtain rfl:ov=Value.ref e:=rx
 have o2:s2.heap.get? e=some (Q6 C none t):=(I2.aY e _ he).1
 refine Z6 I2.jT c.is o2 rfl rfl rfl c.sa tk λh' Vd e3 n3 k3=>?_
 have hd:H2 s2.heap.objs.size=none:=I2.aY.fresh (Nat.le_refl _)
 have hde:s2.heap.objs.size≠e:=Nat.ne_of_gt (Heap.lt_size o2)
 have hdn:s2.heap.get? s2.heap.objs.size=none:=Heap.get?_none_of_le (Nat.le_refl _)
 generalize s2.heap.objs.size=dx at e3 n3 hd hde hdn
 have U:∀{b:Addr},b≠e->b≠dx->upd (upd H2 e (.ext (gU e C (some dx) t))) dx (.xd [(fld,y)]) b=H2 b:=λh1 h2=>by rw[au h2,au h1]
 have ne:∀{b:Addr} {z:HO},H2 b=some z->(HO.ext (gU e C none t)≠z)->b≠e:=λz n=>(aW he z n).symm
 have nd:∀{b:Addr} {z:HO},H2 b=some z->b≠dx:=λz y=>by rw[y,hd]at z;cases z
 have nb:∀{b:Addr} {z:Obj},s2.heap.get? b=some z->b≠dx:=λz y=>by rw[y,hdn]at z;cases z
 have nn:∀{b:Addr},H2 b=none->b≠e:=λz y=>by rw[y,he]at z;cases z
 refine⟨σ,_,I2.un (H':=upd (upd H2 e (.ext (gU e C (some dx) t))) dx (.xd [(fld,y)])) (t':=Vd) ⟨λb ob z n _ _=>k3 b ob (nn n) z,λb ob z n _ _=>⟨ob.slots,k3 b ob (nn n) z⟩,λb ob z n _=>by rw[U (nn n) (nb z)];exact n,λb ob z _=>?_,λb xs z=>?_,λb ob z' z=>?_,λb ps z=>⟨#[],?_⟩⟩ λb z hz=>?_,q2 dx hd hde⟩
 ·by_cases hb:b=e
  ·rw[hb];exact⟨_,e3⟩
  ·exact⟨ob,k3 b ob hb z⟩
 ·rw[U (ne z (by intro z;cases z)) (nd z)];exact z
 ·rw[U (ne z (by intro z;cases z)) (nd z)];exact z
 ·rw[U (ne z (by intro z;cases z)) (nd z),z];simp
 ·by_cases hb:b=dx
  ·rw[hb,ai]at hz
   cases hz
   rw[hb]
   refine⟨_,n3,λf=>?_⟩
   by_cases hf:f=fld
   ·rw[hf,if_pos rfl]
    simp only[List.lookup,beq_self_eq_true]
    exact ry
   ·rw[if_neg hf]
    have:(f==fld)=false:=beq_eq_false_iff_ne.mpr hf
    simp only[List.lookup,this]
    trivial
  ·rw[au hb]at hz
   by_cases Qz:b=e
   ·rw[Qz,ai]at hz
    cases hz
    rw[Qz]
    exact vb e3
   ·rw[au Qz]at hz
    refine(I2.aY b z hz).stay (λc v hc y=>k3 c v ?_ y) (λc y=>?_) λc xs y=>?_
    ·rcases hc with rfl | hc
     ·exact Qz
     ·exact ne hc (by intro z;cases z)
    ·rw[U (ne y (by intro z;cases z)) (nd y)];exact y
    ·rw[U (ne y (by intro z;cases z)) (nd y)];exact y
end
def Yo(e C:Addr)(dx:Option Addr):Heap->Prop:=λh=>∃vs sl,h.get? e=some ⟨.ref C,dx,.fields vs,sl⟩
section
variable {X:Cx}{pins:List (Addr×Obj)}{σ:St}{H:Hp}{s:Shared}{e C:Addr}{dx:Option Addr}
end
section
variable {X:Cx}{pins Ir:List (Addr×Obj)}{σ:St}{H:Hp}{s:Shared}{e:Addr}{xe:Value->Shared->Prop}
end
def Ends.Z9(D:Ends)(i:Nat):Ends:={ nx:=λσ H=>D.nx (σ.set i none) H,rt:=D.rt,bk:=λσ H=>D.bk (σ.set i none) H,ct:=λσ H=>D.ct (σ.set i none) H }
def Vk(K:Frag)(i:Nat)(B:Addr)(tb:(St->XK)->TS)(ts:TS):TS:=λD σ H=>∃EH:St->XK,tb EH D σ H/\∀σ' C dx H',EH σ' (.ref C) dx H'->PySem.W.subIn K (.ref C) (.ref B)=some true/\∀e,H' e=none->ts (D.Z9 i) (σ'.set i (some (.ref e))) (upd H' e (.ext (Yo e C dx)))
section
variable {X:Cx}{B:Addr}{x n:Str}{np aCb pos:Pos}{body suite:List Stmt}{b₀:Stmt}{tb:(St->XK)->TS}{ts:TS}{i:Nat}
end
def Lc(H:Hp)(dx:Option Addr):Prop:=∀d,dx=some d->∃fs,H d=some (.xd fs)
section
variable {X:Cx}{pins:List (Addr×Obj)}{σ:St}{H:Hp}{s:Shared}{e C:Addr}{dx:Option Addr}
def Ig(K:Frag):List V->Hp->VK->Prop:=λvs H Q=>∃e T,vs=[.ref e,.ty T]/\∃C dx,H e=some (.ext (Yo e C dx))/\Lc H dx/\XC K C/\∃b,PySem.W.kitOne K (.ref C) (.type T)=some b/\Q (.bl b) H
def Ih(K:Frag):List V->Hp->VK->Prop:=λvs H Q=>∃e D,vs=[.ref e,.ref D]/\∃C dx,H e=some (.ext (Yo e C dx))/\Lc H dx/\XC K C/\∃b,PySem.W.kitOne K (.ref C) (.ref D)=some b/\Q (.bl b) H
def Ii(K:Frag):List V->Hp->VK->Prop:=λvs H Q=>∃e p,vs=[.ref e,.ref p]/\∃Ds:List Addr,H p=some (.tup (Ds.map V.ref))/\∃C dx,H e=some (.ext (Yo e C dx))/\Lc H dx/\XC K C/\∃b,PySem.W.kitAny K (.ref C) (Ds.map Value.ref)=some b/\Q (.bl b) H
def Qa(K:Frag)(ta:TE)(f:Str):TE:=λσ H Q=>ta σ H λx H1=>∃e,x=.ref e/\∃C dx,H1 e=some (.ext (Yo e C (some dx)))/\XC K C/\PySem.W.findIn K (.ref C) f=some none/\∃fs,H1 dx=some (.xd fs)/\∃v,fs.lookup f=some v/\Q v H1
end
section
variable {X:Cx}{N:List Str}{sc:Scope}
variable {k:Nat}{fI C B:Addr}{fd:FuncData}{ps:List Str}{sp:Sp}{EH:St->XK}{x n fld:Str}{np cG apos aCb pos pos':Pos}{a b o value:Expr}{t:TA}{te ta tv:TE}{body suite:List Stmt}{b₀:Stmt}{tb:(St->XK)->TS}{ts:TS}
theorem yL(c:XC X.K C)(hi:PySem.W.findIn X.K (.ref C) "__init__" = some (some (.ref fI)))(hf:PySem.W.typeIn X.K (.ref fI)=some (.type "function"))(hk:PySem.W.keepIn X.K (.ref C)=true)
  (F:bG X.prog X.w X.K X.mg X.base eI k fI fd ps (vn C fld)) (hb:Binds X.K fd ps []) (hr:bW (k+1) X.A) (hg:Gl X x) (hm:X.mg x=some (.ref C)) (hc:X.calm=true) (L:lU X EH) (ha:ZE X a te)
  (pz:(x==("__debug__" : Str))=false:=by decide) (he:starEach [a] X.env=(false,eval a X.env)::starEach [] X.env:=by rfl) (iP:(backTo cG (starEach [] X.env)).any (·.1)=false:=by rfl) :
  ZS X (.Raise (some (.Call (.Name x np) [a] [] cG)) none pos) (qz C fld te EH):=⟨El c hi hf hk F hb hr hg hm hc L ha.to pz he iP⟩
theorem GJ{pl:Sem Bool}(hr:PySem.W.readsIn X.K B (.type "type")=true)(hf:PySem.W.findCls X.K (.ref B) (.type "type") "__init__" = some (.val (.builtin "ValueError.__init__")))
  (hs:PySem.W.specialIn X.K (.ref B) "__getattribute__" = some (some (.builtin "type.__getattribute__"))) (hg:Gl X x) (hm:X.mg x=some (.ref B)) (ha:ZA X [a,b] t)
  (pz:(x==("__debug__" : Str))=false:=by decide) (Fo:starEach [a,b] X.env=(false,eval a X.env)::starEach [b] X.env:=by rfl) (iP:(backTo cG (starEach [b] X.env)).any (·.1)=false:=by rfl)
  (ht:eval (.Call (.Attribute (.Name x np) "__init__" apos) [a,b] [] cG) X.env=(do
   let ov <-eval (.Name x np) X.env
   standAt apos.atName
   let (f,first) <-holding [ov] (getMethod ov "__init__" pl)
   callWith cG f first (backTo cG (starEach [a,b] X.env)) (backToKw cG (keywordEach [] X.env))):=by rfl) :
  ZE X (.Call (.Attribute (.Name x np) "__init__" apos) [a,b] [] cG) (Bh X.K t):=⟨N3 (pl:=pl) hr hf hs hg hm ha.to pz Fo iP ht⟩
theorem Gz(ha:ZE X o ta)(hv:ZE X value tv)(hs:swapsWith value (some (.Attribute o fld pos')) pos.line X.env=pure false):ZS X (.Assign [.Attribute o fld pos'] value pos) (Bp X.K ta tv fld):=⟨Nw ha.to hv.to hs⟩
end
section
variable {X:Cx}
def Qe(neg:Bool):R2:=λx y H Q=>∃p q,x=.ref p/\y=.ref q/\∃xs ys:List Str,H p=some (.tup (List.map V.str xs))/\H q=some (.tup (List.map V.str ys))/\Q (.bl (if neg then !decide (xs=ys) else decide (xs=ys))) H
end
end L2
end
section
namespace L2
open PySem PySem.Spec PySem.W PyProof.Rows
abbrev cV(o:Obj):HO:=.uQ o (.own 0)
def dQ(C:List (Addr×Obj))(H:Hp):Hp:=λb=>match C.lookup b with | some o=>some (cV o) | none=>H b
def bh(C:List (Addr×Obj))(H:Hp):Hp:=λb=>match C.lookup b with | some _=>none | none=>H b
theorem ik{C:List (Addr×Obj)}{H:Hp}{b:Addr}{o:Obj}(h:C.lookup b=some o):dQ C H b=some (cV o):=by unfold dQ;rw[h]
theorem bI{C:List (Addr×Obj)}{H:Hp}{b:Addr}(h:C.lookup b=none):dQ C H b=H b:=by unfold dQ;rw[h]
theorem iS{C:List (Addr×Obj)}{H:Hp}{b:Addr}{o:Obj}(h:C.lookup b=some o):bh C H b=none:=by unfold bh;rw[h]
theorem aQ{C:List (Addr×Obj)}{H:Hp}{b:Addr}(h:C.lookup b=none):bh C H b=H b:=by unfold bh;rw[h]
def cU(C:List (Addr×Obj))(H:Hp):Prop:=∀b o,C.lookup b=some o->H b=some (cV o)
def cS(C:List (Addr×Obj))(H:Hp):Prop:=∀b o,C.lookup b=some o->H b=none
theorem cU.out{C:List (Addr×Obj)}{H:Hp}(p:cU C H){b:Addr}{u:HO}(e:H b=some u)(n:∀o,u≠cV o):C.lookup b=none:=by
 cases q:C.lookup b with
 | none=>rfl
 | some o=>rw[p b o q]at e;cases e;exact absurd rfl (n o)
theorem cU.Ep{C:List (Addr×Obj)}{H:Hp}(p:cU C H){b:Addr}(e:H b=none):C.lookup b=none:=by
 cases q:C.lookup b with
 | none=>rfl
 | some o=>rw[p b o q]at e;cases e
theorem cS.out{C:List (Addr×Obj)}{H:Hp}(p:cS C H){b:Addr}{u:HO}(e:H b=some u):C.lookup b=none:=by
 cases q:C.lookup b with
 | none=>rfl
 | some o=>rw[p b o q]at e;cases e
theorem cS.added{C:List (Addr×Obj)}{H:Hp}:cU C (dQ C H):=λ_ _ h=>ik h
section
variable {P:Program}{w:World}{H H':Hp}{h h':Heap}{C:List (Addr×Obj)}{fs:List Addr}
theorem _root_.L2.fP.dQ(x:fP P w H h)(p:cS C H)(k:∀b o,C.lookup b=some o->h.get? b=some o):fP P w (dQ C H) h:=λb u e=>by
 cases q:C.lookup b with
 | some o=>rw[ik q]at e;cases e;exact⟨k b o q,o,k b o q⟩
 | none=>
  rw[bI q]at e
  exact(x b u e).stay (λ_ _ _ z=>z) (λc z=>by rw[bI (p.out z)];exact z) λc xs z=>by rw[bI (p.out z)];exact z
theorem _root_.L2.fP.bh(x:fP P w H h)(p:cU C H):fP P w (bh C H) h:=λb u e=>by
 cases q:C.lookup b with
 | some o=>rw[iS q]at e;cases e
 | none=>
  rw[aQ q]at e
  exact(x b u e).stay (λ_ _ _ z=>z) (λc z=>by rw[aQ (p.out z (by intro o n;cases n))];exact z) λc xs z=>by rw[aQ (p.out z (by intro o n;cases n))];exact z
theorem fP.pins(x:fP P w H h)(p:cU C H):∀b o,C.lookup b=some o->h.get? b=some o:=λb o q=>(x b _ (p b o q)).1
theorem Un.CJ(u:Un fs [] (dQ C H) H' h h')(x:fP P w H' h')(p:cS C H)(k:∀b o,C.lookup b=some o->h.get? b=some o):Un fs [] H (bh C H') h h':=by
 have En:cU C H':=λb o q=>u.frzs b o _ (ik q)
 have at':∀b o,C.lookup b=some o->h'.get? b=some o:=x.pins En
 refine⟨λb o e n hb hx=>?_,λb o e n hb hx=>?_,λb o e n hx=>?_,u.there,λb xs e=>?_,λb o v e=>?_,λb ps e=>?_⟩
 ·cases q:C.lookup b with
  | some o'=>have:=k b o' q;rw[e]at this;cases this;exact at' b o q
  | none=>exact u.keep b o e (by rw[bI q];exact n) hb hx
 ·cases q:C.lookup b with
  | some o'=>have:=k b o' q;rw[e]at this;cases this;exact⟨o.slots,at' b o q⟩
  | none=>exact u.slot b o e (by rw[bI q];exact n) hb hx
 ·cases q:C.lookup b with
  | some o'=>exact iS q
  | none=>rw[aQ q];exact u.free b o e (by rw[bI q];exact n) hx
 ·rw[aQ (p.out e)];exact u.tups b xs (by rw[bI (p.out e)];exact e)
 ·rw[aQ (p.out e)];exact u.frzs b o v (by rw[bI (p.out e)];exact e)
 ·obtain⟨m,z⟩:=u.tbls b ps (by rw[bI (p.out e)];exact e)
  exact⟨m,by rw[aQ (p.out e)];exact z⟩
theorem Un.Dm(u:Un fs [] (bh C H) H' h h')(x:fP P w H h)(p:cU C H)(nf:∀b o,C.lookup b=some o->b∉fs):Un fs [] H (dQ C H') h h'/\cS C H'/\∀b o,C.lookup b=some o->h'.get? b=some o:=by
 have k:=x.pins p
 refine⟨⟨λb o e n hb hx=>u.keep b o e (by rw[aQ (p.Ep n)];exact n) hb hx,λb o e n hb hx=>u.slot b o e (by rw[aQ (p.Ep n)];exact n) hb hx,λb o e n hx=>?_,u.there,λb xs e=>?_,λb o v e=>?_,λb ps e=>?_⟩,λb o q=>?_,λb o q=>?_⟩
 ·rw[bI (p.Ep n)];exact u.free b o e (by rw[aQ (p.Ep n)];exact n) hx
 ·have q:=p.out e (by intro o n;cases n)
  rw[bI q];exact u.tups b xs (by rw[aQ q];exact e)
 ·cases q:C.lookup b with
  | some o'=>rw[p b o' q]at e;cases e;exact ik q
  | none=>rw[bI q];exact u.frzs b o v (by rw[aQ q];exact e)
 ·have q:=p.out e (by intro o n;cases n)
  obtain⟨m,z⟩:=u.tbls b ps (by rw[aQ q];exact e)
  exact⟨m,by rw[bI q];exact z⟩
 ·exact u.free b o (k b o q) (iS q) (by simp)
 ·exact u.keep b o (k b o q) (iS q) (nf b o q) (by simp)
end
def lY(P:Program)(w:World)(K:PySem.W.Frag)(mg:Str->Option Value)(base:Heap)(k:Nat)(f:Addr)(sp:Sp):Prop:=
 ∀(A:Around) (outer:List Env) (s:Shared) (H:Hp) (us:List Value) (vs:List V) (Q:VK) (E:XK),bW k A->nk P w K mg base A outer s H->Vals vs us->sp vs H Q E->codeAny (model P w) A (.call (.ref f) ⟨us,[]⟩) (CR eI outer P w H s Q E) s
def QT(P:Program)(w:World)(K:PySem.W.Frag)(mg:Str->Option Value)(base:Heap)(N:List Str)(qual:Str)(scope:Scope)(f:Addr)(cd:Value)(cl:List (Str×Addr))(A:Around)(outer:List Env)(s:Shared)(H:Hp):Cx where
 prog:=P
 w:=w
 K:=K
 mg:=mg
 base:=base
 A:=A.deeper (envX qual scope s.heap.objs.size f cd cl)
 N:=N
 s₀:=s
 H₀:=H
 env:=envX qual scope s.heap.objs.size f cd cl
 outer:=outer
 stack:=envX qual scope s.heap.objs.size f cd cl::outer
 ex:=[]
 calm:=true
 fn:=λ_=>false
 pn:=[]
 xe:=λ_ _=>False
theorem pX{u:Value}{x:Str}:∀{l:List (Str×Value)},(x,u)∈l->(∀v,(x,v)∈l->v=u)->l.lookup x=some u
 | [],h,_=>nomatch h
 | (y,v)::l,h,q=>by
  rw[List.lookup_cons]
  by_cases e:x=y
  ·subst e
   rw[beq_self_eq_true]
   show some v=some u
   rw[q v List.mem_cons_self]
  ·rw[beq_false_of_ne e]
   refine pX ?_ λv hv=>q v (List.mem_cons_of_mem _ hv)
   rcases List.mem_cons.mp h with z | z
   ·cases z;exact absurd rfl e
   ·exact z
theorem zL{ps:List Str}{us:List Value}{i:Nat}{x:Str}{u:Value}(nd:ps.Nodup)(h1:ps[i]?=some x)(h2:us[i]?=some u):(ps.zip us).reverse.lookup x=some u:=by
 have hz:(ps.zip us)[i]?=some (x,u):=by rw[List.getElem?_zip_eq_some];exact⟨h1,h2⟩
 refine pX (List.mem_reverse.mpr (List.mem_of_getElem? hz)) λv hv=>?_
 obtain⟨j,hj⟩:=List.mem_iff_getElem?.mp (List.mem_reverse.mp hv)
 rw[List.getElem?_zip_eq_some]at hj
 have:i=j:=rn nd h1 hj.1
 subst this
 rw[h2]at hj
 exact(Option.some.inj hj.2).symm
def CellsOk(C:List (Addr×Obj))(cl:List (Str×Addr))(fr:List Str)(z6:List V):Prop:=∀(i:Nat) x,fr[i]?=some x->∃c o u v,cl.lookup x=some c/\C.lookup c=some o/\o.data=.cell (some u)/\z6[i]?=some v/\RelV v u
theorem De{P:Program}{w:World}{K:PySem.W.Frag}{mg:Str->Option Value}{base:Heap}{f:Addr}{qual:Str}{scope:Scope}{cl:List (Str×Addr)}{cd:Value}{ps fr:List Str}{C:List (Addr×Obj)}{z6 vs:List V}{us:List Value}{A:Around}{outer:List Env}{s:Shared}{H:Hp}{h₁:Heap}{tk:Tok}
  (kind:scope.kind=.function) (iA:∀x∈scope.names,x.2≠.cell) (nd:(ps++fr).Nodup) (par:∀x∈ps,scope.names.lookup x=some .local) (Xv:∀x∈fr,scope.names.lookup x=some .free)
  (has:∀x,scope.names.lookup x=some .free->x∈fr) (px:∀x c,cl.lookup x=some c->x∈fr) (inj:∀x y c,cl.lookup x=some c->cl.lookup y=some c->x=y)
  (hd:A.handled=none) (e0:nk P w K mg base A outer s H) (r:Vals vs us) (hl:vs.length=ps.length) (hC:cU C H) (Wm:z6.length=fr.length) (Ls:CellsOk C cl fr z6)
  (Lr:h₁.Ns s.heap.objs.size (λx=>(ps.zip us).reverse.lookup x)) (Qu:∀b o,s.heap.get? b=some o->h₁.get? b=some o) :
  Inv (QT P w K mg base (ps++fr) qual scope f cd cl A outer s (bh C H)) [] ((vs++z6).map some) (bh C H) { s with heap:=h₁,toks:=tk }:=by
 have hk:=e0.aY
 have pins:=hk.pins hC
 have Y6:ps.Nodup:=(List.nodup_append.mp nd).1
 have cellAt:∀x c,cl.lookup x=some c->∃o u,C.lookup c=some o/\o.data=.cell (some u)/\s.heap.get? c=some o:=λx c e=>by
  obtain⟨i,hi⟩:=List.mem_iff_getElem?.mp (px x c e)
  obtain⟨c2,o,u,v,h1,h2,h3,_⟩:=Ls i x hi
  rw[e]at h1;cases h1
  exact⟨o,u,h2,h3,pins _ _ h2⟩
 have aCe:fP P w (bh C H) h₁:=(hk.bh hC).kept Qu
 have Lj:∀b:Addr,b∉(QT P w K mg base (ps++fr) qual scope f cd cl A outer s (bh C H)).ex:=λb z=>absurd (show b∈([]:List Addr) from z) (by simp)
 have Wb:∀b,H b=none->bh C H b=none:=λb n=>by rw[aQ (hC.Ep n)];exact n
 refine⟨⟨e0.mod,kind,rfl,rfl,Nat.le_refl _,inj,λy hy=>?_,λy c z _=>absurd (show false=true from z) (by simp),λ_=>hd,Around.frames_deeper e0.frames,.inr ⟨rfl,rfl⟩,λb z=>absurd z (Lj b),λb o e=>⟨(e0.bs b o e).1,Wb b (e0.bs b o e).2⟩,e0.FW,λb _ _=>Lj b,λb z=>absurd z (Lj b),e0.lE,λb hb=>Wb b (e0.Gs b hb)⟩,
  rfl,e0.bare,Un.kept Qu,⟨_,Lr,λi y v h1 h2 h3=>?_⟩,λy c h=>?_,?_,λy c h=>?_,λp hp=>absurd (show p∈([]:List (Addr×Obj)) from hp) (by simp),aCe,?_⟩
 ·have hy:scope.names.lookup y=some .cell\/scope.names.lookup y=some .free:=hy
  rcases hy with hy | hy
  ·exact absurd rfl (iA _ (PySem.mem_of_lookup hy))
  ·obtain⟨i,hi⟩:=List.mem_iff_getElem?.mp (has y hy)
   obtain⟨c,_,_,_,e,_⟩:=Ls i y hi
   exact⟨c,e⟩
 ·have h1:(ps++fr)[i]?=some y:=h1
  rw[List.getElem?_map]at h2
  by_cases hi:i<ps.length
  ·rw[List.getElem?_append_left hi]at h1
   rw[List.getElem?_append_left (by omega)]at h2
   have ha:vs[i]?=some v:=by
    cases e:vs[i]? with
    | none=>rw[e]at h2;cases h2
    | some a=>rw[e]at h2;cases h2;rfl
   obtain⟨u,Ot,rv⟩:=r.get ha
   exact⟨u,rv,.inl ⟨par y (List.mem_of_getElem? h1),zL Y6 h1 Ot⟩⟩
  ·rw[List.getElem?_append_right (by omega)]at h1
   rw[List.getElem?_append_right (by omega),hl]at h2
   obtain⟨c,o,u,v',e1,e2,e3,e4,e5⟩:=Ls _ y h1
   rw[e4]at h2;cases h2
   exact⟨u,e5,.inr ⟨.inr (Xv y (List.mem_of_getElem? h1)),c,e1,o,Qu _ _ (pins _ _ e2),e3⟩⟩
 ·obtain⟨o,u,_,e3,e4⟩:=cellAt y c h
  exact⟨_,o,Qu _ _ e4,e3⟩
 ·exact(hk.bh hC).fresh (Nat.le_refl _)
 ·obtain⟨o,u,e2,_⟩:=cellAt y c h
  exact iS e2
 ·rw[List.length_map,List.length_append,hl,Wm]
  exact List.length_append.symm
theorem Df{P:Program}{w:World}{K:PySem.W.Frag}{mg:Str->Option Value}{base:Heap}{N:List Str}{f:Addr}{qual:Str}{scope:Scope}{cl:List (Str×Addr)}{cd:Value}{C:List (Addr×Obj)}{A:Around}{outer:List Env}{s s':Shared}{H H':Hp}{σ':St}{Q:VK}{v:V}{u:Value}
  (e0:nk P w K mg base A outer s H) (hC:cU C H) (J:Inv (QT P w K mg base N qual scope f cd cl A outer s (bh C H)) [] σ' H' s') (rv:RelV v u) (q:Q v (dQ C H')):CE outer P w H s Q u s':=by
 have nf:∀b o,C.lookup b=some o->b∉lP outer:=λb o q z=>by have:=e0.Gs b z;rw[hC b o q]at this;cases this
 obtain⟨un,po,at'⟩:=Un.Dm (H:=H) (h:=s.heap) J.base e0.aY hC nf
 exact⟨v,dQ C H',J.os,J.bare,un,J.aY.dQ po at',rv,q⟩
theorem Uc{P:Program}{w:World}{K:PySem.W.Frag}{mg:Str->Option Value}{base:Heap}{k:Nat}{f c':Addr}{name qual:Str}{params:Arguments}{body:List Stmt}{scope:Scope}{cl:List (Str×Addr)}{doc pm ctv:Value}{fo oc:Obj}{wL:Array Value}{tq:Tok}
  {ps fr:List Str} {sp:Sp} (O1:fo.data=.func (fnX name qual params body scope cl .none .none doc pm none (.ref c') ctv)) (oP:oc.data=.fields wL) (hq:wL[1]?=some (.str qual tq))
  (kind:scope.kind=.function) (co:scope.isCoroutine=false) (gen:scope.isGenerator=false) (iA:∀x∈scope.names,x.2≠.cell) (nd:(ps++fr).Nodup) (par:∀x∈ps,scope.names.lookup x=some .local) (Xv:∀x∈fr,scope.names.lookup x=some .free)
  (has:∀x,scope.names.lookup x=some .free->x∈fr)
  (px:∀x c,cl.lookup x=some c->x∈fr) (inj:∀x y c,cl.lookup x=some c->cl.lookup y=some c->x=y)
  (yh:∀us:List Value,us.length=ps.length->bindArgs (fnX name qual params body scope cl .none .none doc pm none (.ref c') ctv) ⟨us,[]⟩=pure (ps.zip us))
  (eG:∀vs H Q E,sp vs H Q E->∃C z6,vs.length=ps.length/\H f=some (cV fo)/\H c'=some (cV oc)/\cU C H/\z6.length=fr.length/\CellsOk C cl fr z6/\
   ∀(A:Around) (outer:List Env) (s:Shared),bW k (A.deeper (envX qual scope s.heap.objs.size f (.ref c') cl))->
   HC (QT P w K mg base (ps++fr) qual scope f (.ref c') cl A outer s (bh C H)) (ps++fr) scope->
   ∃t,Dn (QT P w K mg base (ps++fr) qual scope f (.ref c') cl A outer s (bh C H)) body t/\t { nx:=λ_ H'=>Q .non (dQ C H'),rt:=λv H'=>Q v (dQ C H') } ((vs++z6).map some) (bh C H)) :
  lY P w K mg base (k+1) f sp:=by
 intro A outer s H us vs Q E hr e0 r yH
 obtain⟨C,z6,hl,hf,hc,hC,Wm,Ls,eG⟩:=eG _ _ _ _ yH
 have lim:s.heap.NoLimit:=e0.mod.nolimit.keeps λb o e=>(e0.bs b o e).1
 have hk:=e0.aY
 have hu:us.length=ps.length:=by rw[<-r.length];exact hl
 refine codeAny_call_def (body:=body) (binds:=ps.zip us) hr.depth (hk _ _ hf).1 O1 lim ⟨c',oc,wL,tq,rfl,(hk _ _ hc).1,oP,hq⟩ rfl (.of_eq (yh us hu)) iA (λy hy=>par y.1 (List.of_mem_zip (a:=y.1) (b:=y.2) hy).1) (λh₁ Lr Qu=>?_) co gen kind
 obtain⟨t,ht,Fp⟩:=eG A outer s (hr.deeper _) ⟨rfl,rfl⟩
 refine wpAny_mono (ht.to [] _ _ _ _ (De kind iA nd par Xv has px inj hr.hd e0 r hl hC Wm Ls Lr Qu) Fp) (λfl s' hs=>?_) λe s' hs=>False.elim hs
 cases fl with
 | ret u=>
  obtain⟨v,σ',H',J,rv,q⟩:=hs
  exact Df e0 hC J rv q
 | next=>
  obtain⟨σ',H',J,q⟩:=hs
  exact Df (v:=V.non) (u:=Value.none) e0 hC J rfl q
 | brk=>
  obtain⟨_,_,_,q⟩:=hs
  exact False.elim q
 | cont=>
  obtain⟨_,_,_,q⟩:=hs
  exact False.elim q
def Uq(H:Hp)(f:Addr):Prop:=∃fo fd,H f=some (cV fo)/\fo.data=.func fd
theorem Uq.at{P:Program}{w:World}{H:Hp}{h:Heap}{f:Addr}(x:Uq H f)(ok:fP P w H h):FnAt f h:=by
 obtain⟨fo,fd,e,d⟩:=x
 obtain⟨oc,od,dt,sl⟩:=fo
 have d':dt=.func fd:=d
 subst d'
 exact⟨oc,od,fd,sl,(ok f _ e).1⟩
section
variable {X:Cx}{k:Nat}{f C:Addr}{sp:Sp}{E:XK}{x m:Str}{p pos apos:Pos}{e o:Expr}{es:List Expr}{ta:TE}{t:TA}
theorem Bq{pins:List (Addr×Obj)}{σ:St}{H:Hp}{s:Shared}{Q:VK}{us:List Value}{vs:List V}(F:lY X.prog X.w X.K X.mg X.base k f sp)(hr:bW k X.A)(I:Inv X pins σ H s)(r:Vals vs us)(h:sp vs H Q E) :
  wpAny (model X.prog X.w) X.A (call (.ref f) us) (EP X pins σ Q) X.xe s:=by
 refine wpAny_call (codeAny_mono (F X.A X.stack s H us vs Q E hr I.FG r h) λr s' hq=>?_)
 cases r with
 | error e=>exact False.elim hq
 | ok fl=>
  cases fl with
  | ret u=>exact I.after hq
  | next=>exact False.elim hq
  | brk=>exact False.elim hq
  | cont=>exact False.elim hq
def vh(P:Program)(w:World)(K:PySem.W.Frag)(mg:Str->Option Value)(base:Heap)(k:Nat)(tv:TE)(t:TA):TE:=λσ H Q=>tv σ H λx H1=>∃f,x=.ref f/\Uq H1 f/\t σ H1 λvs H2=>Uq H2 f/\∃sp,lY P w K mg base k f sp/\sp vs H2 Q E0
theorem Je{tv:TE}(hr:bW k X.A)(hv:PE X (.Name x p) tv)(ha:PA X (e::es) t)(he:starEach (e::es) X.env=(false,eval e X.env)::starEach es X.env:=by rfl)(iP:(backTo pos (starEach es X.env)).any (·.1)=false:=by rfl) :
  PE X (.Call (.Name x p) (e::es) [] pos) (vh X.prog X.w X.K X.mg X.base k tv t):=by
 intro pins s σ H Q I h
 refine wpAny_Call_Name_kw (cw (hv pins s σ H _ I h) λu s1 ⟨v,H1,I1,r1,f,ev,hf,h1⟩=>?_)
 subst ev
 cases r1
 refine callWith_F (hf.at I1.aY) (cw (ha pos pins s1 σ H1 _ I1 h1) λus s2 ⟨vs,H2,I2,r2,hf2,sp,F,q⟩=>⟨hf2.at I2.aY,?_⟩) he iP
 exact Bq F hr I2 r2 q
theorem tW{tv:TE}(hr:bW k X.A)(hv:ZE X (.Name x p) tv)(ha:ZA X (e::es) t)(he:starEach (e::es) X.env=(false,eval e X.env)::starEach es X.env:=by rfl)(iP:(backTo pos (starEach es X.env)).any (·.1)=false:=by rfl) :
  ZE X (.Call (.Name x p) (e::es) [] pos) (vh X.prog X.w X.K X.mg X.base k tv t):=⟨Je hr hv.to ha.to he iP⟩
end
def BMain(mg:Str->Option Value)(base:Heap):Prop:=∃bm o,mg "__builtins__" = some (.ref bm)/\bm≠builtinsNs/\bm≠mainGlobals/\base.get? bm=some o/\o.cls=.type "module"/\o.dict=some builtinsNs/\o.data=.plain
section
variable {X:Cx}{pins:List (Addr×Obj)}{σ:St}{H:Hp}{s:Shared}{h':Heap}{P c':Addr}{ps more:Array Value}{fo oc:Obj}
def made(H:Hp)(P:Addr)(ps:Array Value)(c':Addr)(oc:Obj)(f:Addr)(fo:Obj):Hp:=upd (upd (upd H P (.mK ps)) c' (cV oc)) f (cV fo)
theorem Inv.Qi{t':Nat}(I:Inv X pins σ H s)(hP:H P=some (.mK ps))(hx:Heap.ExtBut P s.heap h')(p6:s.heap.objs.size<=c')(fE:c'<h'.objs.size)(oP:h'.get? c'=some oc)(ht:h'.get? P=some (tabObj (ps++more)))(v3:fo.isFreed=false) :
  Inv X pins σ (L2.made H P (ps++more) c' oc h'.objs.size fo) { s with heap:=h'.push fo,toks:=t' }:=by
 have Xn:=I.aY.lt hP
 have ncP:c'≠P:=Nat.ne_of_gt (Nat.lt_of_lt_of_le Xn p6)
 have nfP:h'.objs.size≠P:=Nat.ne_of_gt (Nat.lt_trans (Nat.lt_of_lt_of_le Xn p6) fE)
 have ncf:c'≠h'.objs.size:=Nat.ne_of_lt fE
 have at_:∀{b:Addr},b<s.heap.objs.size->b≠P->L2.made H P (ps++more) c' oc h'.objs.size fo b=H b:=λ{b} hb nb=>by
  unfold L2.made
  rw[au (Nat.ne_of_lt (Nat.lt_trans (Nat.lt_of_lt_of_le hb p6) fE)),au (Nat.ne_of_lt (Nat.lt_of_lt_of_le hb p6)),au nb]
 have keep:∀b o,b≠P->s.heap.get? b=some o->(h'.push fo).get? b=some o:=λb o nb e=>Heap.get?_push_of_some _ (hx b o nb e)
 have Vg:(h'.push fo).get? P=some (tabObj (ps++more)):=Heap.get?_push_of_some _ ht
 have atP:L2.made H P (ps++more) c' oc h'.objs.size fo P=some (.mK (ps++more)):=by
  unfold L2.made
  rw[au nfP.symm,au ncP.symm,ai]
 refine I.un ⟨λb o e n _ _=>keep b o (λz=>by rw[z,hP]at n;cases n) e,λb o e n _ _=>⟨o.slots,keep b o (λz=>by rw[z,hP]at n;cases n) e⟩,λb o e n _=>?_,λb o e _=>?_,λb xs e=>?_,λb o v e=>?_,λb qs e=>?_⟩ λb u e=>?_
 ·rw[at_ (Heap.lt_size e) (λz=>by rw[z,hP]at n;cases n)];exact n
 ·by_cases nb:b=P
  ·exact⟨_,by rw[nb];exact Vg⟩
  ·exact⟨o,keep b o nb e⟩
 ·rw[at_ (I.aY.lt e) (λz=>by rw[z,hP]at e;cases e)];exact e
 ·rw[at_ (I.aY.lt e) (λz=>by rw[z,hP]at e;cases e)];exact e
 ·by_cases nb:b=P
  ·subst nb
   rw[hP]at e;cases e
   exact⟨more,atP⟩
  ·exact⟨#[],by rw[at_ (I.aY.lt e) nb,e];simp⟩
 ·by_cases h1:b=h'.objs.size
  ·subst h1
   have e':some (cV fo)=some u:=by rw[<-e];unfold L2.made;exact ai.symm
   cases e'
   exact⟨Heap.get?_push_size _ v3,fo,Heap.get?_push_size _ v3⟩
  ·by_cases h2:b=c'
   ·subst h2
    have e':some (cV oc)=some u:=by rw[<-e];unfold L2.made;rw[au ncf];exact ai.symm
    cases e'
    have:(h'.push fo).get? b=some oc:=Heap.get?_push_of_some _ oP
    exact⟨this,oc,this⟩
   ·by_cases h3:b=P
    ·subst h3
     rw[atP]at e;cases e
     exact Vg
    ·have e0:H b=some u:=by rw[<-e];unfold L2.made;rw[au h1,au h2,au h3]
     have np:∀c,(c=b\/H c=some (.own b))->c≠P:=λc hc z=>by
      rcases hc with hc | hc
      ·exact h3 (hc ▸ z)
      ·rw[z,hP]at hc;cases hc
     refine(I.aY b u e0).stay (λc v hc q=>keep c v (np c hc) q) (λc q=>?_) λc xs q=>?_
     ·rw[at_ (I.aY.lt q) (λz=>by rw[z,hP]at q;cases q)];exact q
     ·rw[at_ (I.aY.lt q) (λz=>by rw[z,hP]at q;cases q)];exact q
end
section
variable {X:Cx}{c P:Addr}{name qual:Str}{params:Arguments}{body:List Stmt}{scope:Scope}{cl:List (Str×Addr)}{pos:Pos}{i:Nat}
def aAa(P:Addr)(mg:Str->Option Value)(name qual:Str)(params:Arguments)(body:List Stmt)(scope:Scope)(cl:List (Str×Addr))(pos:Pos)(i:Nat):TS:=λD σ H=>∃ps,H P=some (.mK ps)/\TriplesOk ps.toList/\codeAmong pos ps.toList=none/\
 ∀f c' oc vs t ctv doc,H f=none->H c'=none->f≠c'->oc.data=.fields vs->vs[1]?=some (.str qual t)->
  D.nx (σ.set i (some (.ref f))) (made H P (ps ++ #[rawInt pos.line,rawInt pos.col,.ref c']) c' oc f (fnMade name qual params body scope cl doc ((mg "__name__").getD .none) c' ctv))
theorem RT(ib:X.env.code=.ref c)(hC:CodeHd X.base c P)(hB:BMain X.mg X.base)(hN:X.N.Nodup)(hi:X.N[i]?=some name)(hx:Loc X.env.scope name)(hq:qualnameIn X.env name name=qual)(uM:closureFor scope X.env=pure cl)
  (Cr:params.defaults=[]) (W4:params.kw_defaults=[]) (ha:annTrees params none X.env=[]) (hf:X.fn name=true\/X.env.scope.names.lookup name=some .local) :
  PS X (.FunctionDef name params body [] none [] scope none name pos) (aAa P X.mg name qual params body scope cl pos i):=by
 intro pins s σ H D I h
 obtain⟨ps,hP,ht,WT,q⟩:=h
 refine nestDef_K Cr W4 ha ?_
 rw[hq]
 have hg:=I.mod.glob.keeps I.bk
 have ZD:s.heap.get? P=some (tabObj ps):=I.aY _ _ hP
 obtain⟨bm,ob,b1,b2,b3,b4,b5,b6,b7⟩:=hB
 have none_:∀{b:Addr} {o:Obj},X.base.get? b=some o->b≠P:=λ{b o} e z=>by have:=(I.bs _ _ e).2;rw[z,hP]at this;cases this
 have hgP:mainGlobals≠P:=by
  obtain⟨o,_,_,e,_⟩:=I.mod.glob
  exact none_ e
 refine makeFunction_K (mg:=X.mg) uM I.ok.glob hg ib (hC.keeps I.bk) ZD ht WT hgP ⟨bm,ob,b1,b2,b3,none_ b4,I.bk _ _ b4,b5,b6,b7⟩ λc' ctv doc h' tk qG p6 fE Tn Wy=>?_
 obtain⟨c2,oc,vs,t,e2,oP,hd,hv⟩:=Tn
 cases e2
 have I2:=I.Qi (fo:=fnMade name qual params body scope cl doc ((X.mg "__name__").getD .none) c' ctv) (t':=tk) hP qG p6 fE oP Wy rfl
 have fr1:H h'.objs.size=none:=I.aY.fresh (Nat.le_of_lt (Nat.lt_of_le_of_lt p6 fE))
 have fr2:H c'=none:=I.aY.fresh p6
 exact nO (v:=.ref h'.objs.size) I2 hN hi hx rfl (λs' I3=>⟨_,_,I3,q h'.objs.size c' oc vs t ctv doc fr1 fr2 (Nat.ne_of_gt fE) hd hv⟩) hf
end
def CellsAre(cells:List (Str×Addr))(σ:St)(xs:List (Nat×Str))(C:List (Addr×Obj)):Prop:=∀q∈xs,∃c o u v,cells.lookup q.2=some c/\C.lookup c=some o/\o.data=.cell (some u)/\σ[q.1]?=some (some v)/\RelV v u
section
variable {X:Cx}{pins:List (Addr×Obj)}{σ:St}{H:Hp}{s:Shared}
theorem uV(I:Inv X pins σ H s):∀xs:List (Nat×Str),(∀q∈xs,X.N[q.1]?=some q.2/\X.env.scope.names.lookup q.2=some .cell/\∃v,σ[q.1]?=some (some v))->
  ∃C,(∀b o,C.lookup b=some o->s.heap.get? b=some o/\∃x,X.env.cells.lookup x=some b)/\CellsAre X.env.cells σ xs C
 | [],_=>⟨[],λ_ _ h=>(by cases h),λ_ h=>(nomatch h)⟩
 | q::xs,h=>by
  obtain⟨C,h1,h2⟩:=uV I xs λr hr=>h r (List.mem_cons_of_mem _ hr)
  obtain⟨hN,hk,v,hv⟩:=h q List.mem_cons_self
  obtain⟨m,hn,hl⟩:=I.loc
  obtain⟨u,rv,l⟩:=hl q.1 q.2 v hN hv (.inr (.inl hk))
  have Tz:X.env.kindOf q.2=some .cell:=hk
  obtain⟨c,hc,o,ho,hd⟩:∃c,X.env.cells.lookup q.2=some c/\∃o,s.heap.get? c=some o/\o.data=.cell (some u):=by
   rcases l with ⟨z,_⟩ | ⟨_,c,hc,o,ho,hd⟩
   ·rw[Tz]at z;cases z
   ·exact⟨c,hc,o,ho,hd⟩
  refine⟨(c,o)::C,λb o' e=>?_,λr hr=>?_⟩
  ·rw[List.lookup_cons]at e
   by_cases hb:b=c
   ·subst hb
    rw[beq_self_eq_true]at e
    cases e
    exact⟨ho,q.2,hc⟩
   ·rw[beq_false_of_ne hb]at e
    exact h1 b o' e
  ·rcases List.mem_cons.mp hr with rfl | hr
   ·exact⟨c,o,u,v,hc,by rw[List.lookup_cons,beq_self_eq_true],hd,hv,rv⟩
   ·obtain⟨c2,o2,u2,v2,e1,e2,e3,e4,e5⟩:=h2 r hr
    by_cases hb:c2=c
    ·subst hb
     have:=(h1 c2 o2 e2).1
     rw[ho]at this
     cases this
     exact⟨c2,o,u2,v2,e1,by rw[List.lookup_cons,beq_self_eq_true],e3,e4,e5⟩
    ·exact⟨c2,o2,u2,v2,e1,by rw[List.lookup_cons,beq_false_of_ne hb];exact e2,e3,e4,e5⟩
variable {C:List (Addr×Obj)}
theorem Inv.BL(I:Inv X pins σ H s)(h:∀b o,C.lookup b=some o->s.heap.get? b=some o/\∃x,X.env.cells.lookup x=some b):cS C H:=λb o e=>let ⟨x,hx⟩:=(h b o e).2;I.iR x b hx
theorem Inv.Xy(I:Inv X pins σ H s)(Ka:∀x,X.fn x=true)(h:∀b o,C.lookup b=some o->s.heap.get? b=some o/\∃x,X.env.cells.lookup x=some b):nk X.prog X.w X.K X.mg X.base X.A X.stack s (dQ C H):=by
 have e:=I.FG
 have big:∀b o,C.lookup b=some o->X.s₀.heap.objs.size<=b:=λb o q=>let ⟨x,hx⟩:=(h b o q).2;I.ok.U7 x b (Ka x) hx
 refine⟨e.frames,e.mod,λb o q=>⟨(e.bs b o q).1,?_⟩,e.FW,e.lE,λb hb=>?_,I.aY.dQ (I.BL h) λb o q=>(h b o q).1,e.bare⟩
 ·cases z:C.lookup b with
  | none=>rw[bI z];exact(e.bs b o q).2
  | some o'=>exact absurd (Nat.lt_of_lt_of_le (Heap.lt_size q) (Nat.le_trans I.ok.FW (big b o' z))) (Nat.lt_irrefl _)
 ·cases z:C.lookup b with
  | none=>rw[bI z];exact e.Gs b hb
  | some o'=>
   obtain⟨x,hx⟩:=(h b o' z).2
   rcases List.mem_cons.mp (I.oY b hb) with y | y
   ·exact absurd y (I.QV x b hx)
   ·obtain⟨_,ob,ho,_⟩:=I.ok.lE.mem y
    exact absurd (Nat.lt_of_lt_of_le (Heap.lt_size ho) (big b o' z)) (Nat.lt_irrefl _)
end
section
variable {X:Cx}{k:Nat}{f:Addr}{fd:FuncData}{ps:List Str}{sp:Sp}{EH:St->XK}{x:Str}{p pos:Pos}{e:Expr}{es:List Expr}{t:TA}
def vi(cells:List (Str×Addr))(xs:List (Nat×Str))(sp:Sp)(EH:St->XK)(t:TA):TE:=λσ H Q=>t σ H λvs H1=>(∀q∈xs,∃v,σ[q.1]?=some (some v))/\
 ∀C,CellsAre cells σ xs C->cS C H1->sp vs (dQ C H1) (λv H'=>Q v (bh C H')) (λc dx H'=>EH σ c dx (bh C H'))
theorem M6{xs:List (Nat×Str)}{pins:List (Addr×Obj)}{σ:St}{H:Hp}{s:Shared}{Q:VK}{us:List Value}{vs:List V}(F:bG X.prog X.w X.K X.mg X.base (Bb X.prog X.w) k f fd ps sp)(hr:bW k X.A)(hb:Binds X.K fd ps [])(hx:lU X EH)(Ka:∀x,X.fn x=true)
  (Ux:∀q∈xs,X.N[q.1]?=some q.2/\X.env.scope.names.lookup q.2=some .cell)
  (I:Inv X pins σ H s) (r:Vals vs us) (hv:∀q∈xs,∃v,σ[q.1]?=some (some v)) (h:∀C,CellsAre X.env.cells σ xs C->cS C H->sp vs (dQ C H) (λv H'=>Q v (bh C H')) (λc dx H'=>EH σ c dx (bh C H'))) :
  wpAny (model X.prog X.w) X.A (call (.ref f) us) (EP X pins σ Q) X.xe s:=by
 obtain⟨C,h1,h2⟩:=uV I xs λq hq=>⟨(Ux q hq).1,(Ux q hq).2,hv q hq⟩
 have po:=I.BL h1
 have at_:∀b o,C.lookup b=some o->s.heap.get? b=some o:=λb o q=>(h1 b o q).1
 have h:=h C h2 po
 have hl:us.length=ps.length:=by rw[<-r.length];exact F.len _ _ _ _ h
 have b:=hb s us I.jT (by rw[List.append_nil];exact hl)
 rw[List.append_nil]at b
 refine wpAny_call (codeAny_mono (F.run X.A X.stack s (dQ C H) ⟨us,[]⟩ us vs _ _ hr (I.Xy Ka h1) b r h) λr s' hq=>?_)
 cases r with
 | error e=>
  obtain⟨e,c,dx,H',rfl,os,bare,un,aY,xa,q⟩:=hq
  have En:cU C H':=λb o q=>un.frzs b o _ (ik q)
  refine hx.pass I ⟨e,c,dx,bh C H',rfl,os,bare,un.CJ aY po at_,aY.bh En,xa.mono λb hb=>⟨hb.1,?_⟩,q⟩
  rw[aQ (En.Ep hb.2)];exact hb.2
 | ok fl=>
  cases fl with
  | ret u=>
   obtain⟨v,H',os,bare,un,aY,r',q⟩:=hq
   have En:cU C H':=λb o q=>un.frzs b o _ (ik q)
   exact I.after ⟨v,bh C H',os,bare,un.CJ aY po at_,aY.bh En,r',q⟩
  | _=>exact False.elim hq
theorem Jf{xs:List (Nat×Str)}{cells:List (Str×Addr)}(uM:X.env.cells=cells)(F:bG X.prog X.w X.K X.mg X.base (Bb X.prog X.w) k f fd ps sp)(hr:bW k X.A)(hg:Gl X x)(hm:X.mg x=some (.ref f))(hk:PySem.W.keepIn X.K (.ref f)=true)(hb:Binds X.K fd ps [])(hx:lU X EH)(Ka:∀x,X.fn x=true)
  (Ux:∀q∈xs,X.N[q.1]?=some q.2/\X.env.scope.names.lookup q.2=some .cell)
  (ha:PA X (e::es) t) (pz:(x==("__debug__" : Str))=false:=by decide) (he:starEach (e::es) X.env=(false,eval e X.env)::starEach es X.env:=by rfl) (iP:(backTo pos (starEach es X.env)).any (·.1)=false:=by rfl) :
  PE X (.Call (.Name x p) (e::es) [] pos) (vi cells xs sp EH t):=by
 subst uM
 intro pins s σ H Q I h
 refine wpAny_Call_Name_kw (lh I hg hm ?_ pz)
 exact PySem.W.callWith_K (h₀:=X.base) I.ok.mod.S6 hk (cw (ha pos pins s σ H _ I h) λus s1 ⟨vs,H1,I1,r,hv,q⟩=>⟨I1.jT,M6 F hr hb hx Ka Ux I1 r hv q⟩) he iP
theorem tX{xs:List (Nat×Str)}{cells:List (Str×Addr)}(uM:X.env.cells=cells)(F:bG X.prog X.w X.K X.mg X.base (Bb X.prog X.w) k f fd ps sp)(hr:bW k X.A)(hg:Gl X x)(hm:X.mg x=some (.ref f))(hk:PySem.W.keepIn X.K (.ref f)=true)(hb:Binds X.K fd ps [])(hx:lU X EH)(Ka:∀x,X.fn x=true)
  (Ux:∀q∈xs,X.N[q.1]?=some q.2/\X.env.scope.names.lookup q.2=some .cell)
  (ha:ZA X (e::es) t) (pz:(x==("__debug__" : Str))=false:=by decide) (he:starEach (e::es) X.env=(false,eval e X.env)::starEach es X.env:=by rfl) (iP:(backTo pos (starEach es X.env)).any (·.1)=false:=by rfl) :
  ZE X (.Call (.Name x p) (e::es) [] pos) (vi cells xs sp EH t):=⟨Jf uM F hr hg hm hk hb hx Ka Ux ha.to pz he iP⟩
end
theorem u0{C:List (Addr×Obj)}{H:Hp}(p:cS C H):bD H (dQ C H):=λb o e=>by rw[bI (p.out e)];exact e
def Dq(ts:List (Addr×Addr))(H:Hp):Prop:=∀q∈ts,H q.2=some (.mK #[])
theorem Fd{P:Program}{w:World}{K:PySem.W.Frag}{mg mb:Str->Option Value}{CX:Dx}{k:Nat}{fa a:Addr}{fd:FuncData}{x:Str}{sp:Sp}{s₁:Shared}{vs:List Value}{ns:List Int}{ts:List (Addr×Addr)}
  (hT:TabsAt ts s₁.heap) (hKt:∀q∈ts,K.lookup q.2=none) (hB:BMain mg s₁.heap)
  (KX:K.In s₁.heap) (Lr:s₁.heap.Ns mainGlobals mg) (hb:s₁.heap.Ns builtinsNs mb) (hbb:∀x:Str,x≠"__name__"->mb x=bootBuiltins x) (yf:s₁.heap.NoLimit) (hg:s₁.gens = #[])
  (ha:s₁.heap.get? a=some { cls:=.type "list",data:=.seq vs.toArray }) (hi:IntsAre vs ns) (hl:ns.length<=sizeLine) (hr:bW k callerA)
  (F:∀base:Heap,K.In base->base.Ns mainGlobals mg->BMain mg base->bG P w K mg base CX k fa fd [x] sp) (yh:∀(s:Shared) (u:Value),BindsTo s fd ⟨[u],[]⟩ [(x,u)])
  (yH:∀H:Hp,Dq ts H->nv K H a (ns.map V.int)->sp [.ref a] H (λv _=>v=.bl true) λ_ _ _=>False)
  (hCX:∀H e s',CX [] H s₁ (λ_ _ _=>False) e s'->False) :
  codeAny (model P w) callerA (.call (.ref fa) ⟨[.ref a],[]⟩) (λr s'=>r=.ok (.ret (.bool true))/\OldK s₁.heap s'.heap/\s'.os=s₁.os/\AllBare s'.gens) s₁:=by
 have rv:=oX hi
 have aBG:=hi.length
 have core:∀H:Hp,Dq ts H->nv K H a (ns.map V.int)->fP P w H s₁.heap->(∀b,H b≠none->b=a\/b∈ts.map (·.2))->(∀b u,H b=some u->(∃o xs,u=.uQ o (.lst xs))\/(b∈ts.map (·.2)/\u=.mK #[]))->(H a≠none->K.lookup a=none)->
   codeAny (model P w) callerA (.call (.ref fa) ⟨[.ref a],[]⟩) (λr s'=>r=.ok (.ret (.bool true))/\OldK s₁.heap s'.heap/\s'.os=s₁.os/\AllBare s'.gens) s₁:=by
  intro H hO hS aY hA hU hK
  have wm:∀{b:Addr} {o:Obj},s₁.heap.get? b=some o->H b=none->(tJ s₁.heap H).get? b=some o:=λe n=>J9 e n
  have Ws:∀{b:Addr},b∈ts.map (·.2)->s₁.heap.get? b=some (tabObj #[]):=λ{b} h=>by
   obtain⟨q,hq,rfl⟩:=List.mem_map.mp h
   exact(hT q hq).2
  have Lj:∀{b:Addr} {o:Obj},s₁.heap.get? b=some o->(o.cls≠.none\/∃es ep,o.data=.dict es ep)->b≠a->H b=none:=λ{b o} e d nb=>by
   cases q:H b with
   | none=>rfl
   | some u=>
    rcases hA b (by rw[q];simp) with z | z
    ·exact absurd z nb
    ·rw[Ws z]at e;cases e
     rcases d with d | ⟨es,ep,d⟩
     ·exact absurd rfl d
     ·cases d
  have neA:∀{b:Addr} {o:Obj} {es:Array DictEntry} {ep:Nat},s₁.heap.get? b=some o->o.data=.dict es ep->b≠a:=λ{b o es ep} e d z=>by
   subst z
   rw[ha]at e;cases e
   have d':Data.seq vs.toArray _=Data.dict es ep:=d
   cases d'
  have Y1:∀{b:Addr} {m:Str->Option Value},s₁.heap.Ns b m->(tJ s₁.heap H).Ns b m:=λ{b m} ⟨o,es,ep,e,d,r⟩=>⟨o,es,ep,wm e (Lj e (.inr ⟨es,ep,d⟩) (neA e d)),d,r⟩
  have hKb:K.In (tJ s₁.heap H):=λb o e=>wm (KX b o e) (by
   cases q:H b with
   | none=>rfl
   | some u=>
    rcases hA b (by rw[q];simp) with z | z
    ·subst z
     rw[hK (by rw[q];simp)]at e;cases e
    ·obtain⟨r,WD,rfl⟩:=List.mem_map.mp z
     rw[hKt r WD]at e;cases e)
  have hM:Mod K mg (tJ s₁.heap H):=⟨hKb,Y1 Lr,⟨mb,Y1 hb,hbb⟩,let ⟨mc,h1,h2⟩:=yf;⟨mc,Y1 h1,h2⟩⟩
  have hBb:BMain mg (tJ s₁.heap H):=by
   obtain⟨bm,o,b1,b2,b3,b4,b5,b6,b7⟩:=hB
   have nb:bm≠a:=λz=>by
    rw[z,ha]at b4;cases b4
    have b7':Data.seq vs.toArray _=Data.plain:=b7
    cases b7'
   exact⟨bm,o,b1,b2,b3,wm b4 (Lj b4 (.inl (by rw[b5];intro z;cases z)) nb),b5,b6,b7⟩
  have e0:nk P w K mg (tJ s₁.heap H) callerA [] s₁ H:=⟨rfl,hM,λb o e=>Oc e,Nat.le_of_eq (Ft _ _),trivial,λb hb=>absurd (show b∈([]:List Addr) from hb) (by simp),aY,.of_eq hg⟩
  refine codeAny_mono ((F _ hKb (Y1 Lr) hBb).run callerA [] s₁ H ⟨[.ref a],[]⟩ [.ref a] [.ref a] _ _ hr e0 (yh s₁ (.ref a)) (.cons rfl .nil) (yH H hO hS)) λr s' h=>?_
  cases r with
  | error e=>exact(hCX H e s' h).elim
  | ok fl=>
   cases fl with
   | next=>exact False.elim h
   | brk=>exact False.elim h
   | cont=>exact False.elim h
   | ret u=>
    obtain⟨v,H',os,bare,un,WN,r',q⟩:=h
    have q':v=.bl true:=q
    subst q'
    obtain rfl:u=Value.bool true:=r'
    have each:∀b o,s₁.heap.get? b=some o->asItWas s₁.heap s'.heap b o/\∃o',s'.heap.get? b=some o':=λb o e=>by
     cases q:H b with
     | none=>
      have:=un.keep b o e q (by intro z;exact absurd (show b∈([]:List Addr) from z) (by simp)) (by simp)
      exact⟨.inl this,o,this⟩
     | some u=>
      rcases hU b u q with ⟨ob,xs,rfl⟩ | ⟨hm,rfl⟩
      ·have z2:=un.frzs b ob _ q
       obtain⟨e1,_⟩:=aY b _ q
       obtain⟨e2,_⟩:=WN b _ z2
       rw[e]at e1;cases e1
       exact⟨.inl e2,_,e2⟩
      ·obtain⟨r,WD,rfl⟩:=List.mem_map.mp hm
       obtain⟨more,z2⟩:=un.tbls _ _ q
       have e2:s'.heap.get? r.2=some (tabObj (#[]++more)):=WN _ _ z2
       have e3:=(hT r WD).2
       rw[e]at e3;cases e3
       exact⟨.inr (.inl ⟨((hT r WD).1.tab (hT r WD).2).isCodeTable,rfl,#[],more,rfl,e2⟩),_,e2⟩
    exact⟨rfl,⟨λb o e=>(each b o e).1,λb o e=>(each b o e).2⟩,os,bare⟩
 have naT:a∉ts.map (·.2):=λz=>by
  obtain⟨q,hq,e⟩:=List.mem_map.mp z
  have:=(hT q hq).2
  rw[e,ha]at this;cases this
 have Vh:∀(H1:Hp),(∀b,b∈ts.map (·.2)->H1 b=some (.mK #[]))->Dq ts H1:=λH1 h q hq=>h _ (List.mem_map_of_mem hq)
 have P9:∀b,b∈ts.map (·.2)->s₁.heap.get? b=some (tabObj #[]):=λb h=>by
  obtain⟨q,hq,rfl⟩:=List.mem_map.mp h
  exact(hT q hq).2
 cases hk:K.lookup a with
 | some o=>
  have e:=KX a o hk
  rw[ha]at e
  cases e
  refine core (λb=>if b∈ts.map (·.2) then some (.mK #[]) else none) (Vh _ λb hb=>if_pos hb) (.inr ⟨_,vs.toArray,_,hk,rfl,rfl,rfl,by rw[List.size_toArray,aBG];exact hl,by simpa using rv⟩) (λb u z=>?_) (λb z=>?_) (λb u z=>?_) λz=>absurd (if_neg naT) z
  ·by_cases hb:b∈ts.map (·.2)
   ·have z':=(if_pos hb).symm.trans z
    cases z';exact P9 b hb
   ·have z':=(if_neg hb).symm.trans z
    cases z'
  ·by_cases hb:b∈ts.map (·.2)
   ·exact .inr hb
   ·exact absurd (if_neg hb) z
  ·by_cases hb:b∈ts.map (·.2)
   ·have z':=(if_pos hb).symm.trans z
    cases z';exact .inr ⟨hb,rfl⟩
   ·have z':=(if_neg hb).symm.trans z
    cases z'
 | none=>
  let H0:Hp:=λb=>if b=a then some (.uQ { cls:=.type "list",data:=.seq vs.toArray } (.lst (ns.map V.int))) else if b∈ts.map (·.2) then some (.mK #[]) else none
  have sL:H0 a=some (.uQ { cls:=.type "list",data:=.seq vs.toArray } (.lst (ns.map V.int))):=if_pos rfl
  have atT:∀b,b∈ts.map (·.2)->H0 b=some (.mK #[]):=λb hb=>(if_neg (λz:b=a=>naT (by rw[<-z];exact hb))).trans (if_pos hb)
  have atN:∀b,b≠a->b∉ts.map (·.2)->H0 b=none:=λb h1 h2=>(if_neg h1).trans (if_neg h2)
  refine core H0 (Vh _ atT) (.inl (.inr ⟨{ cls:=.type "list",data:=.seq vs.toArray },sL⟩)) (λb u z=>?_) (λb z=>?_) (λb u z=>?_) λ_=>hk
  ·by_cases hb:b=a
   ·subst hb
    rw[sL]at z;cases z
    exact⟨ha,by rw[List.length_map];exact hl,vs,_,rv,ha⟩
   ·by_cases hm:b∈ts.map (·.2)
    ·rw[atT b hm]at z;cases z;exact P9 b hm
    ·rw[atN b hb hm]at z;cases z
  ·by_cases hb:b=a
   ·exact .inl hb
   ·by_cases hm:b∈ts.map (·.2)
    ·exact .inr hm
    ·exact absurd (atN b hb hm) z
  ·by_cases hb:b=a
   ·subst hb
    rw[sL]at z;cases z
    exact .inl ⟨_,_,rfl⟩
   ·by_cases hm:b∈ts.map (·.2)
    ·rw[atT b hm]at z;cases z;exact .inr ⟨hm,rfl⟩
    ·rw[atN b hb hm]at z;cases z
theorem GP{l:PySem.W.OpenLaw}{n k:Nat}{q:Program}{loose:List Str}{XP:(Str->Option Value)->Heap->Prop}{YP:World->Heap->Prop}{d:DefRec}{K:Params->PySem.W.Frag}{CX:World->Dx}{sp:World->Sp}{x:Str}{ts:List (Addr×Addr)}
  (hn:l.most=some n) (Gr:n<=sizeLine) (W9:d.params.defaults=[]) (hr:bW k callerA)
  (hY:∀(w:World) (h:Heap),YP w h->(K w.params).In h/\∀q∈ts,h.get? q.2=some (tabObj #[]))
  (ZK:∀w:World,∀q∈ts,codeHdIn (K w.params) q.1 q.2=true/\(K w.params).lookup q.2=none)
  (F:∀(w:World) (mg:Str->Option Value) (fa:Addr) (h:Heap),(K w.params).In h->h.Ns mainGlobals mg->mg d.name=some (.ref fa)->
   ∃fd:FuncData,(∀(s:Shared) (u:Value),BindsTo s fd ⟨[u],[]⟩ [(x,u)])/\
    ∀base:Heap,(K w.params).In base->base.Ns mainGlobals mg->BMain mg base->bG l.prog w (K w.params) mg base (CX w) k fa fd [x] (sp w))
  (yH:∀(w:World) (H:Hp) (a:Addr) (ns:List Int),ns.length<=n->Dq ts H->nv (K w.params) H a (ns.map V.int)->sp w [.ref a] H (λv _=>v=.bl true) λ_ _ _=>False)
  (hCX:∀(w:World) (H:Hp) (s:Shared) (e:Value) (s':Shared),CX w [] H s (λ_ _ _=>False) e s'->False) :
  PySem.W.WalkO q loose XP YP l.row.toRowW d [] (λf vs=>PySem.call f vs):=by
 refine Att.yz hn W9 λw s₀ s₁ mg mb fa o pm cd doc a vs ns G Y ho hd tK WW Tv hints hlen hg=>?_
 obtain⟨KX,hP⟩:=hY w _ Y
 obtain⟨fd,hb,hF⟩:=F w mg fa _ KX G.T.g WW
 have hB:BMain mg s₁.heap:=by
  obtain⟨bm,ob,b1,b2,b3,b4,b5,b6⟩:=G.T.bmain
  refine⟨bm,ob,b1,b2,λz=>?_,b3,b4,b5,b6⟩
  obtain⟨o,es,ep,e,dd,_⟩:=G.T.g
  rw[z,e]at b3;cases b3
  rw[dd]at b6;cases b6
 exact Fd (λq hq=>⟨codeHd_of_K KX (ZK w q hq).1,hP q hq⟩) (λq hq=>(ZK w q hq).2) hB KX G.T.g G.T.b G.T.builtins G.T.nolimit hg Tv hints (Nat.le_trans hlen Gr) hr hF hb (λH hO hS=>yH w H a ns hlen hO hS) λH e s'=>hCX w H s₁ e s'
def HX:List V->Hp->VK->Prop:=λvs H Q=>∃a,vs=[.ref a]/\∃ns:List Int,H a=some (.lst (List.map V.int ns))/\Q (.int ns.sum) H
theorem xZ:∀{ns:List Int} {its:List Value},Vals (List.map V.int ns) its->IntsAre its ns
 | [],[],_=>.nil
 | n::ns,u::its,.cons r rs=>by
  obtain⟨t,rfl⟩:=(r:∃t,u=.int n t)
  exact .cons n t (xZ rs)
section
variable {X:Cx}
theorem FV(hh:X.A.handled=none):dD X (.builtin "sum") HX:=by
 intro pins s σ H vs us Q I rv h
 obtain⟨a,rfl,ns,hq,q⟩:=h
 obtain⟨u,rfl,ru⟩:=vals1 rv
 cases ru
 obtain⟨its,r,pl,hz⟩:=I.list (aV hq)
 have hi:=xZ r
 obtain⟨xs,hx⟩:=hi.allInts.items
 have hl':s.heap.IsList a (intItems xs):=hx ▸ pl.isList
 refine sum_intListG hh hl' λh' tk t' hk=>?_
 have e1:ns=xs.toList.map (·.1):=by
  rw[<-nums_intItems,<-hx]
  exact(show numsOf its.toArray.toList=ns from hi.numsOf).symm
 have e2:preSum (numAt xs) xs.size=ns.sum:=by
  rw[preSum_eq,List.take_of_length_le (by simp),e1]
 rw[e2]
 exact⟨.int ns.sum,H,I.kept hk,⟨_,rfl⟩,q⟩
end
theorem oB{env:Env}{ad:Str->Addr}:∀(ns:List (Str×NameKind)) (acc:List (Str×Addr)),(∀x,(x,NameKind.free)∈ns->env.cells.lookup x=some (ad x))->
  (forIn ns acc λq cs=>match q with | (name,kind)=>if (kind == .free)=true then do let c <-cellOf env name;pure PUnit.unit;pure (ForInStep.yield ((name,c)::cs)) else do pure PUnit.unit;pure (ForInStep.yield cs):Sem (List (Str×Addr))) =
   pure (((ns.filter λq=>q.2 == .free).map λq=>(q.1,ad q.1)).reverse++acc)
 | [],acc,_=>rfl
 | (x,k)::ns,acc,h=>by
  rw[List.forIn_cons]
  have ih:=oB (env:=env) (ad:=ad) ns
  by_cases e:k=.free
  ·subst e
   have hx:=h x List.mem_cons_self
   have hc:cellOf env x=pure (ad x):=by unfold cellOf;rw[hx]
   simp only[hc,pure_bind,beq_self_eq_true,if_true]
   rw[ih _ λy hy=>h y (List.mem_cons_of_mem _ hy)]
   simp
  ·have e':(k==NameKind.free)=false:=beq_false_of_ne e
   simp only[e',Bool.false_eq_true,if_false,pure_bind]
   rw[ih _ λy hy=>h y (List.mem_cons_of_mem _ hy)]
   simp[e]
theorem lQ{scope:Scope}{env:Env}{ad:Str->Addr}(h:∀x,(x,NameKind.free)∈scope.names->env.cells.lookup x=some (ad x)):closureFor scope env=pure ((scope.names.filter λq=>q.2 == .free).map λq=>(q.1,ad q.1)).reverse:=by
 have:=oB (ad:=ad) scope.names [] h
 rw[List.append_nil]at this
 unfold closureFor
 simp only[bind_pure]
 exact this
theorem mR{ad:Str->Addr}{x:Str}:∀(l:List Str),(l.map λx=>(x,ad x)).lookup x=if x∈l then some (ad x) else none
 | []=>rfl
 | y::l=>by
  rw[List.map_cons,List.lookup_cons]
  by_cases e:x=y
  ·subst e;rw[beq_self_eq_true,if_pos List.mem_cons_self]
  ·rw[beq_false_of_ne e,mR l]
   by_cases h:x∈l
   ·rw[if_pos h,if_pos (List.mem_cons_of_mem _ h)]
   ·rw[if_neg h,if_neg (λz=>(List.mem_cons.mp z).elim e h)]
def freeOf(sc:Scope):List Str:=(sc.names.filter λq=>q.2 == .free).map (·.1)
section
variable {X:Cx}{N:List Str}{sc:Scope}{c P:Addr}{name qual:Str}{params:Arguments}{body:List Stmt}{scope:Scope}{pos:Pos}{fr:List Str}
def Bg(P:Addr)(mg:Str->Option Value)(name qual:Str)(params:Arguments)(body:List Stmt)(scope:Scope)(pos:Pos)(i:Nat)(cells:List (Str×Addr))(fr:List Str):TS:=λD σ H=>∃ps,H P=some (.mK ps)/\TriplesOk ps.toList/\codeAmong pos ps.toList=none/\
 ∀cl f c' oc vs t ctv doc,(∀x∈fr,∃c,cells.lookup x=some c/\cl.lookup x=some c)->(∀x c,cl.lookup x=some c->x∈fr)->(∀x y c,cl.lookup x=some c->cl.lookup y=some c->x=y)->H f=none->H c'=none->f≠c'->oc.data=.fields vs->vs[1]?=some (.str qual t)->
  D.nx (σ.set i (some (.ref f))) (made H P (ps ++ #[rawInt pos.line,rawInt pos.col,.ref c']) c' oc f (fnMade name qual params body scope cl doc ((mg "__name__").getD .none) c' ctv))
theorem Nu(hc:HC X N sc)(nd:N.Nodup)(hf:∀x,X.fn x=true)(i:Nat)(h:Li N sc i name=true)(ib:X.env.code=.ref c)(hC:CodeHd X.base c P)(hB:BMain X.mg X.base)(hq:qualnameIn X.env name name=qual)(v3:freeOf scope=fr)(TJ:∀x∈fr,sc.names.lookup x=some .cell)
  (Cr:params.defaults=[]) (W4:params.kw_defaults=[]) (ha:annTrees params none X.env=[]) :
  PS X (.FunctionDef name params body [] none [] scope none name pos) (Bg P X.mg name qual params body scope pos i X.env.cells fr):=by
 intro pins s σ H D I hw
 obtain⟨hN,hx⟩:=jh hc h
 have has:∀x∈fr,∃c,X.env.cells.lookup x=some c:=λx hx=>I.ok.has x (.inl (show X.env.scope.names.lookup x=some .cell by rw[hc.s];exact TJ x hx))
 have had:∀x∈fr,X.env.cells.lookup x=some ((X.env.cells.lookup x).getD 0):=λx hx=>by
  obtain⟨c,e⟩:=has x hx
  rw[e];rfl
 have mem:∀x,(x,NameKind.free)∈scope.names->x∈fr:=λx hx=>by
  rw[<-v3]
  exact List.mem_map.mpr ⟨(x,.free),List.mem_filter.mpr ⟨hx,rfl⟩,rfl⟩
 have uM:=lQ (scope:=scope) (env:=X.env) (ad:=λx=>(X.env.cells.lookup x).getD 0) λx hx=>had x (mem x hx)
 have ecl:((scope.names.filter λq=>q.2 == .free).map λq=>(q.1,(X.env.cells.lookup q.1).getD 0)).reverse=(freeOf scope).reverse.map λx=>(x,(X.env.cells.lookup x).getD 0):=by
  unfold freeOf
  rw[<-List.map_reverse,<-List.map_reverse,List.map_map]
  rfl
 rw[ecl,v3]at uM
 have lk:∀x,(fr.reverse.map λx=>(x,(X.env.cells.lookup x).getD 0)).lookup x=if x∈fr then some ((X.env.cells.lookup x).getD 0) else none:=λx=>by
  rw[mR];simp
 have Wu:∀x c,(fr.reverse.map λx=>(x,(X.env.cells.lookup x).getD 0)).lookup x=some c->x∈fr:=λx c e=>by
  rw[lk]at e
  by_cases hx:x∈fr
  ·exact hx
  ·rw[if_neg hx]at e;cases e
 have Xx:∀x c,(fr.reverse.map λx=>(x,(X.env.cells.lookup x).getD 0)).lookup x=some c->X.env.cells.lookup x=some c:=λx c e=>by
  have hx:=Wu x c e
  rw[lk,if_pos hx]at e
  rw[had x hx];exact e
 obtain⟨ps,hP,ht,WT,q⟩:=hw
 exact RT ib hC hB (by rw[hc.n];exact nd) hN hx hq uM Cr W4 ha (.inl (hf name)) pins s σ H D I ⟨ps,hP,ht,WT,λf c' oc vs t ctv doc=>q _ f c' oc vs t ctv doc
  (λx hx=>⟨_,had x hx,by rw[lk,if_pos hx]⟩) Wu λx y c e1 e2=>I.ok.inj x y c (Xx x c e1) (Xx y c e2)⟩
theorem Gx(hc:HC X N sc)(nd:N.Nodup)(hf:∀x,X.fn x=true)(i:Nat)(h:Li N sc i name=true)(ib:X.env.code=.ref c)(hC:CodeHd X.base c P)(hB:BMain X.mg X.base)(hq:qualnameIn X.env name name=qual)(v3:freeOf scope=fr)(TJ:∀x∈fr,sc.names.lookup x=some .cell)
  (Cr:params.defaults=[]) (W4:params.kw_defaults=[]) (ha:annTrees params none X.env=[]) :
  ZS X (.FunctionDef name params body [] none [] scope none name pos) (Bg P X.mg name qual params body scope pos i X.env.cells fr):=⟨Nu hc nd hf i h ib hC hB hq v3 TJ Cr W4 ha⟩
end
theorem gZ.Wh{P:Program}{w:World}{K:PySem.W.Frag}{mg:Str->Option Value}{base:Heap}{x qual:Str}{st:Stmt}{f:Addr}{fd:FuncData}{N ps:List Str}{k:Nat}{sp:Sp}(F:gZ K x qual st f fd)(S:aO N ps (ag st))(len:∀vs H Q E,sp vs H Q E->vs.length=ps.length)
  (eG:∀(cB:Value) (A:Around) (outer:List Env) (s:Shared) (H:Hp) (vs:List V) (Q:VK) (E:XK),fd.code=cB->bW k (A.deeper (envOfC qual (ag st) s.heap.objs.size f cB))->sp vs H Q E->
   HC (eZ eI P w K mg base N qual (ag st) f cB A outer s H E).sJ N (ag st)->(∀x,(eZ eI P w K mg base N qual (ag st) f cB A outer s H E).sJ.fn x=true)->
   ∃t,Dn (eZ eI P w K mg base N qual (ag st) f cB A outer s H E).sJ (aH st) t/\t { nx:=λ_ H'=>Q .non H',rt:=Q } (start N vs) H):bG P w K mg base eI (k+1) f fd ps sp:=by
 obtain⟨oc,od,kV,doc,pm,an,cB,ct,BR,rfl,lk,tK⟩:=F.ex
 refine Kq lk tK S len λA outer s H vs Q E hr yH=>?_
 obtain⟨t,h,q⟩:=eG cB A outer s H vs Q E rfl hr yH ⟨rfl,rfl⟩ λ_=>rfl
 exact⟨t,h.to.sJ,q⟩
theorem JK{X:Cx}:lU X λ_=>E0:=λ_ _ _ _ _ _ _ _ _ h=>h.elim
theorem JX{X:Cx}{N:List Str}{sc:Scope}{xs:List (Nat×Str)}(hc:HC X N sc)(h:(xs.all λq=>N[q.1]? == some q.2&&sc.names.lookup q.2==some .cell)=true):∀q∈xs,X.N[q.1]?=some q.2/\X.env.scope.names.lookup q.2=some .cell:=λq hq=>by
 have:=List.all_eq_true.mp h q hq
 simp only[Bool.and_eq_true,beq_iff_eq]at this
 rw[hc.n,hc.s];exact this
theorem bG.toE{P:Program}{w:World}{K:PySem.W.Frag}{mg:Str->Option Value}{base:Heap}{k:Nat}{f:Addr}{fd:FuncData}{ps:List Str}{sp:Sp}(F:bG P w K mg base eI k f fd ps sp):bG P w K mg base (Bb P w) k f fd ps sp:=
 ⟨F.len,λA outer s H args us vs Q E hr he hb hv hs=>codeAny_mono (F.run A outer s H args us vs Q E hr he hb hv hs) λr s' h=>by
  cases r with
  | error e=>exact False.elim h
  | ok fl=>cases fl <;> exact h⟩
section
variable {X:Cx}{pins:List (Addr×Obj)}{σ:St}{H:Hp}{s:Shared}{A:Around}{E:Value->Shared->Prop}{a C dx:Addr}{fs:List (Str×V)}{v:V}
theorem Kk{m:Str}{pl:Sem Bool}{Q:Value×List Value->Shared->Prop}(I:Inv X pins σ H s)(e:H a=some (.ins C dx fs))(c:Cls X.K C)(n:gq X.K C m)(l:fs.lookup m=some v)
  (h:∀u s',Inv X pins σ H s'->RelV v u->Q (u,[]) s'):wpAny (model X.prog X.w) A (getMethod (.ref a) m pl) Q E s:=by
 obtain⟨mA,O,r,_,_,_⟩:=ow I.aY e
 obtain⟨od,J,hl⟩:=O.look
 exact method_usual (r:=none) I.jT J (plainGet_of (c.get m)).1 (plainGet_of (c.get m)).2 n rfl (rQ I e c n l λu s' I' ru=>h u s' I' ru)
variable {k:Nat}{m:Str}{p pos apos:Pos}{e o:Expr}{es:List Expr}{ta:TE}{t:TA}
def vj(K':PySem.W.Frag)(P:Program)(w:World)(K:PySem.W.Frag)(mg:Str->Option Value)(base:Heap)(k:Nat)(m:Str)(ta:TE)(t:TA):TE:=λσ H Q=>ta σ H λx H1=>∃a C dx fs f,x=.ref a/\H1 a=some (.ins C dx fs)/\Cls K' C/\gq K' C m/\fs.lookup m=some (.ref f)/\Uq H1 f/\
 t σ H1 λvs H2=>Uq H2 f/\∃sp,lY P w K mg base k f sp/\sp vs H2 Q E0
theorem Jg{pl:Sem Bool}(hr:bW k X.A)(he:PE X o ta)(ha:PA X (e::es) t)
  (Fo:starEach (e::es) X.env=(false,eval e X.env)::starEach es X.env:=by rfl) (iP:(backTo pos (starEach es X.env)).any (·.1)=false:=by rfl)
  (ht:eval (.Call (.Attribute o m apos) (e::es) [] pos) X.env=(do
   let ov <-eval o X.env
   standAt apos.atName
   let (f,first) <-holding [ov] (getMethod ov m pl)
   callWith pos f first (backTo pos (starEach (e::es) X.env)) (backToKw pos (keywordEach [] X.env))):=by rfl) :
  PE X (.Call (.Attribute o m apos) (e::es) [] pos) (vj X.K X.prog X.w X.K X.mg X.base k m ta t):=by
 intro pins s σ H Q I h
 refine PySem.W.methodCall_KW (pl:=pl) (cw (he pins s σ H _ I h) λu s1 ⟨x,H1,I1,rx,a,C,dx,fs,f,ex,ea,c,n,l,hf,q⟩=>?_) ht
 subst ex
 obtain rfl:u=Value.ref a:=rx
 refine Kk I1 ea c n l λu s' I' ru=>?_
 obtain rfl:u=Value.ref f:=ru
 refine callWith_F (hf.at I'.aY) (cw (ha pos pins s' σ H1 _ I' q) λus s2 ⟨vs,H2,I2,r2,hf2,sp,F,q2⟩=>⟨hf2.at I2.aY,?_⟩) Fo iP
 exact Bq F hr I2 r2 q2
theorem DG{pl:Sem Bool}(hr:bW k X.A)(he:ZE X o ta)(ha:ZA X (e::es) t)
  (Fo:starEach (e::es) X.env=(false,eval e X.env)::starEach es X.env:=by rfl) (iP:(backTo pos (starEach es X.env)).any (·.1)=false:=by rfl)
  (ht:eval (.Call (.Attribute o m apos) (e::es) [] pos) X.env=(do
   let ov <-eval o X.env
   standAt apos.atName
   let (f,first) <-holding [ov] (getMethod ov m pl)
   callWith pos f first (backTo pos (starEach (e::es) X.env)) (backToKw pos (keywordEach [] X.env))):=by rfl) :
  ZE X (.Call (.Attribute o m apos) (e::es) [] pos) (vj X.K X.prog X.w X.K X.mg X.base k m ta t):=⟨Jg hr he.to ha.to Fo iP ht⟩
end
section
variable {X:Cx}{N:List Str}{sc:Scope}{c P:Addr}{qual:Str}{params:Arguments}{body:Expr}{scope:Scope}{pos:Pos}{fr:List Str}
def Dv(cells cl:List (Str×Addr))(fr:List Str):Prop:=(∀x∈fr,∃c,cells.lookup x=some c/\cl.lookup x=some c)/\(∀x c,cl.lookup x=some c->x∈fr)/\∀x y c,cl.lookup x=some c->cl.lookup y=some c->x=y
def Mh(P:Addr)(mg:Str->Option Value)(qual:Str)(params:Arguments)(body:Expr)(scope:Scope)(pos:Pos)(cells:List (Str×Addr))(fr:List Str):TE:=λ_ H Q=>∃ps,H P=some (.mK ps)/\TriplesOk ps.toList/\
 ((codeAmong pos ps.toList=none/\∀cl f c' oc vs t ctv,Dv cells cl fr->H f=none->H c'=none->f≠c'->oc.data=.fields vs->vs[1]?=some (.str qual t)->
  Q (.ref f) (made H P (ps ++ #[rawInt pos.line,rawInt pos.col,.ref c']) c' oc f (kla_obj "<lambda>" qual params body scope cl ((mg "__name__").getD .none) c' ctv)))\/
 ∃c',codeAmong pos ps.toList=some (.ref c')/\∀cl f ctv,Dv cells cl fr->H f=none->Q (.ref f) (upd H f (cV (kla_obj "<lambda>" qual params body scope cl ((mg "__name__").getD .none) c' ctv))))
theorem NT(hc:HC X N sc)(ib:X.env.code=.ref c)(hC:CodeHd X.base c P)(hB:BMain X.mg X.base)(hq:X.env.qual ++ "<lambda>" = qual)(v3:freeOf scope=fr)(TJ:∀x∈fr,sc.names.lookup x=some .cell)(Cr:defaultsOf params X.env=([],[])) :
  PE X (.Lambda params body scope pos) (Mh P X.mg qual params body scope pos X.env.cells fr):=by
 intro pins s σ H Q I hw
 have has:∀x∈fr,∃c,X.env.cells.lookup x=some c:=λx hx=>I.ok.has x (.inl (show X.env.scope.names.lookup x=some .cell by rw[hc.s];exact TJ x hx))
 have had:∀x∈fr,X.env.cells.lookup x=some ((X.env.cells.lookup x).getD 0):=λx hx=>by
  obtain⟨c,e⟩:=has x hx
  rw[e];rfl
 have mem:∀x,(x,NameKind.free)∈scope.names->x∈fr:=λx hx=>by
  rw[<-v3]
  exact List.mem_map.mpr ⟨(x,.free),List.mem_filter.mpr ⟨hx,rfl⟩,rfl⟩
 have uM:=lQ (scope:=scope) (env:=X.env) (ad:=λx=>(X.env.cells.lookup x).getD 0) λx hx=>had x (mem x hx)
 have ecl:((scope.names.filter λq=>q.2 == .free).map λq=>(q.1,(X.env.cells.lookup q.1).getD 0)).reverse=(freeOf scope).reverse.map λx=>(x,(X.env.cells.lookup x).getD 0):=by
  unfold freeOf
  rw[<-List.map_reverse,<-List.map_reverse,List.map_map]
  rfl
 rw[ecl,v3]at uM
 have lk:∀x,(fr.reverse.map λx=>(x,(X.env.cells.lookup x).getD 0)).lookup x=if x∈fr then some ((X.env.cells.lookup x).getD 0) else none:=λx=>by
  rw[mR];simp
 have Wu:∀x c,(fr.reverse.map λx=>(x,(X.env.cells.lookup x).getD 0)).lookup x=some c->x∈fr:=λx c e=>by
  rw[lk]at e
  by_cases hx:x∈fr
  ·exact hx
  ·rw[if_neg hx]at e;cases e
 have Xx:∀x c,(fr.reverse.map λx=>(x,(X.env.cells.lookup x).getD 0)).lookup x=some c->X.env.cells.lookup x=some c:=λx c e=>by
  have hx:=Wu x c e
  rw[lk,if_pos hx]at e
  rw[had x hx];exact e
 have la:Dv X.env.cells (fr.reverse.map λx=>(x,(X.env.cells.lookup x).getD 0)) fr:=⟨λx hx=>⟨_,had x hx,by rw[lk,if_pos hx]⟩,Wu,λx y c e1 e2=>I.ok.inj x y c (Xx x c e1) (Xx y c e2)⟩
 obtain⟨ps,hP,ht,h⟩:=hw
 refine kla_eval Cr ?_
 rw[hq]
 have hg:=I.mod.glob.keeps I.bk
 have ZD:s.heap.get? P=some (tabObj ps):=I.aY _ _ hP
 obtain⟨bm,ob,b1,b2,b3,b4,b5,b6,b7⟩:=hB
 have none_:∀{b:Addr} {o:Obj},X.base.get? b=some o->b≠P:=λ{b o} e z=>by have:=(I.bs _ _ e).2;rw[z,hP]at this;cases this
 have hgP:mainGlobals≠P:=by
  obtain⟨o,_,_,e,_⟩:=I.mod.glob
  exact none_ e
 rcases h with ⟨WT,q⟩ | ⟨c',hf,q⟩
 ·refine kla_makeFunction (mg:=X.mg) uM I.ok.glob hg ib (hC.keeps I.bk) ZD ht WT hgP ⟨bm,ob,b1,b2,b3,none_ b4,I.bk _ _ b4,b5,b6,b7⟩ λc' ctv h' tk qG p6 fE Tn Wy=>?_
  obtain⟨c2,oc,vs,t,e2,oP,hd,hv⟩:=Tn
  cases e2
  have I2:=I.Qi (fo:=kla_obj "<lambda>" qual params body scope (fr.reverse.map λx=>(x,(X.env.cells.lookup x).getD 0)) ((X.mg "__name__").getD .none) c' ctv) (t':=tk) hP qG p6 fE oP Wy rfl
  exact⟨.ref h'.objs.size,_,I2,rfl,q _ h'.objs.size c' oc vs t ctv la (I.aY.fresh (Nat.le_of_lt (Nat.lt_of_le_of_lt p6 fE))) (I.aY.fresh p6) (Nat.ne_of_gt fE) hd hv⟩
 ·refine kla_makeFunctionHit (mg:=X.mg) uM I.ok.glob hg ib (hC.keeps I.bk) ZD ht hf ⟨bm,ob,b1,b2,b3,none_ b4,I.bk _ _ b4,b5,b6,b7⟩ λctv h' tk hk hsz=>?_
  have at_:(h'.push (kla_obj "<lambda>" qual params body scope (fr.reverse.map λx=>(x,(X.env.cells.lookup x).getD 0)) ((X.mg "__name__").getD .none) c' ctv)).get? h'.objs.size=some (kla_obj "<lambda>" qual params body scope (fr.reverse.map λx=>(x,(X.env.cells.lookup x).getD 0)) ((X.mg "__name__").getD .none) c' ctv):=Heap.get?_push_size _ rfl
  have I2:=I.laid (a:=h'.objs.size) (o:=cV (kla_obj "<lambda>" qual params body scope (fr.reverse.map λx=>(x,(X.env.cells.lookup x).getD 0)) ((X.mg "__name__").getD .none) c' ctv)) (t':=tk) (h':=h'.push (kla_obj "<lambda>" qual params body scope (fr.reverse.map λx=>(x,(X.env.cells.lookup x).getD 0)) ((X.mg "__name__").getD .none) c' ctv)) (λb u e=>Heap.get?_push_of_some _ (hk b u e)) hsz ⟨at_,_,at_⟩
  exact⟨.ref h'.objs.size,_,I2,rfl,q _ h'.objs.size ctv la (I.aY.fresh hsz)⟩
theorem GD(hc:HC X N sc)(ib:X.env.code=.ref c)(hC:CodeHd X.base c P)(hB:BMain X.mg X.base)(hq:X.env.qual ++ "<lambda>" = qual)(v3:freeOf scope=fr)(TJ:∀x∈fr,sc.names.lookup x=some .cell)(Cr:defaultsOf params X.env=([],[])) :
  ZE X (.Lambda params body scope pos) (Mh P X.mg qual params body scope pos X.env.cells fr):=⟨NT hc ib hC hB hq v3 TJ Cr⟩
end
theorem KQ{P:Program}{w:World}{K:PySem.W.Frag}{mg:Str->Option Value}{base:Heap}{N:List Str}{f:Addr}{qual:Str}{scope:Scope}{cl:List (Str×Addr)}{cd:Value}{C:List (Addr×Obj)}{A:Around}{outer:List Env}{s s':Shared}{H H':Hp}{σ':St}{Q:VK}{v:V}{u:Value}
  (e0:nk P w K mg base A outer s H) (hC:cU C H) (J:Inv (QT P w K mg base N qual scope f cd cl A outer s (bh C H)) [] σ' H' s') (rv:RelV v u) (q:cS C H'->Q v (dQ C H')):CE outer P w H s Q u s':=by
 have nf:∀b o,C.lookup b=some o->b∉lP outer:=λb o q z=>by have:=e0.Gs b z;rw[hC b o q]at this;cases this
 obtain⟨un,po,at'⟩:=Un.Dm (H:=H) (h:=s.heap) J.base e0.aY hC nf
 exact⟨v,dQ C H',J.os,J.bare,un,J.aY.dQ po at',rv,q po⟩
theorem Pp{P:Program}{w:World}{K:PySem.W.Frag}{mg:Str->Option Value}{base:Heap}{k:Nat}{f c':Addr}{name qual:Str}{params:Arguments}{body:Expr}{scope:Scope}{cl:List (Str×Addr)}{pm ctv:Value}{fo oc:Obj}{wL:Array Value}{tq:Tok}
  {ps fr:List Str} {sp:Sp} (O1:fo.data=.func (kla_fn name qual params body scope cl pm (.ref c') ctv)) (oP:oc.data=.fields wL) (hq:wL[1]?=some (.str qual tq))
  (kind:scope.kind=.function) (co:scope.isCoroutine=false) (gen:scope.isGenerator=false) (iA:∀x∈scope.names,x.2≠.cell) (nd:(ps++fr).Nodup) (par:∀x∈ps,scope.names.lookup x=some .local) (Xv:∀x∈fr,scope.names.lookup x=some .free)
  (has:∀x,scope.names.lookup x=some .free->x∈fr)
  (px:∀x c,cl.lookup x=some c->x∈fr) (inj:∀x y c,cl.lookup x=some c->cl.lookup y=some c->x=y)
  (yh:∀us:List Value,us.length=ps.length->bindArgs (kla_fn name qual params body scope cl pm (.ref c') ctv) ⟨us,[]⟩=pure (ps.zip us))
  (eG:∀vs H Q E,sp vs H Q E->∃C z6,vs.length=ps.length/\H f=some (cV fo)/\H c'=some (cV oc)/\cU C H/\z6.length=fr.length/\CellsOk C cl fr z6/\
   ∀(A:Around) (outer:List Env) (s:Shared),bW k (A.deeper (envX qual scope s.heap.objs.size f (.ref c') cl))->
   HC (QT P w K mg base (ps++fr) qual scope f (.ref c') cl A outer s (bh C H)) (ps++fr) scope->
   ∃t,ZE (QT P w K mg base (ps++fr) qual scope f (.ref c') cl A outer s (bh C H)) body t/\t ((vs++z6).map some) (bh C H) λv H'=>cS C H'->Q v (dQ C H')) :
  lY P w K mg base (k+1) f sp:=by
 intro A outer s H us vs Q E hr e0 r yH
 obtain⟨C,z6,hl,hf,hc,hC,Wm,Ls,eG⟩:=eG _ _ _ _ yH
 have lim:s.heap.NoLimit:=e0.mod.nolimit.keeps λb o e=>(e0.bs b o e).1
 have hk:=e0.aY
 have hu:us.length=ps.length:=by rw[<-r.length];exact hl
 refine kla_callFunE (body:=body) hr.depth (hk _ _ hf).1 O1 co gen rfl ⟨c',oc,wL,tq,rfl,(hk _ _ hc).1,oP,hq⟩ ?_
 rw[yh us hu]
 refine wpAny_pure (wpAny_newFunctionEnv iA (λy hy=>par y.1 (List.of_mem_zip (a:=y.1) (b:=y.2) hy).1) (λh₁ Lr hsb=>⟨lim.fresh _ hsb,kla_codeExpr ?_⟩) kind)
 have Qu:∀b o,s.heap.get? b=some o->h₁.get? b=some o:=λb o e=>hsb.extBut b o (Nat.ne_of_lt (Heap.lt_size e)) (Heap.get?_push_of_some _ e)
 obtain⟨t,ht,Fp⟩:=eG A outer s (hr.deeper _) ⟨rfl,rfl⟩
 refine wpAny_mono (ht.to [] _ _ _ _ (De kind iA nd par Xv has px inj hr.hd e0 r hl hC Wm Ls Lr Qu) Fp) (λu s' ⟨v,H',J,rv,q⟩=>KQ e0 hC J rv q) λe s' hs=>False.elim hs
end L2
end
section
namespace L2
open PySem PySem.Spec PySem.W PyProof.Rows Builtin
theorem Iq{α:Type}{l:List α}{p:Array Nat}{d:α}(hp:qu p l.length):(p.toList.map λi=>l.getD i d).Perm l:=by
 have h1:p.toList.Perm (List.range l.length):=by simpa using Array.perm_iff_toList_perm.mp hp.perm
 have h2:=h1.map λi=>l.getD i d
 have e:(List.range l.length).map (λi=>l.getD i d)=l:=by
  apply List.ext_getElem?
  intro i
  rw[List.getElem?_map]
  by_cases hi:i<l.length
  ·rw[List.getElem?_range hi,List.getElem?_eq_getElem hi]
   simp[List.getD_eq_getElem?_getD,List.getElem?_eq_getElem hi]
  ·rw[List.getElem?_eq_none (by simpa using hi),List.getElem?_eq_none (by lia)]
   rfl
 rwa [e]at h2
theorem La{α:Type}{l:List α}{p:Array Nat}{d:α}{R:α->α->Bool}(hp:qu p l.length)(O:Ord (λi j=>R (l.getD i d) (l.getD j d)) l.length)(a:yF (λi j=>R (l.getD i d) (l.getD j d)) p l.length):(p.toList.map λi=>l.getD i d).Pairwise λx y=>R x y=true:=by
 rw[List.pairwise_map,List.pairwise_iff_getElem]
 intro i j hi hj J8
 have hs:=hp.size
 rw[Array.length_toList]at hi hj
 have:=yF.lt O hp (by lia) a (Nat.le_refl _) J8 (by lia)
 have e:∀k (hk:k<p.size),sL p k=p.toList[k]'(by simpa using hk):=λk hk=>by
  unfold sL
  rw[Array.getD_eq_getD_getElem?,Array.getElem?_eq_getElem hk]
  simp
 rw[e i hi,e j hj]at this
 exact this
section
variable {prog:Program}{w:World}{A:Around}{E:Value->Shared->Prop}{s:Shared}
end
section
variable {X:Cx}{pins:List (Addr×Obj)}{s:Shared}{σ:St}{H:Hp}{A:Around}
theorem uo:∀{l:List Addr} {us:List Value},Vals (List.map V.ref l) us->us=l.map Value.ref
 | [],_,.nil=>rfl
 | a::l,_,.cons r1 r2=>by rw[uo r2,r1];rfl
theorem nH:∀l:List Addr,Vals (List.map V.ref l) (List.map Value.ref l)
 | []=>.nil
 | a::l=>.cons rfl (nH l)
end
end L2
end
section
namespace L2
open PySem PySem.Spec PySem.W PyProof.Rows
section
variable {prog:Program}{w:World}{A:Around}{E:Value->Shared->Prop}{s:Shared}
theorem tD{a:Addr}{vs:List Value}{n:Nat}{κ:SortKind}{b:Nat->Nat->Bool}{P:PySem.Fin->Shared->Prop}(ho:s.heap.get? a=some (seqObj "list" vs.toArray n))(hB:vs.length<=100000)(inj:∀i j,i<vs.length->j<vs.length->vs.getD i Value.none=vs.getD j Value.none->i=j)(O:Ord b vs.length)
  (hk:∀h',(∀c o,c≠a->s.heap.get? c=some o->h'.get? c=some o)->2<=vs.length->wpAny (model prog w) A (keyKind' vs.toArray) (λk s'=>k=κ/\s'={ s with heap:=h' }) (λ_ _=>False) { s with heap:=h' })
  (hc:∀h',(∀c o,c≠a->s.heap.get? c=some o->h'.get? c=some o)->∀i j C,i<vs.length->j<vs.length->C (b i j) { s with heap:=h' }->kas_ask prog w A κ vs i j C { s with heap:=h' })
  (h:∀p,qu p vs.length->yF b p vs.length->P (.done (.ret .none)) { s with heap:=sortedHeap s.heap a vs (p.toList.map λi=>vs.getD i Value.none).toArray }) :
  wpAny (model prog w) A (Builtin.«list.sort» ⟨[.ref a],[]⟩) P E s:=by
 rw[list_sort_plain]
 have ha:a<s.heap.objs.size:=Heap.lt_size ho
 have sb:=Heap.SameBut.update s.heap a (Obj.mapSeq λ_=>(#[]:Array Value))
 obtain⟨e1,ho1⟩:∃e1,(s.heap.update a (Obj.mapSeq λ_=>(#[]:Array Value))).get? a=some (seqObj "list" #[] e1):=⟨_,get?_update_seq ho λ_=>#[]⟩
 have hsz:vs.toArray.size=vs.length:=by simp
 refine wpAny_bind (listItems_at ho rfl ?_)
 refine wpAny_bind (listUpdate_at ho rfl ?_ (by rw[hsz,sizeLine_eq];lia) (Nat.zero_le _))
 refine wpAny_bind (seqEpoch_at ho1 rfl ?_)
 refine wpAny_bind (wpAny_newTuple ?_ (by show vs.length<=_;rw[sizeLine_eq];lia))
 refine wpAny_bind (wpAny_newList ?_ (Nat.zero_le _))
 refine wpAny_holding ?_
 have Zi:(((s.heap.update a (Obj.mapSeq λ_=>(#[]:Array Value))).push (seqObj "tuple" vs.toArray 0)).push (seqObj "list" #[] 0)).get? a=some (seqObj "list" #[] e1):=Heap.get?_push_of_some _ (Heap.get?_push_of_some _ ho1)
 have keep:∀c o,c≠a->s.heap.get? c=some o->(((s.heap.update a (Obj.mapSeq λ_=>(#[]:Array Value))).push (seqObj "tuple" vs.toArray 0)).push (seqObj "list" #[] 0)).get? c=some o:=λc o nc e=>
  Heap.get?_push_of_some _ (Heap.get?_push_of_some _ ((sb.2 c nc).trans e))
 show wpAny (model prog w) A _ P E { s with heap:=((s.heap.update a (Obj.mapSeq λ_=>(#[]:Array Value))).push (seqObj "tuple" vs.toArray 0)).push (seqObj "list" #[] 0) }
 dsimp only
 by_cases h2:vs.toArray.size<2
 ·rw[if_pos h2,if_pos h2]
  refine wpAny_bind (wpAny_pure ?_)
  rw[StateT.run_pure]
  refine wpAny_bind (wpAny_pure ?_)
  dsimp only
  refine wpAny_bind (seqEpoch_at Zi rfl ?_)
  have hp:qu (List.toArray (List.range vs.length)) vs.length:=⟨Array.Perm.refl _⟩
  have J4:(arrOf (SortSt.mk' general' (vs.toArray.zip vs.toArray) #[] 7 none)).map (·.2)=((List.toArray (List.range vs.length)).toList.map λi=>vs.getD i Value.none).toArray:=by
   have z:=kat_snds (ks:=vs) (vs:=vs) rfl (st:=SortSt.mk' general' (vs.toArray.zip vs.toArray) #[] 7 none) (p:=List.toArray (List.range vs.length)) (by
    have e:=kas_range (vs.toArray.zip vs.toArray)
    rw[show(vs.toArray.zip vs.toArray).size=vs.length by simp]at e
    exact e.symm)
   exact z
  rw[J4]
  refine wpAny_bind (listUpdate_at Zi rfl ?_ (Nat.zero_le _) (by
   have z:(((List.toArray (List.range vs.length)).toList.map λi=>vs.getD i Value.none).toArray).size<=sizeLine:=by rw[sizeLine_eq];simp;lia
   exact Nat.le_succ_of_le z))
  simp only[bne_self_eq_false,Bool.false_eq_true,if_false]
  exact wpAny_pure (h _ hp λi hi=>by lia)
 ·rw[if_neg h2,if_neg h2]
  have LK:2<=vs.length:=by lia
  refine wpAny_bind (wpAny_mono (hk _ keep LK) (λk s' ⟨e2,e3⟩=>?_) λ_ _ x=>x.elim)
  subst e2 e3
  have Oo:∀i,i<vs.length->kas_item (vs.toArray.zip vs.toArray) i=(vs.getD i Value.none,vs.getD i Value.none):=λi hi=>by
   unfold kas_item
   rw[Array.getD_eq_getD_getElem?,Array.getElem?_eq_getElem (by simpa using hi),Option.getD_some,Array.getElem_zip,List.getD_eq_getElem?_getD,List.getElem?_eq_getElem hi]
   simp
  have hit:(vs.toArray.zip vs.toArray).toList=(List.range vs.length).map (kas_item (vs.toArray.zip vs.toArray)):=by
   have e:=kas_range (vs.toArray.zip vs.toArray)
   rw[show(vs.toArray.zip vs.toArray).size=vs.length by simp]at e
   have e2:=congrArg Array.toList e
   rw[Array.toList_map,List.toList_toArray]at e2
   exact e2.symm
  refine wpAny_bind (wpAny_mono (xg (item:=kas_item (vs.toArray.zip vs.toArray)) (n:=vs.length) (b:=b) (λi j hi hj e=>by rw[Oo i hi,Oo j hj]at e;exact inj i j hi hj (Prod.mk.inj e).1) O LK (λi j Q hi hj hQ=>by rw[Oo i hi,Oo j hj];exact hc _ keep i j Q hi hj hQ) hit) ?_ λ_ _ e=>e)
  rintro⟨⟨⟩,bf⟩ s' ⟨rfl,p,hp,aCn,har,hf⟩
  dsimp only
  have J4:=kat_snds rfl har
  rw[J4]
  refine wpAny_bind (seqEpoch_at Zi rfl ?_)
  refine wpAny_bind (listUpdate_at Zi rfl ?_ (Nat.zero_le _) (by
   have z:((p.toList.map λi=>vs.getD i Value.none).toArray).size<=sizeLine:=by rw[sizeLine_eq,List.size_toArray,List.length_map,Array.length_toList,hp.size];lia
   exact Nat.le_succ_of_le z))
  rw[hf]
  simp only[bne_self_eq_false,Bool.false_eq_true,if_false]
  exact wpAny_pure (h p hp aCn)
theorem yW{l:Addr}{vs:List Value}{κ:SortKind}{b:Nat->Nat->Bool}{Q:Value->Shared->Prop}(hl:s.heap.IsList l vs.toArray)(hB:vs.length<=100000)(inj:∀i j,i<vs.length->j<vs.length->vs.getD i Value.none=vs.getD j Value.none->i=j)(O:Ord b vs.length)
  (hk:∀h',(∀c o,s.heap.get? c=some o->h'.get? c=some o)->2<=vs.length->wpAny (model prog w) A.in1.in1 (keyKind' vs.toArray) (λk s'=>k=κ/\s'={ s with heap:=h' }) (λ_ _=>False) { s with heap:=h' })
  (hc:∀h',(∀c o,s.heap.get? c=some o->h'.get? c=some o)->∀i j C,i<vs.length->j<vs.length->C (b i j) { s with heap:=h' }->kas_ask prog w A.in1.in1 κ vs i j C { s with heap:=h' })
  (h:∀p,qu p vs.length->yF b p vs.length->Q (.ref (s.heap.objs.size+1)) { s with heap:=sortedAll s.heap vs (p.toList.map λi=>vs.getD i Value.none).toArray }) :
  wpAny (model prog w) A (call (.builtin "sorted") [.ref l]) Q E s:=by
 refine Calls.call_function_entry kind_sorted plain_sorted entry_sorted (args_sorted1 _) ?_
 unfold Builtin.«sorted»
 refine wpAny_bind (m:=checkCount "sorted" 1 1 _) (wpAny_pure ?_)
 refine wpAny_bind (collect_list hl ?_ (by rw[sizeLine_eq];lia))
 refine wpAny_bind (wpAny_newList ?_ (by rw[sizeLine_eq];lia))
 have hsz:((s.heap.push (seqObj "list" #[] 0)).update s.heap.objs.size (Obj.mapSeq (· ++ vs.toArray))).objs.size=s.heap.objs.size+1:=by
  rw[Heap.size_update,size_push']
 have Fq:(((s.heap.push (seqObj "list" #[] 0)).update s.heap.objs.size (Obj.mapSeq (· ++ vs.toArray))).push (seqObj "list" vs.toArray 0)).get? (s.heap.objs.size+1)=some (seqObj "list" vs.toArray 0):=by
  rw[<-hsz];exact Heap.get?_push_size _ rfl
 have keep:∀b o,s.heap.get? b=some o->b≠s.heap.objs.size+1/\(((s.heap.push (seqObj "list" #[] 0)).update s.heap.objs.size (Obj.mapSeq (· ++ vs.toArray))).push (seqObj "list" vs.toArray 0)).get? b=some o:=λb o q=>by
  have fE:b<s.heap.objs.size:=Heap.lt_size q
  refine⟨Nat.ne_of_lt (Nat.lt_succ_of_lt fE),?_⟩
  rw[Heap.get?_push_ne _ _ _ (by rw[hsz];exact Nat.ne_of_lt (Nat.lt_succ_of_lt fE)),Heap.get?_update_ne _ _ _ _ (Nat.ne_of_lt fE),Heap.get?_push_ne _ _ _ (Nat.ne_of_lt fE)]
  exact q
 show wpAny _ _ _ _ _ { s with heap:=((s.heap.push (seqObj "list" #[] 0)).update s.heap.objs.size (Obj.mapSeq (· ++ vs.toArray))).push (seqObj "list" vs.toArray 0) }
 rw[hsz]
 refine wpAny_bind (wpAny_holding (wpAny_call_entry slot_list_sort ⟨_,Fq,rfl⟩ entry_list_sort (tD (κ:=κ) Fq hB inj O (λh' k h2=>?_) (λh' k=>?_) λp a1 a2=>⟨_,rfl,?_⟩) (args_list_sort _)))
 ·exact hk h' (λc o e=>k c o (keep c o e).1 (keep c o e).2) h2
 ·exact hc h' (λc o e=>k c o (keep c o e).1 (keep c o e).2)
 ·exact wpAny_pure ⟨_,rfl,h p a1 a2⟩
end
def jA(H:Hp)(ps:List Addr)(ss:List (List Int)):Prop:=ps.length=ss.length/\∀(i:Nat) p t,ps[i]?=some p->ss[i]?=some t->∃a,H p=some (.tup [.int (t.length:Nat),.ref a])/\H a=some (.tup (List.map V.int t))
theorem zc{H:Hp}{p:Addr}{x y:List Int}(hx:∃a,H p=some (.tup [.int (x.length:Nat),.ref a])/\H a=some (.tup (List.map V.int x)))(hy:∃a,H p=some (.tup [.int (y.length:Nat),.ref a])/\H a=some (.tup (List.map V.int y))):x=y:=by
 obtain⟨a,h1,h2⟩:=hx
 obtain⟨b,h3,h4⟩:=hy
 rw[h1]at h3
 have e:a=b:=by injection h3 with h3;injection h3 with h3;injection h3 with _ h3;injection h3 with h3 _;injection h3
 subst e
 rw[h2]at h4
 have e2:List.map V.int x=List.map V.int y:=by injection h4 with h4;injection h4
 exact(List.map_inj_right λ_ _ e=>by injection e).mp e2
def Rw:List V->Hp->VK->Prop:=λvs H Q=>∃a,vs=[.ref a]/\∃ps ss,H a=some (.lst (List.map V.ref ps))/\jA H ps ss/\ss.length<=100000/\ss.Nodup/\
 ∀qs ts,ts.Perm ss->ts.Pairwise (λx y=>bU x y=true)->jA H qs ts->∀p,H p=none->Q (.ref p) (upd H p (.lst (List.map V.ref qs)))
section
variable {X:Cx}
theorem Ai(hu:X.A.in1.in1.units<cLine):dD X (.builtin "sorted") Rw:=by
 intro pins s σ H vs us Q I rv h
 obtain⟨a,rfl,ps,ss,hL,Uu,hB,nd,q⟩:=h
 obtain⟨u,rfl,ru⟩:=vals1 rv
 cases ru
 obtain⟨its,r,pl,hz⟩:=I.list (aV hL)
 have ei:=uo r
 subst ei
 have ll:=Uu.1
 have lm:(ps.map Value.ref).length=ss.length:=by rw[List.length_map,ll]
 have at_:∀i (hi:i<ps.length),∃a,H (ps.getD i 0)=some (.tup [.int ((ss.getD i []).length:Nat),.ref a])/\H a=some (.tup (List.map V.int (ss.getD i []))):=λi hi=>by
  have e1:ps[i]?=some ps[i]:=List.getElem?_eq_getElem hi
  have e2:ss[i]?=some (ss[i]'(by omega)):=List.getElem?_eq_getElem (by omega)
  have:=Uu.2 i _ _ e1 e2
  rw[List.getD_eq_getElem?_getD,e1,List.getD_eq_getElem?_getD,e2]
  exact this
 have Ur:∀i,i<ps.length->(ps.map Value.ref).getD i Value.none=.ref (ps.getD i 0):=λi hi=>by
  have e1:ps[i]?=some ps[i]:=List.getElem?_eq_getElem hi
  rw[List.getD_eq_getElem?_getD,List.getElem?_map,e1,List.getD_eq_getElem?_getD,e1];rfl
 have up:∀{h':Heap} {p:Addr} {xs:Array Value},(∀c o,s.heap.get? c=some o->h'.get? c=some o)->IsTup s.heap p xs->IsTup h' p xs:=λk z=>by
  obtain⟨o,e,c,n,d⟩:=z
  exact⟨o,k _ _ e,c,n,d⟩
 refine yW (κ:=tuples' true) (b:=setB ss) pl.isList (by rw[lm];exact hB) (λi j hi hj e=>?_) (by rw[lm];exact kW nd) (λh' k h2=>?_) (λh' k i j C hi hj hC=>?_) λp hp ha=>?_
 ·rw[List.length_map]at hi hj
  rw[Ur i hi,Ur j hj]at e
  have e':ps.getD i 0=ps.getD j 0:=by injection e
  have h1:=at_ i hi
  have h2:=at_ j hj
  rw[<-e']at h2
  have e3:=zc h1 h2
  rw[List.getD_eq_getElem?_getD,List.getElem?_eq_getElem (by omega),List.getD_eq_getElem?_getD,List.getElem?_eq_getElem (by omega)]at e3
  exact(List.getElem_inj nd).mp e3
 ·obtain⟨fs,kt,lf,hf⟩:=mU (h:=h') (l:=ps.map Value.ref) λv hv=>by
   obtain⟨i,hi,rfl⟩:=List.mem_iff_getElem.mp hv
   rw[List.length_map]at hi
   obtain⟨a,h1,_⟩:=at_ i hi
   obtain⟨t,ht⟩:=ou I.aY h1
   refine⟨_,a,_,t,?_,up k ht⟩
   rw[<-Ur i hi,List.getD_eq_getElem?_getD,List.getElem?_eq_getElem (by simpa using hi)]
   rfl
  exact kat_kind (M:=model X.prog X.w) (A:=X.A.in1.in1) (s:={ s with heap:=h' }) (T:=Value.type "int") (Q:=λκ s2=>κ=tuples' true/\s2={ s with heap:=h' }) kt (by rw[lf];omega) (λv hv=>by
   obtain⟨x,t,rfl⟩:=hf v hv
   exact .now) (by decide) ⟨by congr 1,rfl⟩
 ·rw[List.length_map]at hi hj
  obtain⟨a,h1,h2⟩:=at_ i hi
  obtain⟨a',h1',LK⟩:=at_ j hj
  obtain⟨t,ht⟩:=ou I.aY h1
  obtain⟨t',Ov⟩:=ou I.aY h1'
  obtain⟨is1,hs1,J'⟩:=vv I.aY h2
  obtain⟨is2,Zf,ox⟩:=vv I.aY LK
  unfold kas_ask
  rw[Ur i hi,Ur j hj]
  exact Dd (s:={ s with heap:=h' }) hu (up k ht) (up k Ov) (up k hs1) (up k Zf) J' ox rfl rfl hC
 ·rw[List.length_map]at hp ha
  obtain⟨c,hc⟩:=sortedAll_at s.heap (ps.map Value.ref) ((p.toList.map λi=>(ps.map Value.ref).getD i Value.none).toArray)
  have fE:∀i∈p.toList,i<ps.length:=λi hi=>by
   have:=(hp.perm.mem_iff (a:=i)).mp (by simpa using hi)
   simpa using this
  have eo:(p.toList.map λi=>(ps.map Value.ref).getD i Value.none)=(p.toList.map λi=>ps.getD i 0).map Value.ref:=by
   rw[List.map_map]
   exact List.map_congr_left λi hi=>Ur i (fE i hi)
  have hn:H (s.heap.objs.size+1)=none:=I.aY.fresh (Nat.le_succ _)
  have Oy:qu p ss.length:=by rw[<-ll];exact hp
  have pm:(p.toList.map λi=>ss.getD i []).Perm ss:=Iq Oy
  have lq:jA H (p.toList.map λi=>ps.getD i 0) (p.toList.map λi=>ss.getD i []):=by
   refine⟨by rw[List.length_map,List.length_map],λi b x eb ex=>?_⟩
   rw[List.getElem?_map]at eb ex
   cases ep:p.toList[i]? with
   | none=>rw[ep]at eb;cases eb
   | some m=>
    rw[ep]at eb ex
    have hm:=fE m (List.mem_of_getElem? ep)
    have e1:ps[m]?=some ps[m]:=List.getElem?_eq_getElem hm
    have e2:ss[m]?=some (ss[m]'(by omega)):=List.getElem?_eq_getElem (by omega)
    rw[Option.map_some,List.getD_eq_getElem?_getD,e1]at eb
    rw[Option.map_some,List.getD_eq_getElem?_getD,e2]at ex
    cases eb
    cases ex
    exact Uu.2 m _ _ e1 e2
  refine⟨.ref (s.heap.objs.size+1),_,I.laid (t':=s.toks) (o:=.lst (List.map V.ref (p.toList.map λi=>ps.getD i 0))) (λb ob e=>sortedAll_old e) (Nat.le_succ _) ?_,rfl,q _ _ pm ?_ lq _ hn⟩
  ·refine⟨?_,(p.toList.map λi=>ps.getD i 0).map Value.ref,c,nH _,?_⟩
   ·rw[List.length_map,List.length_map,Array.length_toList,hp.size];exact ft (by rw[<-lm,List.length_map]at hB;omega)
   ·have ja:=hc
    rw[eo]at ja ⊢
    exact ja
  ·exact La (l:=ss) (d:=[]) (R:=bU) Oy (kW nd) (by rw[<-ll];exact ha)
end
end L2
end
namespace My
open PySem L2
def top(i:Nat):Stmt:=PySem.Challenge.pw_truceroll_k57_whole_every_part_settled.main.body.getD i (.Pass ⟨0,0,0,0⟩)
abbrev bH:Stmt:=top 4
abbrev fw:Stmt:=top 5
abbrev iL:Stmt:=top 7
abbrev gD:Stmt:=top 8
abbrev fA:Stmt:=top 9
abbrev fz:Stmt:=top 10
abbrev dw:Stmt:=top 11
abbrev dc:Stmt:=top 12
abbrev cx:Stmt:=top 13
abbrev gC:Stmt:=top 14
abbrev fu:Stmt:=top 15
abbrev kY:Stmt:=top 17
abbrev bB:Stmt:=top 19
abbrev eU:Stmt:=top 22
abbrev eR:Stmt:=top 23
abbrev eO:Stmt:=top 24
abbrev eV:Stmt:=top 25
abbrev cy:Stmt:=top 26
abbrev cL:Stmt:=top 27
abbrev dy:Stmt:=top 28
abbrev de:Stmt:=top 29
abbrev eQ:Stmt:=top 30
abbrev er:Stmt:=top 31
abbrev dY:Stmt:=top 32
abbrev cM:Stmt:=top 33
abbrev dZ:Stmt:=top 34
abbrev eB:Stmt:=top 35
abbrev j6:Stmt:=top 36
abbrev jR:List Str:=["tuples","each","one"]
abbrev xD:List Str:=["one"]
abbrev Ey:List Str:=["numbers"]
abbrev zq:List Str:=["one","other","member"]
abbrev xF:List Str:=["family"]
abbrev xE:List Str:=["family","least","part"]
abbrev rz:List Str:=["family","greatest","part"]
abbrev qg:List Str:=["part","family","one"]
abbrev oa:List Str:=["part","family","one"]
abbrev zp:List Str:=["whole","part"]
abbrev xC:List Str:=["whole","parts","member"]
abbrev Jz:List Str:=["whole","ask","part","peace","member","more"]
abbrev dJ:List Str:=["whole","ask","sounding","first","clashes","peaces"]
abbrev vO:List Str:=["_law_script"]
abbrev vN:List Str:=["_law_hand_here"]
abbrev vL:List Str:=["_law_hand_here","_law_cell"]
abbrev vP:List Str:=["_law_hand_here","_law_many","_law_got","_law_value","_law_size"]
abbrev og:List Str:=["_law_one","_law_other"]
abbrev o7:List Str:=["_law_thing"]
abbrev rA:List Str:=["_law_thing"]
abbrev qh:List Str:=["_law_hand_here","_law_most","_law_far","_law_step","_law_at","_law_row","_law_k"]
abbrev vM:List Str:=["_law_hand_here","_law_whole"]
abbrev sY:List Str:=["_law_hand_here","_law_whole","_law_way","_law_weights","_law_alike","_law_one","_law_most","_law_sets","_law_at"]
abbrev sW:List Str:=["_law_model_here","_law_part"]
abbrev o8:List Str:=["_law_sets","_law_rows","_law_row","_law_size","_law_one"]
abbrev sX:List Str:=["_law_whole","_law_rows","_law_member"]
abbrev sZ:List Str:=["_law_family","_law_k","_law_j"]
abbrev Ss:List Str:=["_law_script","_law_hand_here","_law_whole","_law_model_here","_law_ask","_law_told","_law_part","_law_clash","_law_peace"]
def Ci(s:Stmt)(j:Nat):Stmt:=match s with
 | .ClassDef _ _ _ b _ _ _ _ _ _ _=>b.getD j (.Pass ⟨0,0,0,0⟩)
 | _=>.Pass ⟨0,0,0,0⟩
abbrev bS:Stmt:=Ci (top 2) 0
abbrev cq:List Str:=["self","part"]
abbrev bO:Stmt:=Ci (top 20) 0
abbrev ke:List Str:=["self","ask","parts"]
abbrev cz:Stmt:=Ci (top 20) 1
abbrev oi:List Str:=["self","part"]
abbrev cA:Stmt:=Ci (top 20) 2
abbrev oj:List Str:=["self","part","peaceful","left","other"]
abbrev aX:Stmt:=(aH j6).getD 3 (.Pass ⟨0,0,0,0⟩)
abbrev mL:List Str:=["_law_part"]
abbrev bF:List Str:=["_law_model_here"]
structure qK where
 dR:Addr
 dO:FuncData
 ng:Addr
 m4:FuncData
 sf:Addr
 rR:FuncData
 pO:Addr
 pG:FuncData
 ni:Addr
 m6:FuncData
 nh:Addr
 m5:FuncData
 iF:Addr
 iD:FuncData
 gS:Addr
 gQ:FuncData
 fM:Addr
 fG:FuncData
 pN:Addr
 pF:FuncData
 m9:Addr
 mZ:FuncData
 wy:Addr
 v9:FuncData
 dz:Addr
 iT:FuncData
 kK:Addr
 kx:FuncData
 kJ:Addr
 ku:FuncData
 kG:Addr
 ko:FuncData
 kL:Addr
 kz:FuncData
 fN:Addr
 fH:FuncData
 gj:Addr
 gh:FuncData
 iG:Addr
 iE:FuncData
 gT:Addr
 gR:FuncData
 kI:Addr
 kr:FuncData
 jy:Addr
 jq:FuncData
 jw:Addr
 jn:FuncData
 gk:Addr
 gi:FuncData
 jx:Addr
 jo:FuncData
 jz:Addr
 jr:FuncData
 Lb:Addr
 CW:FuncData
 aK:Addr
 aS:Addr
 aZ:Addr
 eN:FuncData
 az:Addr
 bj:Addr
 eD:FuncData
 bJ:Addr
 fJ:FuncData
 bK:Addr
 fK:FuncData
structure Txt(K:PySem.W.Frag)(mg:Str->Option Value)(t:qK):Prop where
 gb:gZ K "each_once_in_order" "each_once_in_order" bH t.dR t.dO
 kF:Binds K t.dO ["tuples"] []
 kh:mg "each_once_in_order" = some (.ref t.dR)
 Ba:gZ K "order_of" "order_of" fw t.ng t.m4
 Am:Binds K t.m4 ["one"] []
 zF:mg "order_of" = some (.ref t.ng)
 yE:gZ K "set_of" "set_of" iL t.sf t.rR
 K3:Binds K t.rR ["numbers"] []
 JG:mg "set_of" = some (.ref t.sf)
 iZ:gZ K "is_part" "is_part" gD t.pO t.pG
 lA:Binds K t.pG ["one","other"] []
 lg:mg "is_part" = some (.ref t.pO)
 gW:gZ K "in_order" "in_order" fA t.ni t.m6
 ju:Binds K t.m6 ["family"] []
 jj:mg "in_order" = some (.ref t.ni)
 sF:gZ K "least_of" "least_of" fz t.nh t.m5
 Ao:Binds K t.m5 ["family"] []
 zG:mg "least_of" = some (.ref t.nh)
 lV:gZ K "greatest_of" "greatest_of" dw t.iF t.iD
 tN:Binds K t.iD ["family"] []
 tf:mg "greatest_of" = some (.ref t.iF)
 kQ:gZ K "holds_one_of" "holds_one_of" dc t.gS t.gQ
 rZ:Binds K t.gQ ["part","family"] []
 rB:mg "holds_one_of" = some (.ref t.gS)
 iY:gZ K "lies_in_one_of" "lies_in_one_of" cx t.fM t.fG
 pL:Binds K t.fG ["part","family"] []
 o9:mg "lies_in_one_of" = some (.ref t.fM)
 va:gZ K "rest_of" "rest_of" gC t.pN t.pF
 Gd:Binds K t.pF ["whole","part"] []
 EY:mg "rest_of" = some (.ref t.pN)
 sE:gZ K "parts_of" "parts_of" fu t.m9 t.mZ
 Al:Binds K t.mZ ["whole"] []
 zE:mg "parts_of" = some (.ref t.m9)
 Dw:gZ K "grown" "grown" kY t.wy t.v9
 Py:Binds K t.v9 ["whole","ask","part"] []
 Oe:mg "grown" = some (.ref t.wy)
 u6:gZ K "sounded" "sounded" bB t.dz t.iT
 Gb:Binds K t.iT ["whole","ask"] []
 Ez:mg "sounded" = some (.ref t.dz)
 qf:gZ K "_law_hand" "_law_hand" eU t.kK t.kx
 yx:Binds K t.kx ["_law_script"] []
 xO:mg "_law_hand" = some (.ref t.kK)
 gd:gZ K "_law_next" "_law_next" eR t.kJ t.ku
 ig:Binds K t.ku ["_law_hand_here"] []
 hX:mg "_law_next" = some (.ref t.kJ)
 qd:gZ K "_law_take" "_law_take" eO t.kG t.ko
 yv:Binds K t.ko ["_law_hand_here"] []
 xM:mg "_law_take" = some (.ref t.kG)
 bp:gZ K "_law_draw" "_law_draw" eV t.kL t.kz
 bz:Binds K t.kz ["_law_hand_here","_law_many"] []
 bu:mg "_law_draw" = some (.ref t.kL)
 cC:gZ K "_law_is_within" "_law_is_within" cy t.fN t.fH
 di:Binds K t.fH ["_law_one","_law_other"] []
 dg:mg "_law_is_within" = some (.ref t.fN)
 jH:gZ K "_law_is_whole" "_law_is_whole" cL t.gj t.gh
 qq:Binds K t.gh ["_law_thing"] []
 qi:mg "_law_is_whole" = some (.ref t.gj)
 lX:gZ K "_law_is_set" "_law_is_set" dy t.iG t.iE
 tO:Binds K t.iE ["_law_thing"] []
 tj:mg "_law_is_set" = some (.ref t.iG)
 kR:gZ K "_law_members" "_law_members" de t.gT t.gR
 sd:Binds K t.gR ["_law_hand_here","_law_most"] []
 rC:mg "_law_members" = some (.ref t.gT)
 qe:gZ K "_law_some" "_law_some" eQ t.kI t.kr
 yw:Binds K t.kr ["_law_hand_here","_law_whole"] []
 xN:mg "_law_some" = some (.ref t.kI)
 oM:gZ K "_law_model" "_law_model" er t.jy t.jq
 wq:Binds K t.jq ["_law_hand_here","_law_whole"] []
 vT:mg "_law_model" = some (.ref t.jy)
 gA:gZ K "_law_tells" "_law_tells" dY t.jw t.jn
 jv:Binds K t.jn ["_law_model_here","_law_part"] []
 jk:mg "_law_tells" = some (.ref t.jw)
 jI:gZ K "_law_in_order" "_law_in_order" cM t.gk t.gi
 qt:Binds K t.gi ["_law_sets"] []
 qj:mg "_law_in_order" = some (.ref t.gk)
 oK:gZ K "_law_parts" "_law_parts" dZ t.jx t.jo
 wo:Binds K t.jo ["_law_whole"] []
 vS:mg "_law_parts" = some (.ref t.jx)
 jB:gZ K "_law_apart" "_law_apart" eB t.jz t.jr
 oE:Binds K t.jr ["_law_family"] []
 oo:mg "_law_apart" = some (.ref t.jz)
 Yu:gZ K "law" "law" j6 t.Lb t.CW
 aDv:Binds K t.CW ["_law_script"] []
 aDs:mg "law" = some (.ref t.Lb)
 z_abs:mg "abs" = none
 z_all:mg "all" = none
 z_any:mg "any" = none
 z_bool:mg "bool" = none
 z_int:mg "int" = none
 z_isinstance:mg "isinstance" = none
 z_len:mg "len" = none
 z_list:mg "list" = none
 z_range:mg "range" = none
 z_reversed:mg "reversed" = none
 z_set:mg "set" = none
 z_sorted:mg "sorted" = none
 z_sum:mg "sum" = none
 z_tuple:mg "tuple" = none
 vU:mg "TruceError" = some (.ref t.aK)
 Mg:XC K t.aK
 kc_TruceError:PySem.W.keepIn K (.ref t.aK)=true
 ii_TruceError:PySem.W.findIn K (.ref t.aK) "__init__" = some (some (.builtin "ValueError.__init__"))
 rd_TruceError:PySem.W.readsIn K t.aK (.type "type")=true
 fc_TruceError:PySem.W.findCls K (.ref t.aK) (.type "type") "__init__" = some (.val (.builtin "ValueError.__init__"))
 sg_TruceError:PySem.W.specialIn K (.ref t.aK) "__getattribute__" = some (some (.builtin "type.__getattribute__"))
 Fb:mg "NoPeace" = some (.ref t.aS)
 oW:XC K t.aS
 kc_NoPeace:PySem.W.keepIn K (.ref t.aS)=true
 nj:gZ K "__init__" "NoPeace.__init__" bS t.aZ t.eN
 m8:Binds K t.eN cq []
 ii_NoPeace:PySem.W.findIn K (.ref t.aS) "__init__" = some (some (.ref t.aZ))
 if_NoPeace:PySem.W.typeIn K (.ref t.aZ)=some (.type "function")
 tk_NoPeace:PySem.W.takerIn K t.aS "part" = some none
 nf_NoPeace:PySem.W.findIn K (.ref t.aS) "part" = some none
 zH:mg "Sounding" = some (.ref t.az)
 aM:Cls K t.az
 jE:gq K t.az "ask"
 cv:gq K t.az "askings"
 bM:gq K t.az "known"
 cu:gq K t.az "unknown"
 xI:Mk K t.az t.bj
 lJ:gZ K "__init__" "Sounding.__init__" bO t.bj t.eD
 lF:Binds K t.eD ["self","ask","parts"] []
 pV:gZ K "tells" "Sounding.tells" cz t.bJ t.fJ
 iW:Binds K t.fJ ["self","part"] []
 g9:Meth K t.az "tells" t.bJ
 pW:gZ K "learn" "Sounding.learn" cA t.bK t.fK
 pM:Binds K t.fK ["self","part","peaceful"] []
 om:Meth K t.az "learn" t.bK
theorem j5:aO ke ["self","ask","parts"] (ag bO):=⟨rfl,rfl,rfl,by decide +kernel,rfl,by decide +kernel,by decide +kernel⟩
theorem nW:aO oi ["self","part"] (ag cz):=⟨rfl,rfl,rfl,by decide +kernel,rfl,by decide +kernel,by decide +kernel⟩
theorem e9:aO oj ["self","part","peaceful"] (ag cA):=⟨rfl,rfl,rfl,by decide +kernel,rfl,by decide +kernel,by decide +kernel⟩
theorem lB:aO cq cq (ag bS):=⟨rfl,rfl,rfl,by decide +kernel,rfl,by decide +kernel,by decide +kernel⟩
theorem dB:aO jR ["tuples"] (ag bH):=⟨rfl,rfl,rfl,by decide +kernel,rfl,by decide +kernel,by decide +kernel⟩
theorem xc:aO xD ["one"] (ag fw):=⟨rfl,rfl,rfl,by decide +kernel,rfl,by decide +kernel,by decide +kernel⟩
theorem Eh:aO Ey ["numbers"] (ag iL):=⟨rfl,rfl,rfl,by decide +kernel,rfl,by decide +kernel,by decide +kernel⟩
theorem qW:aO zq ["one","other"] (ag gD):=⟨rfl,rfl,rfl,by decide +kernel,rfl,by decide +kernel,by decide +kernel⟩
theorem xf:aO xF ["family"] (ag fA):=⟨rfl,rfl,rfl,by decide +kernel,rfl,by decide +kernel,by decide +kernel⟩
theorem j3:aO xE ["family"] (ag fz):=⟨rfl,rfl,rfl,by decide +kernel,rfl,by decide +kernel,by decide +kernel⟩
theorem gK:aO rz ["family"] (ag dw):=⟨rfl,rfl,rfl,by decide +kernel,rfl,by decide +kernel,by decide +kernel⟩
theorem jD:aO qg ["part","family"] (ag dc):=⟨rfl,rfl,rfl,by decide +kernel,rfl,by decide +kernel,by decide +kernel⟩
theorem g8:aO oa ["part","family"] (ag cx):=⟨rfl,rfl,rfl,by decide +kernel,rfl,by decide +kernel,by decide +kernel⟩
theorem yZ:aO zp ["whole","part"] (ag gC):=⟨rfl,rfl,rfl,by decide +kernel,rfl,by decide +kernel,by decide +kernel⟩
theorem g7:aO xC ["whole"] (ag fu):=⟨rfl,rfl,rfl,by decide +kernel,rfl,by decide +kernel,by decide +kernel⟩
theorem j4:aO Jz ["whole","ask","part"] (ag kY):=⟨rfl,rfl,rfl,by decide +kernel,rfl,by decide +kernel,by decide +kernel⟩
theorem gJ:aO dJ ["whole","ask"] (ag bB):=⟨rfl,rfl,rfl,by decide +kernel,rfl,by decide +kernel,by decide +kernel⟩
theorem vy:aO vO ["_law_script"] (ag eU):=⟨rfl,rfl,rfl,by decide +kernel,rfl,by decide +kernel,by decide +kernel⟩
theorem vx:aO vN ["_law_hand_here"] (ag eR):=⟨rfl,rfl,rfl,by decide +kernel,rfl,by decide +kernel,by decide +kernel⟩
theorem jg:aO vL ["_law_hand_here"] (ag eO):=⟨rfl,rfl,rfl,by decide +kernel,rfl,by decide +kernel,by decide +kernel⟩
theorem dX:aO vP ["_law_hand_here","_law_many"] (ag eV):=⟨rfl,rfl,rfl,by decide +kernel,rfl,by decide +kernel,by decide +kernel⟩
theorem nV:aO og ["_law_one","_law_other"] (ag cy):=⟨rfl,rfl,rfl,by decide +kernel,rfl,by decide +kernel,by decide +kernel⟩
theorem oZ:aO o7 ["_law_thing"] (ag cL):=⟨rfl,rfl,rfl,by decide +kernel,rfl,by decide +kernel,by decide +kernel⟩
theorem qX:aO rA ["_law_thing"] (ag dy):=⟨rfl,rfl,rfl,by decide +kernel,rfl,by decide +kernel,by decide +kernel⟩
theorem ck:aO qh ["_law_hand_here","_law_most"] (ag de):=⟨rfl,rfl,rfl,by decide +kernel,rfl,by decide +kernel,by decide +kernel⟩
theorem vw:aO vM ["_law_hand_here","_law_whole"] (ag eQ):=⟨rfl,rfl,rfl,by decide +kernel,rfl,by decide +kernel,by decide +kernel⟩
theorem bV:aO sY ["_law_hand_here","_law_whole"] (ag er):=⟨rfl,rfl,rfl,by decide +kernel,rfl,by decide +kernel,by decide +kernel⟩
theorem sU:aO sW ["_law_model_here","_law_part"] (ag dY):=⟨rfl,rfl,rfl,by decide +kernel,rfl,by decide +kernel,by decide +kernel⟩
theorem cZ:aO o8 ["_law_sets"] (ag cM):=⟨rfl,rfl,rfl,by decide +kernel,rfl,by decide +kernel,by decide +kernel⟩
theorem fU:aO sX ["_law_whole"] (ag dZ):=⟨rfl,rfl,rfl,by decide +kernel,rfl,by decide +kernel,by decide +kernel⟩
theorem iz:aO sZ ["_law_family"] (ag eB):=⟨rfl,rfl,rfl,by decide +kernel,rfl,by decide +kernel,by decide +kernel⟩
theorem jf:aO Ss ["_law_script"] (ag j6):=⟨rfl,rfl,rfl,by decide +kernel,rfl,by decide +kernel,by decide +kernel⟩
theorem Ym:bootBuiltins "abs" = some (.builtin "abs"):=by decide +kernel
theorem K5:bootBuiltins "all" = some (.builtin "all"):=by decide +kernel
theorem Di:bootBuiltins "any" = some (.builtin "any"):=by decide +kernel
theorem Ug:bootBuiltins "bool" = some (.type "bool"):=by decide +kernel
theorem Yl:bootBuiltins "int" = some (.type "int"):=by decide +kernel
theorem fh:bootBuiltins "isinstance" = some (.builtin "isinstance"):=by decide +kernel
theorem kE:bootBuiltins "len" = some (.builtin "len"):=by decide +kernel
theorem K4:bootBuiltins "list" = some (.type "list"):=by decide +kernel
theorem Ue:bootBuiltins "reversed" = some (.type "reversed"):=by decide +kernel
theorem Yk:bootBuiltins "set" = some (.type "set"):=by decide +kernel
theorem rY:bootBuiltins "sorted" = some (.builtin "sorted"):=by decide +kernel
theorem Yj:bootBuiltins "sum" = some (.builtin "sum"):=by decide +kernel
theorem jt:bootBuiltins "tuple" = some (.type "tuple"):=by decide +kernel
local macro_rules | `(tactic| walk_at "rd") => `(tactic| walk_at "rc")
local macro_rules | `(tactic| walk_at "rl") => `(tactic| first | (refine dA fun R hR => ?_) | walk_at "ry" | (refine Nx.to (by assumption) _ _ ?_))
local macro_rules | `(tactic| walk_at "rc") => do
  let ids := ("L2.start DX t9 D' wR tB G6 Vj wQ tC qT dh O6 Cv O7 Qf Kn G5 G4 wW wX uc DY Rh yS qQ G8 G3 HN rI rU YX YW Hr wY Uw Ie Nk Rx Ni Nh Br Bt Bs vE y7 qC y8 y9 vC Ia rg By RD qZ yT Ic RB Ij Rz RC Nm Nj Vl wU nM Rv Vo Ri qB vA q0 y0 vB o5 M9 Rf Ha Vn G7 wZ Rg wV Z' List.map_cons List.map_nil List.cons_append List.nil_append List.append_nil List.length_cons List.length_nil List.replicate List.getElem?_cons_zero List.getElem?_cons_succ List.set_cons_zero List.set_cons_succ Nat.reduceAdd Nat.reduceSub Nat.reduceLeDiff Option.some.injEq V.int.injEq V.ref.injEq V.str.injEq V.bl.injEq V.ty.injEq List.cons.injEq HO.lst.injEq HO.tup.injEq HO.dK.injEq exists_eq_left exists_eq_left' exists_and_left and_true true_and and_assoc exists_const reduceCtorEq ai qy decide_eq_true_eq List.length_map ite_true ite_false Bool.false_eq_true Bool.true_and Bool.and_true yA Dl Dk Dj K9 K8 zT zS zR zQ zP KN KJ KH KD Ah Ag Af Ae Aa bR Option.join_some Option.join_none qR vf yc JS JR Bw qP qO Bx Bu Bv vz Ry o5 Ib vD kZ yd JT JQ vd G0 Int.zero_add Int.reduceMul Int.reduceAdd Int.reduceSub Int.reduceLT Int.reduceLE Int.reducePow Int.reduceToNat Int.reduceNeg gt_iff_lt ge_iff_le vm hv Mj MT Be Bf Ends.Z9 HO.ext.injEq HO.xd.injEq Ql Qg Qe Ii Ih Ig xl HQ Bp Bh G' G9 Qa Vm Bd qz P' Vk HX vh vi Bg vj Mh".splitOn " ").toArray.map fun x => Lean.mkIdent x.toName
  `(tactic| simp only [$[$ids:ident],*])
local macro_rules | `(tactic| walk_at "ry") => do
  let ids := ("L2.start t9 D' wR tB G6 Vj wQ tC qT dh O6 Cv O7 Qf Kn G5 G4 wW wX uc DY Rh yS qQ G8 G3 HN rI rU YX YW Hr wY Uw Ie Nk Rx Ni Nh Br Bt Bs vE y7 qC y8 y9 vC Ia rg By RD qZ yT Ic RB Ij Rz RC Nm Nj Vl wU nM Rv Vo Ri qB vA q0 y0 vB o5 M9 Rf Ha Vn G7 wZ Rg wV Z' List.map_cons List.map_nil List.cons_append List.nil_append List.append_nil List.length_cons List.length_nil List.replicate List.getElem?_cons_zero List.getElem?_cons_succ List.set_cons_zero List.set_cons_succ Nat.reduceAdd Nat.reduceSub Nat.reduceLeDiff Option.some.injEq V.int.injEq V.ref.injEq V.str.injEq V.bl.injEq V.ty.injEq List.cons.injEq HO.lst.injEq HO.tup.injEq HO.dK.injEq exists_eq_left exists_eq_left' exists_and_left and_true true_and and_assoc exists_const reduceCtorEq ai qy decide_eq_true_eq List.length_map ite_true ite_false Bool.false_eq_true Bool.true_and Bool.and_true yA Dl Dk Dj K9 K8 zT zS zR zQ zP KN KJ KH KD Ah Ag Af Ae Aa bR Option.join_some Option.join_none qR vf yc JS JR Bw qP qO Bx Bu Bv vz Ry o5 Ib vD kZ yd JT JQ vd G0 Int.zero_add Int.reduceMul Int.reduceAdd Int.reduceSub Int.reduceLT Int.reduceLE Int.reducePow Int.reduceToNat Int.reduceNeg gt_iff_lt ge_iff_le vm hv Mj MT Be Bf Ends.Z9 HO.ext.injEq HO.xd.injEq Ql Qg Qe Ii Ih Ig xl HQ Bp Bh G' G9 Qa Vm Bd qz P' Vk HX vh vi Bg vj Mh".splitOn " ").toArray.map fun x => Lean.mkIdent x.toName
  `(tactic| simp only [$[$ids:ident],*])
section
variable {P:Program}{w:World}{K:PySem.W.Frag}{mg:Str->Option Value}{base:Heap}{t:qK}
theorem xu(T:Txt K mg t):bG P w K mg base eI 1 t.ng t.m4 ["one"] ug:=by
 refine T.Ba.n6 xc (λvs H Q E h=>?_) (λcB A outer s H vs Q E hr h hc hf=>?_)
 ·obtain⟨a,rfl,_⟩:=h;rfl
 obtain⟨a,rfl,xs,ha,q⟩:=h
 refine⟨_,(by exact ay (aL (fT (ae (aP fL (bZ hc) T.z_len kE (ae (ao hc 0) ah)) (ae (ao hc 0) ah))))),?_⟩
 repeat (first | walk_at "rd" | simp only[ha])
 exact⟨by decide,q⟩
theorem Oa(T:Txt K mg t):bG P w K mg base eI 4 t.dR t.dO ["tuples"] Hi:=by
 have Ay:=xu (P:=P) (w:=w) (base:=base) T
 refine T.gb.n6 dB (λvs H Q E h=>?_) (λcB A outer s H vs Q E hr h hc hf=>?_)
 ·obtain⟨a,rfl,_⟩:=h;rfl
 obtain⟨L,rfl,as,ss,hL,sat,Ol,q⟩:=h
 have hu:=kl hr
 have Lk:=hr.fk
 refine⟨_,(by apply aq;exact(aI hc dB.nd hf 1 (by decide +kernel) tV);apply aq;exact(cW PassesOwn.never rfl (cp (ao hc 0)) (jW hc dB.nd hf 2 (by decide +kernel)) (by exact ay (nC hu (ao hc 1) (ao hc 2) eM rfl)));exact ay (aL (Dy Ay (hr.mono (by omega)) (bZ hc) T.z_sorted rY (bZ hc) T.zF T.Am (ao hc 1)))),?_⟩
 repeat (walk_at "rd")
 intro p hp
 have sp:=aE hp (.dT [])
 have hpL:L≠p:=av hL hp
 refine⟨⟨_,aV (sp _ _ hL)⟩,?_⟩
 obtain⟨Pv,cH⟩:∃Pv:Nat->St->Hp->Prop,∀i σ' H',Pv i σ' H'↔∃(x:Option V) (aG:List (List Key×V)) (vs:List (List Int)),σ'=[some (.ref L),some (.ref p),x]/\H'=upd H p (.dT aG)/\aG.map (·.1)=vs.map (List.map Sum.inl)/\vs.Nodup/\∀z,z∈vs↔z∈ss.take i:=⟨_,λ_ _ _=>Iff.rfl⟩
 refine dN (xs:=List.map V.ref as) Pv ((cH _ _ _).mpr ⟨none,[],[],rfl,rfl,rfl,List.nodup_nil,λz=>by simp⟩) (λi σ' H1 _ pv=>?_) (λi x σ' H1 hx pv=>?_) (λσ' H1 pv=>?_)
 ·obtain⟨_,_,_,_,rfl,_⟩:=(cH _ _ _).mp pv
  rw[au hpL];exact hL
 ·obtain⟨y,aG,vs,rfl,rfl,ek,nd,mem⟩:=(cH _ _ _).mp pv
  obtain⟨a,ea,rfl⟩:=dG hx
  have hi:i<as.length:=(List.getElem?_eq_some_iff.mp ea).1
  have ox:i<ss.length:=by have:=sat.1;omega
  have es:ss[i]?=some ss[i]:=List.getElem?_eq_getElem ox
  have ha:=sat.2 i a _ ea es
  have hap:a≠p:=av ha hp
  have lk:aG.length<=90000:=by
   have h1:=congrArg List.length ek
   rw[List.length_map,List.length_map]at h1
   have h2:=du nd λx hx=>List.mem_of_mem_take ((mem x).mp hx)
   have:=sat.1
   omega
  simp only[dh,qY,wQ,tC,List.getElem?_cons_zero,List.getElem?_cons_succ,Option.some.injEq,exists_eq_left',List.set_cons_zero,List.set_cons_succ]
  refine⟨p,_,rfl,sG.t (k:=ss[i].map Sum.inl) ai (by rw[au hap,kg];exact ha) (vo (by omega)),?_⟩
  rw[qy]
  have et:ss.take (i+1)=ss.take i++[ss[i]]:=by rw[List.take_add_one,es];rfl
  by_cases J7:ss[i]∈vs
  ·refine(cH _ _ _).mpr ⟨_,_,vs,rfl,rfl,?_,nd,λz=>?_⟩
   ·rw[uH,if_pos (by rw[ek];exact List.mem_map_of_mem J7)];exact ek
   ·rw[et,List.mem_append,<-mem z,List.mem_singleton]
    exact⟨.inl,λh=>h.elim id λe=>by rw[e];exact J7⟩
  ·refine(cH _ _ _).mpr ⟨_,_,vs++[ss[i]],rfl,rfl,?_,?_,λz=>?_⟩
   ·rw[uH,if_neg (by rw[ek];intro z;obtain⟨v,hv,e⟩:=List.mem_map.mp z;exact J7 (by rw[<-vX e];exact hv)),ek,List.map_append];rfl
   ·rw[List.nodup_append]
    exact⟨nd,List.nodup_cons.mpr ⟨by simp,List.nodup_nil⟩,λx hx y hy=>by rw[List.mem_singleton.mp hy];exact λe=>J7 (by rw[<-e];exact hx)⟩
   ·rw[et,List.mem_append,List.mem_append,mem z]
 ·obtain⟨y,aG,vs,rfl,rfl,ek,nd,mem⟩:=(cH _ _ _).mp pv
  rw[List.length_map,sat.1,List.take_length]at mem
  have lv:vs.length<100000:=by
   have:=du nd λx hx=>(mem x).mp hx
   have:=sat.1
   omega
  repeat (walk_at "rd")
  refine⟨p,rfl,aG,vs,ai,ek,lv,λD H' bs ts s1 hD hD' st pm pw=>?_⟩
  have sH:bD H (upd H p (.dT aG)):=λb u e=>by rw[au (av e hp)];exact e
  exact q D H' bs ts (sH.trans s1) (sH.free hD) hD' st (pm.nodup_iff.mpr nd) (λx=>(pm.mem_iff).trans (mem x)) pw
theorem mP(T:Txt K mg t):bG P w K mg base eI 1 t.pO t.pG ["one","other"] Rn:=by
 refine T.iZ.n6 qW (λvs H Q E h=>?_) (λcB A outer s H vs Q E hr h hc hf=>?_)
 ·obtain⟨a,b,rfl,_⟩:=h;rfl
 obtain⟨a,b,rfl,x,y,ha,hb,q⟩:=h
 have hu:=kl hr
 have Lk:=hr.fk
 refine⟨_,(by apply aq;exact(cW PassesOwn.never rfl (e8 (ao hc 0)) (jW hc qW.nd hf 2 (by decide +kernel)) (by exact ay (bX (bA uC (ao hc 2) (ao hc 1) (by with_unfolding_all rfl)) (by exact ay (aL eM)) bt)));exact ay (aL eM)),?_⟩
 repeat (walk_at "rd")
 refine⟨⟨_,bE ha⟩,?_⟩
 obtain⟨Pv,cH⟩:∃Pv:Nat->St->Hp->Prop,∀i σ' H',Pv i σ' H'↔∃z:Option V,σ'=[some (.ref a),some (.ref b),z]/\H'=H/\(x.take i).all (λm=>decide (m∈y))=true:=⟨_,λ_ _ _=>Iff.rfl⟩
 refine gO (xs:=List.map V.int x) Pv ((cH _ _ _).mpr ⟨none,rfl,rfl,rfl⟩) (λi σ' H1 _ pv=>?_) (λi z σ' H1 hz pv=>?_) (λσ' H1 pv=>?_)
 ·obtain⟨_,_,rfl,_⟩:=(cH _ _ _).mp pv
  exact ha
 ·obtain⟨z',rfl,rfl,al⟩:=(cH _ _ _).mp pv
  obtain⟨n,en,rfl⟩:=int_at hz
  repeat (first | walk_at "rd" | simp only[hb])
  refine⟨rfl,pC y,?_⟩
  rw[rK]
  by_cases hm:n∈y
  ·rw[if_neg (by simp[hm])]
   refine(cH _ _ _).mpr ⟨_,rfl,rfl,?_⟩
   rw[List.take_add_one,en,List.all_append,al]
   simp[hm]
  ·rw[if_pos (by simp[hm])]
   have e:aA x y=false:=by
    unfold aA
    rw[List.all_eq_false]
    exact⟨n,List.mem_of_getElem? en,by simp[hm]⟩
   rw[<-e]
   exact q
 ·obtain⟨z',rfl,rfl,al⟩:=(cH _ _ _).mp pv
  rw[List.length_map,List.take_length]at al
  repeat (walk_at "rd")
  have e:aA x y=true:=al
  rw[<-e]
  exact q
theorem vJ(T:Txt K mg t):bG P w K mg base eI 2 t.gS t.gQ ["part","family"] (uh false):=by
 have gE:=mP (P:=P) (w:=w) (base:=base) T
 refine T.kQ.n6 jD (λvs H Q E h=>?_) (λcB A outer s H vs Q E hr h hc hf=>?_)
 ·obtain⟨a,L,rfl,_⟩:=h;rfl
 obtain⟨a,L,rfl,x,bs,ts,ha,hL,st,q⟩:=h
 refine⟨_,(by apply aq;exact(cW PassesOwn.never rfl (cp (ao hc 1)) (jW hc jD.nd hf 2 (by decide +kernel)) (by exact ay (bX (bQ (aB gE (hr.mono (by omega)) (bZ hc) T.lg T.iZ.kp T.lA .nil aR (ae (ao hc 2) (ae (ao hc 0) ah)))) (by exact ay (aL eM)) bt)));exact ay (aL eM)),?_⟩
 repeat (walk_at "rd")
 refine⟨⟨_,aV hL⟩,?_⟩
 obtain⟨Pv,cH⟩:∃Pv:Nat->St->Hp->Prop,∀i σ' H',Pv i σ' H'↔∃z:Option V,σ'=[some (.ref a),some (.ref L),z]/\H'=H/\(ts.take i).any (λt=>aA t x)=false:=⟨_,λ_ _ _=>Iff.rfl⟩
 refine dN (xs:=List.map V.ref bs) Pv ((cH _ _ _).mpr ⟨none,rfl,rfl,rfl⟩) (λi σ' H1 _ pv=>?_) (λi z σ' H1 hz pv=>?_) (λσ' H1 pv=>?_)
 ·obtain⟨_,_,rfl,_⟩:=(cH _ _ _).mp pv
  exact hL
 ·obtain⟨z',rfl,rfl,al⟩:=(cH _ _ _).mp pv
  obtain⟨b,eb,rfl⟩:=dG hz
  have hi:i<bs.length:=(List.getElem?_eq_some_iff.mp eb).1
  have ox:i<ts.length:=by have:=st.1;omega
  have et:ts[i]?=some ts[i]:=List.getElem?_eq_getElem ox
  repeat (walk_at "rd")
  refine⟨b,a,rfl,_,x,st.2 i b _ eb et,ha,?_⟩
  repeat (walk_at "rd")
  by_cases hp:aA ts[i] x=true
  ·rw[if_pos hp]
   have e:ts.any (λt=>if false then aA x t else aA t x)=true:=List.any_eq_true.mpr ⟨ts[i],List.getElem_mem ox,hp⟩
   rw[<-e]
   exact q
  ·rw[if_neg hp]
   refine(cH _ _ _).mpr ⟨_,rfl,rfl,?_⟩
   rw[List.take_add_one,et,List.any_append,al]
   simp[hp]
 ·obtain⟨z',rfl,rfl,al⟩:=(cH _ _ _).mp pv
  rw[List.length_map,st.1,List.take_length]at al
  repeat (walk_at "rd")
  have e:ts.any (λt=>if false then aA x t else aA t x)=false:=al
  rw[<-e]
  exact q
theorem xA(T:Txt K mg t):bG P w K mg base eI 2 t.fM t.fG ["part","family"] (uh true):=by
 have gE:=mP (P:=P) (w:=w) (base:=base) T
 refine T.iY.n6 g8 (λvs H Q E h=>?_) (λcB A outer s H vs Q E hr h hc hf=>?_)
 ·obtain⟨a,L,rfl,_⟩:=h;rfl
 obtain⟨a,L,rfl,x,bs,ts,ha,hL,st,q⟩:=h
 refine⟨_,(by apply aq;exact(cW PassesOwn.never rfl (cp (ao hc 1)) (jW hc g8.nd hf 2 (by decide +kernel)) (by exact ay (bX (bQ (aB gE (hr.mono (by omega)) (bZ hc) T.lg T.iZ.kp T.lA .nil aR (ae (ao hc 0) (ae (ao hc 2) ah)))) (by exact ay (aL eM)) bt)));exact ay (aL eM)),?_⟩
 repeat (walk_at "rd")
 refine⟨⟨_,aV hL⟩,?_⟩
 obtain⟨Pv,cH⟩:∃Pv:Nat->St->Hp->Prop,∀i σ' H',Pv i σ' H'↔∃z:Option V,σ'=[some (.ref a),some (.ref L),z]/\H'=H/\(ts.take i).any (λt=>aA x t)=false:=⟨_,λ_ _ _=>Iff.rfl⟩
 refine dN (xs:=List.map V.ref bs) Pv ((cH _ _ _).mpr ⟨none,rfl,rfl,rfl⟩) (λi σ' H1 _ pv=>?_) (λi z σ' H1 hz pv=>?_) (λσ' H1 pv=>?_)
 ·obtain⟨_,_,rfl,_⟩:=(cH _ _ _).mp pv
  exact hL
 ·obtain⟨z',rfl,rfl,al⟩:=(cH _ _ _).mp pv
  obtain⟨b,eb,rfl⟩:=dG hz
  have hi:i<bs.length:=(List.getElem?_eq_some_iff.mp eb).1
  have ox:i<ts.length:=by have:=st.1;omega
  have et:ts[i]?=some ts[i]:=List.getElem?_eq_getElem ox
  repeat (walk_at "rd")
  refine⟨a,b,rfl,x,_,ha,st.2 i b _ eb et,?_⟩
  repeat (walk_at "rd")
  by_cases hp:aA x ts[i]=true
  ·rw[if_pos hp]
   have e:ts.any (λt=>if true then aA x t else aA t x)=true:=List.any_eq_true.mpr ⟨ts[i],List.getElem_mem ox,hp⟩
   rw[<-e]
   exact q
  ·rw[if_neg hp]
   refine(cH _ _ _).mpr ⟨_,rfl,rfl,?_⟩
   rw[List.take_add_one,et,List.any_append,al]
   simp[hp]
 ·obtain⟨z',rfl,rfl,al⟩:=(cH _ _ _).mp pv
  rw[List.length_map,st.1,List.take_length]at al
  repeat (walk_at "rd")
  have e:ts.any (λt=>if true then aA x t else aA t x)=false:=al
  rw[<-e]
  exact q
theorem ka(T:Txt K mg t):bG P w K mg base eI 5 t.ni t.m6 ["family"] Hi:=by
 have kP:=Oa (P:=P) (w:=w) (base:=base) T
 refine T.gW.n6 xf (λvs H Q E h=>?_) (λcB A outer s H vs Q E hr h hc hf=>?_)
 ·obtain⟨a,rfl,_⟩:=h;rfl
 have h':=h
 obtain⟨L,rfl,_⟩:=h
 refine⟨_,(by exact ay (aL (aB kP (hr.mono (by omega)) (bZ hc) T.kh T.gb.kp T.kF .nil aR (ae (ao hc 0) ah)))),?_⟩
 repeat (walk_at "rd")
 exact h'
end
local macro_rules | `(tactic| walk_at "rd") => `(tactic| walk_at "rc")
local macro_rules | `(tactic| walk_at "rl") => `(tactic| first | (refine dA fun R hR => ?_) | walk_at "ry" | (refine Nx.to (by assumption) _ _ ?_))
section
variable {P:Program}{w:World}{K:PySem.W.Frag}{mg:Str->Option Value}{base:Heap}{t:qK}
theorem N9(T:Txt K mg t):bG P w K mg base eI 1 t.pN t.pF ["whole","part"] Rm:=by
 refine T.va.n6 yZ (λvs H Q E h=>?_) (λcB A outer s H vs Q E hr h hc hf=>?_)
 ·obtain⟨a,b,rfl,_⟩:=h;rfl
 obtain⟨a,b,rfl,x,y,ha,hb,lx,q⟩:=h
 have hu:=kl hr
 have Lk:=hr.fk
 refine⟨_,(by exact ay (aL (eL fX (bZ hc) T.z_tuple jt (ae (cg hc ["member"] [1] rfl (by decide +kernel) (e8 (ao hc 0)) (λ_ hc=>jX hc (by decide +kernel) 0 (by decide +kernel)) (λ_ hc=>iI (bA uC (ao hc 0) (ao hc 1) (by with_unfolding_all rfl))) (λ_ hc=>(ao hc 0))) ah)))),?_⟩
 repeat (walk_at "rd")
 refine⟨⟨_,bE ha⟩,?_⟩
 obtain⟨Pc,jl⟩:∃Pc:Addr->Nat->List V->Hp->Prop,∀Z i ys H',Pc Z i ys H'↔ys=List.map V.int (cO (x.take i) y)/\bD H H'/\H' Z=some (.lst ys):=⟨_,λ_ _ _ _=>Iff.rfl⟩
 refine ie (zs:=List.map V.int x) Pc (λZ hZ=>(jl _ _ _ _).mpr ⟨rfl,aE hZ _,ai⟩) (λZ hZ i ys H' _ pv=>?_) (λZ hZ i z ys H' hz pv cb=>?_) (λZ hZ ys H' pv=>?_)
 ·obtain⟨_,s,_⟩:=(jl _ _ _ _).mp pv
  exact s _ _ ha
 ·obtain⟨rfl,s1,pA⟩:=(jl _ _ _ _).mp pv
  obtain⟨n,en,rfl⟩:=int_at hz
  have hi:i<x.length:=(List.getElem?_eq_some_iff.mp en).1
  have z4:=s1 _ _ hb
  have ef:cO (x.take (i+1)) y=cO (x.take i) y++(if n∈y then [] else [n]):=by
   unfold cO
   rw[List.take_add_one,en,List.filter_append]
   by_cases hm:n∈y <;> simp[hm]
  walk_at "rc"
  repeat (first | walk_at "rd" | simp only[z4])
  refine⟨rfl,pC y,?_⟩
  rw[rK]
  by_cases hm:n∈y
  ·rw[if_neg (by simp[hm])]
   refine(jl _ _ _ _).mpr ⟨?_,s1,pA⟩
   rw[ef,if_pos hm,List.append_nil]
  ·rw[if_pos (by simp[hm])]
   have ll:(cO (x.take i) y).length<=900:=Nat.le_trans (List.length_filter_le _ _) (by rw[List.length_take];omega)
   refine⟨pA,bN (by omega),(jl _ _ _ _).mpr ⟨?_,kX s1 hZ,ai⟩⟩
   rw[ef,if_neg hm,List.map_append]
   rfl
 ·obtain⟨rfl,s1,pA⟩:=(jl _ _ _ _).mp pv
  rw[List.length_map,List.take_length]at pA
  refine⟨Z,rfl,_,pA,λp hp=>q p _ (s1.trans (aE hp _)) (s1.free hp) ?_⟩
  exact ai
end
def Hh:Sp:=λvs H Q _=>∃L,vs=[.ref L]/\∃ns:List Int,H L=some (.tup (List.map V.int ns))/\ns.length<64/\∀p ms H',bD H H'->H p=none->H' p=some (.tup (List.map V.int ms))->dF ms->(∀x,x∈ms↔x∈ns)->Q (.ref p) H'
section
variable {P:Program}{w:World}{K:PySem.W.Frag}{mg:Str->Option Value}{base:Heap}{t:qK}
theorem Es(T:Txt K mg t):bG P w K mg base eI 1 t.sf t.rR ["numbers"] Hh:=by
 refine T.yE.n6 Eh (λvs H Q E h=>?_) (λcB A outer s H vs Q E hr h hc hf=>?_)
 ·obtain⟨L,rfl,_⟩:=h;rfl
 obtain⟨L,rfl,ns,hL,l64,q⟩:=h
 refine⟨_,(by exact ay (aL (eL fX (bZ hc) T.z_tuple jt (ae (aP (rV hr.hd) (bZ hc) T.z_sorted rY (ae (eL (Aj hr.hd) (bZ hc) T.z_set Yk (ae (ao hc 0) ah)) ah)) ah)))),?_⟩
 repeat (first | walk_at "rd" | simp only[hL])
 refine⟨ns,rfl,by omega,λp hp=>⟨ns,rfl,l64,λss' mem up p1 nr l hl=>?_⟩⟩
 exact q l ss' _ (((aE hp _).trans (aE nr _)).trans (aE hl _)) (((aE hp _).trans (aE nr _)).free hl) ai up mem
end
def Mv:Sp:=λvs H Q _=>∃W,vs=[.ref W]/\∃x:List Int,H W=some (.tup (List.map V.int x))/\x.length<=10/\
 ∀D H' bs ts,bD H H'->H D=none->H' D=some (.lst (List.map V.ref bs))->aF H' bs ts->ts.Nodup->(∀t,t∈ts↔t∈cD x)->ts.Pairwise (λa b=>bU a b=true)->Q (.ref D) H'
section
variable {P:Program}{w:World}{K:PySem.W.Frag}{mg:Str->Option Value}{base:Heap}{t:qK}
theorem Jm(T:Txt K mg t):bG P w K mg base eI 6 t.m9 t.mZ ["whole"] Mv:=by
 have fQ:=ka (P:=P) (w:=w) (base:=base) T
 refine T.sE.n6 g7 (λvs H Q E h=>?_) (λcB A outer s H vs Q E hr h hc hf=>?_)
 ·obtain⟨a,rfl,_⟩:=h;rfl
 obtain⟨W,rfl,x,hW,lx,q⟩:=h
 refine⟨_,(by apply aq;exact(aI hc g7.nd hf 1 (by decide +kernel) (dC (ae (fT ah) ah)));apply aq;exact(cW PassesOwn.never rfl (e8 (ao hc 0)) (jW hc g7.nd hf 2 (by decide +kernel)) (by exact ay (aI hc g7.nd hf 1 (by decide +kernel) (aT zi (ao hc 1) (cg hc ["part"] [2] rfl (by decide +kernel) (cp (ao hc 1)) (λ_ hc=>jX hc (by decide +kernel) 0 (by decide +kernel)) (λ_ _=>cK) (λ_ hc=>(aT rk (ao hc 0) (fT (ae (ao hc 1) ah)))))))));exact ay (aL (aB fQ (hr.mono (by omega)) (bZ hc) T.jj T.gW.kp T.ju .nil aR (ae (ao hc 1) ah)))),?_⟩
 repeat (walk_at "rd")
 refine⟨by decide,λp hp=>⟨by decide,λL0 Ly=>?_⟩⟩
 have s0:=(aE hp (.tup [])).trans (aE Ly (.lst [V.ref p]))
 have Gq:upd (upd H p (.tup [])) L0 (.lst [V.ref p]) p=some (.tup []):=(aE Ly _) _ _ ai
 have Qt:upd (upd H p (.tup [])) L0 (.lst [V.ref p]) L0=some (.lst [V.ref p]):=ai
 generalize upd (upd H p (.tup [])) L0 (.lst [V.ref p])=H0 at s0 Gq Qt ⊢
 refine⟨⟨_,bE (s0 _ _ hW)⟩,?_⟩
 obtain⟨Pv,cH⟩:∃Pv:Nat->St->Hp->Prop,∀i σ' H',Pv i σ' H'↔∃(L:Addr) (z:Option V) (bs:List Addr),σ'=[some (.ref W),some (.ref L),z]/\bD H H'/\H' L=some (.lst (List.map V.ref bs))/\aF H' bs (cD (x.take i)):=⟨_,λ_ _ _=>Iff.rfl⟩
 refine gO (xs:=List.map V.int x) Pv ((cH _ _ _).mpr ⟨L0,none,[p],rfl,s0,Qt,rfl,λi b t h1 h2=>?_⟩) (λi σ' H1 _ pv=>?_) (λi z σ' H1 hz pv=>?_) (λσ' H1 pv=>?_)
 ·have LK:([[]]:List (List Int))[i]?=some t:=h2
  cases i with
  | zero=>cases h1;cases LK;exact Gq
  | succ n=>simp at h1
 ·obtain⟨_,_,_,_,s1,_⟩:=(cH _ _ _).mp pv
  exact s1 _ _ hW
 ·obtain⟨L,z',bs,rfl,s1,hL,sa⟩:=(cH _ _ _).mp pv
  obtain⟨m,em,rfl⟩:=int_at hz
  have hi:i<x.length:=(List.getElem?_eq_some_iff.mp em).1
  have et:x.take (i+1)=x.take i++[m]:=by rw[List.take_add_one,em];rfl
  have lb:bs.length<=1024:=by
   rw[sa.1,gB,List.length_take];exact rh (by omega)
  have ls:=sa.1
  repeat (walk_at "rd")
  refine⟨⟨_,aV hL⟩,?_⟩
  refine dk (zs:=List.map V.ref bs) (λj=>(cD (x.take i))[j]?.map (· ++ [m])) (λ_=>gp) gp.same gp.puts hL (by rw[List.length_map];omega) (λDD c H2 j z yes no hj s2 Ki Kh dv tH=>?_) (λD H2 vs s2 hD v5 rl=>?_)
  ·obtain⟨b,eb,rfl⟩:=dG hj
   have Fs:j<bs.length:=(List.getElem?_eq_some_iff.mp eb).1
   have es:(cD (x.take i))[j]?=some ((cD (x.take i))[j]'(by omega)):=List.getElem?_eq_getElem _
   have hb:=s2 _ _ (sa.2 j b _ eb es)
   have ye:=dv ((cD (x.take i))[j]'(by omega)++[m]) (by rw[es];rfl)
   have ly:=iy (List.getElem_mem (l:=cD (x.take i)) (n:=j) (by omega))
   rw[List.length_take]at ly
   generalize (cD (x.take i))[j]'(by omega)=y at hb ye ly
   walk_at "rc"
   repeat (walk_at "rd")
   refine⟨by decide,λp1 nr=>⟨_,(aE nr _) _ _ hb,by rw[List.length_map];exact ft (by omega),λp2 H3 s3 _ Qr=>ye _ _ ((aE nr _).trans s3) ⟨p2,rfl,by rw[Qr,List.map_append];rfl⟩⟩⟩
  ·obtain⟨cs,rfl,sc⟩:=qA rl
   rw[List.length_map,ls,km (l:=cD (x.take i)) (g:=(· ++ [m])) λk hk=>by rw[List.getElem?_eq_getElem hk];rfl]at sc
   have Kf:=s2 _ _ hL
   repeat (first | walk_at "rd" | simp only[Kf,v5])
   have lc:=sc.1
   rw[List.length_map]at lc
   refine⟨ft (by omega),λp1 nr=>(cH _ _ _).mpr ⟨p1,_,bs++cs,rfl,(s1.trans s2).trans (aE nr _),by rw[ai,List.map_append],?_⟩⟩
   rw[et,qU]
   exact((sa.mono λb xs e=>s2 _ _ e).app sc).mono λb xs e=>(aE nr _) _ _ e
 ·obtain⟨L,z',bs,rfl,s1,hL,sa⟩:=(cH _ _ _).mp pv
  rw[List.length_map,List.take_length]at sa
  repeat (walk_at "rd")
  refine⟨L,rfl,bs,_,hL,sa,?_,λD H2 cs ts s2 hD v5 sc nd mem pw=>q D H2 cs ts (s1.trans s2) (s1.free hD) v5 sc nd mem pw⟩
  rw[sa.1,gB]
  have:=rh lx
  omega
end
local macro_rules | `(tactic| walk_at "rd") => `(tactic| walk_at "rc")
local macro_rules | `(tactic| walk_at "rl") => `(tactic| first | (refine dA fun R hR => ?_) | walk_at "ry" | (refine Nx.to (by assumption) _ _ ?_))
def Bi(g:List (List Int)->List Int->Prop):Sp:=λvs H Q _=>∃L,vs=[.ref L]/\∃as ss,H L=some (.lst (List.map V.ref as))/\aF H as ss/\as.length<=90000/\(∀x∈ss,dF x)/\
 ∀D H' bs ts,bD H H'->H D=none->H' D=some (.lst (List.map V.ref bs))->aF H' bs ts->(∀x,x∈ts↔x∈ss/\g ss x)->ts.Pairwise (λa b=>bU a b=true)->Q (.ref D) H'
section
variable {P:Program}{w:World}{K:PySem.W.Frag}{mg:Str->Option Value}{base:Heap}{t:qK}
theorem Jp(T:Txt K mg t):bG P w K mg base eI 6 t.nh t.m5 ["family"] (Bi λss x=>∀y∈ss,aA y x=true->y=x):=by
 have fQ:=ka (P:=P) (w:=w) (base:=base) T
 have sj:=vJ (P:=P) (w:=w) (base:=base) T
 refine T.sF.n6 j3 (λvs H Q E h=>?_) (λcB A outer s H vs Q E hr h hc hf=>?_)
 ·obtain⟨L,rfl,_⟩:=h;rfl
 obtain⟨L,rfl,as,ss,hL,sat,Ol,rise,q⟩:=h
 refine⟨_,(by apply aq;exact(aI hc j3.nd hf 1 (by decide +kernel) (dC ah));apply aq;exact(cW PassesOwn.never rfl (cp (aB fQ (hr.mono (by omega)) (bZ hc) T.jj T.gW.kp T.ju .nil aR (ae (ao hc 0) ah))) (jW hc j3.nd hf 2 (by decide +kernel)) (by exact ay (bX (dU (bQ (aB sj (hr.mono (by omega)) (bZ hc) T.rB T.kQ.kp T.rZ .nil aR (ae (ao hc 2) (ae (ao hc 1) ah))))) (by exact ay (dm (oU PySem.F.plainAttrs_list PySem.F.slot_list_append PySem.F.type_list_append fC (ao hc 1) (ae (ao hc 2) ah)))) bt)));exact ay (aL (ao hc 1))),?_⟩
 repeat (walk_at "rd")
 refine⟨by decide,λR hR=>?_⟩
 have sR:=aE hR (.lst [])
 refine⟨L,rfl,as,ss,sR _ _ hL,sat.mono λb xs e=>sR _ _ e,Ol,λD H1 bs ts s1 hD wG st nd mem pw=>?_⟩
 have QG:H1 R=some (.lst []):=s1 _ _ ai
 have lt:ts.length<=90000:=by
  have:=du nd λx hx=>(mem x).mp hx
  have:=sat.1
  omega
 have hRD:R≠D:=av ai hD
 repeat (walk_at "rd")
 refine⟨⟨_,aV wG⟩,?_⟩
 obtain⟨Pv,cH⟩:∃Pv:Nat->St->Hp->Prop,∀i σ' H',Pv i σ' H'↔∃(x:Option V) (cs:List Addr) (vs:List (List Int)),σ'=[some (.ref L),some (.ref R),x]/\H'=upd H1 R (.lst (List.map V.ref cs))/\aF H1 cs vs/\vs.length<=i/\gM ts []=gM (ts.drop i) vs:=⟨_,λ_ _ _=>Iff.rfl⟩
 refine dN (xs:=List.map V.ref bs) Pv ((cH _ _ _).mpr ⟨none,[],[],rfl,?_,⟨rfl,λi b t e=>by simp at e⟩,Nat.le_refl _,rfl⟩) (λi σ' H2 _ pv=>?_) (λi z σ' H2 hz pv=>?_) (λσ' H2 pv=>?_)
 ·funext b
  by_cases e:b=R
  ·rw[e,ai,QG];rfl
  ·rw[au e]
 ·obtain⟨_,_,_,_,rfl,_⟩:=(cH _ _ _).mp pv
  rw[au hRD.symm];exact wG
 ·obtain⟨y,cs,vs,rfl,rfl,sv,lv,ef⟩:=(cH _ _ _).mp pv
  obtain⟨b,eb,rfl⟩:=dG hz
  have hi:i<bs.length:=(List.getElem?_eq_some_iff.mp eb).1
  have ox:i<ts.length:=by have:=st.1;omega
  have et:ts[i]?=some ts[i]:=List.getElem?_eq_getElem ox
  have hb:=st.2 i b _ eb et
  have k1:∀o c xs,H1 c=some (.tup xs)->upd H1 R o c=some (.tup xs):=λo c xs e=>by rw[au (aW e QG (by intro z;cases z))];exact e
  rw[List.drop_eq_getElem_cons ox]at ef
  have Pj:gM ts []=gM (ts.drop (i+1)) (if vs.any (λt=>aA t ts[i]) then vs else vs++[ts[i]]):=ef
  repeat (walk_at "rd")
  refine⟨b,R,rfl,_,cs,vs,k1 _ _ _ hb,ai,sv.mono (k1 _),?_⟩
  repeat (walk_at "rd")
  by_cases c:vs.any (λt=>aA t ts[i])=true
  ·rw[if_neg (by rw[c];simp)]
   rw[if_pos c]at Pj
   exact(cH _ _ _).mpr ⟨_,cs,vs,rfl,rfl,sv,by omega,Pj⟩
  ·rw[if_pos (by rw[eq_false_of_ne_true c];rfl)]
   rw[if_neg c]at Pj
   refine⟨.inl ⟨rfl,_,aV ai⟩,by rw[sv.1];exact vo (by omega),?_⟩
   exact(cH _ _ _).mpr ⟨_,cs++[b],vs++[ts[i]],rfl,by rw[List.map_append];rfl,sv.snoc hb,by rw[List.length_append];simp;omega,Pj⟩
 ·obtain⟨y,cs,vs,rfl,rfl,sv,lv,ef⟩:=(cH _ _ _).mp pv
  have ln:(List.map V.ref bs).length=ts.length:=by rw[List.length_map,st.1]
  rw[ln,List.drop_length]at ef
  have ev:vs=gM ts []:=ef.symm
  repeat (walk_at "rd")
  have rt:∀x∈ts,dF x:=λx hx=>rise x ((mem x).mp hx)
  obtain⟨l,el,sl⟩:=mS ts []
  rw[List.nil_append]at el
  have k1:∀o c xs,H1 c=some (.tup xs)->upd H1 R o c=some (.tup xs):=λo c xs e=>by rw[au (aW e QG (by intro z;cases z))];exact e
  refine q R _ cs vs (λc u e=>?_) hR ai (sv.mono (k1 _)) (λx=>?_) (by rw[ev,el];exact pw.sublist sl)
  ·rw[au (av e hR)];exact s1 _ _ (sR _ _ e)
  ·rw[ev]
   have:=rH ts [] [] (by simpa using rt) (by simpa using pw) (λx=>by simp) x
   rw[List.nil_append]at this
   rw[this]
   constructor
   ·rintro⟨h1,h2⟩
    exact⟨(mem x).mp h1,λy hy=>h2 y ((mem y).mpr hy)⟩
   ·rintro⟨h1,h2⟩
    exact⟨(mem x).mpr h1,λy hy=>h2 y ((mem y).mp hy)⟩
theorem xB(T:Txt K mg t):bG P w K mg base eI 6 t.iF t.iD ["family"] (Bi λss x=>∀y∈ss,aA x y=true->y=x):=by
 have fQ:=ka (P:=P) (w:=w) (base:=base) T
 have pR:=xA (P:=P) (w:=w) (base:=base) T
 refine T.lV.n6 gK (λvs H Q E h=>?_) (λcB A outer s H vs Q E hr h hc hf=>?_)
 ·obtain⟨L,rfl,_⟩:=h;rfl
 obtain⟨L,rfl,as,ss,hL,sat,Ol,rise,q⟩:=h
 refine⟨_,(by apply aq;exact(aI hc gK.nd hf 1 (by decide +kernel) (dC ah));apply aq;exact(cW PassesOwn.never rfl (L1 (bZ hc) T.z_reversed (ae (aB fQ (hr.mono (by omega)) (bZ hc) T.jj T.gW.kp T.ju .nil aR (ae (ao hc 0) ah)) ah)) (jW hc gK.nd hf 2 (by decide +kernel)) (by exact ay (bX (dU (bQ (aB pR (hr.mono (by omega)) (bZ hc) T.o9 T.iY.kp T.pL .nil aR (ae (ao hc 2) (ae (ao hc 1) ah))))) (by exact ay (dm (oU PySem.F.plainAttrs_list PySem.F.slot_list_append PySem.F.type_list_append fC (ao hc 1) (ae (ao hc 2) ah)))) bt)));exact ay (aL (aB fQ (hr.mono (by omega)) (bZ hc) T.jj T.gW.kp T.ju .nil aR (ae (ao hc 1) ah)))),?_⟩
 repeat (walk_at "rd")
 refine⟨by decide,λR hR=>?_⟩
 have sR:=aE hR (.lst [])
 refine⟨L,rfl,as,ss,sR _ _ hL,sat.mono λb xs e=>sR _ _ e,Ol,λD H1 bs ts s1 hD wG st nd mem pw=>?_⟩
 have QG:H1 R=some (.lst []):=s1 _ _ ai
 have lt:ts.length<=90000:=by
  have:=du nd λx hx=>(mem x).mp hx
  have:=sat.1
  omega
 have hRD:R≠D:=av ai hD
 have str:=st.rev
 repeat (walk_at "rd")
 refine⟨_,aV wG,?_⟩
 obtain⟨Pv,cH⟩:∃Pv:Nat->St->Hp->Prop,∀i σ' H',Pv i σ' H'↔∃(x:Option V) (cs:List Addr) (vs:List (List Int)),σ'=[some (.ref L),some (.ref R),x]/\H'=upd H1 R (.lst (List.map V.ref cs))/\aF H1 cs vs/\vs.length<=i/\gN ts.reverse []=gN (ts.reverse.drop i) vs:=⟨_,λ_ _ _=>Iff.rfl⟩
 refine z8 (xs:=List.map V.ref bs) Pv ((cH _ _ _).mpr ⟨none,[],[],rfl,?_,⟨rfl,λi b t e=>by simp at e⟩,Nat.le_refl _,rfl⟩) (λi σ' H2 _ pv=>?_) (λi z σ' H2 hz pv=>?_) (λσ' H2 pv=>?_)
 ·funext b
  by_cases e:b=R
  ·rw[e,ai,QG];rfl
  ·rw[au e]
 ·obtain⟨_,_,_,_,rfl,_⟩:=(cH _ _ _).mp pv
  rw[au hRD.symm];exact wG
 ·obtain⟨y,cs,vs,rfl,rfl,sv,lv,ef⟩:=(cH _ _ _).mp pv
  rw[<-List.map_reverse]at hz
  obtain⟨b,eb,rfl⟩:=dG hz
  have hi:i<bs.reverse.length:=(List.getElem?_eq_some_iff.mp eb).1
  have ox:i<ts.reverse.length:=by have:=str.1;omega
  have hi3:i<90000:=by rw[List.length_reverse]at ox;omega
  have et:ts.reverse[i]?=some ts.reverse[i]:=List.getElem?_eq_getElem ox
  have hb:=str.2 i b _ eb et
  have k1:∀o c xs,H1 c=some (.tup xs)->upd H1 R o c=some (.tup xs):=λo c xs e=>by rw[au (aW e QG (by intro z;cases z))];exact e
  rw[List.drop_eq_getElem_cons ox]at ef
  have Pj:gN ts.reverse []=gN (ts.reverse.drop (i+1)) (if vs.any (λt=>aA ts.reverse[i] t) then vs else vs++[ts.reverse[i]]):=ef
  repeat (walk_at "rd")
  refine⟨b,R,rfl,_,cs,vs,k1 _ _ _ hb,ai,sv.mono (k1 _),?_⟩
  repeat (walk_at "rd")
  by_cases c:vs.any (λt=>aA ts.reverse[i] t)=true
  ·rw[if_neg (by rw[c];simp)]
   rw[if_pos c]at Pj
   exact(cH _ _ _).mpr ⟨_,cs,vs,rfl,rfl,sv,by omega,Pj⟩
  ·rw[if_pos (by rw[eq_false_of_ne_true c];rfl)]
   rw[if_neg c]at Pj
   refine⟨.inl ⟨rfl,_,aV ai⟩,by rw[sv.1];exact vo (by omega),?_⟩
   exact(cH _ _ _).mpr ⟨_,cs++[b],vs++[ts.reverse[i]],rfl,by rw[List.map_append];rfl,sv.snoc hb,by rw[List.length_append];simp;omega,Pj⟩
 ·obtain⟨y,cs,vs,rfl,rfl,sv,lv,ef⟩:=(cH _ _ _).mp pv
  have ln:(List.map V.ref bs).length=ts.reverse.length:=by rw[List.length_map,st.1,List.length_reverse]
  rw[ln,List.drop_length]at ef
  have ev:vs=gN ts.reverse []:=ef.symm
  repeat (walk_at "rd")
  have rt:∀x∈ts,dF x:=λx hx=>rise x ((mem x).mp hx)
  obtain⟨l,el,sl⟩:=mW ts.reverse []
  rw[List.nil_append]at el
  have k1:∀o c xs,H1 c=some (.tup xs)->upd H1 R o c=some (.tup xs):=λo c xs e=>by rw[au (aW e QG (by intro z;cases z))];exact e
  have mv:∀x,x∈vs↔x∈ts/\∀y∈ts,aA x y=true->y=x:=λx=>by
   rw[ev]
   have:=rO ts.reverse [] [] (by simpa using rt) (by rw[List.nil_append,List.pairwise_reverse];exact pw) (λx=>by simp) (λy hy=>by simp at hy) x
   rw[List.nil_append]at this
   simpa using this
  have lv2:vs.length<=ts.length:=by rw[ev,el];have:=sl.length_le;rwa [List.length_reverse]at this
  have sH:bD H (upd H1 R (.lst (List.map V.ref cs))):=λc u e=>by rw[au (av e hR)];exact s1 _ _ (sR _ _ e)
  refine⟨R,rfl,cs,vs,ai,sv.mono (k1 _),by rw[sv.1];omega,λD2 H3 bs2 ts2 s3 v5 Fw Gk nd2 aBD pw2=>q D2 H3 bs2 ts2 (sH.trans s3) (sH.free v5) Fw Gk (λx=>?_) pw2⟩
  rw[aBD x,mv x]
  constructor
  ·rintro⟨h1,h2⟩
   exact⟨(mem x).mp h1,λy hy=>h2 y ((mem y).mpr hy)⟩
  ·rintro⟨h1,h2⟩
   exact⟨(mem x).mpr h1,λy hy=>h2 y ((mem y).mp hy)⟩
end
local macro_rules | `(tactic| walk_at "rd") => `(tactic| walk_at "rc")
local macro_rules | `(tactic| walk_at "rc") => do
  let ids := ("L2.start DX t9 D' wR tB G6 Vj wQ tC qT dh Kn G5 G4 wW wX uc DY Rh yS qQ G8 G3 HN rI rU YX YW Hr wY Uw Ie Nk Rx Ni Nh Br Bt Bs vE y7 qC y8 y9 vC Ia rg By RD qZ yT Ic RB Ij Rz RC Nm Nj Vl wU nM Rv Vo Ri qB vA q0 y0 vB o5 M9 Rf Ha Vn G7 wZ Rg wV Z' List.map_cons List.map_nil List.cons_append List.nil_append List.append_nil List.length_cons List.length_nil List.replicate List.getElem?_cons_zero List.getElem?_cons_succ List.set_cons_zero List.set_cons_succ Nat.reduceAdd Nat.reduceSub Nat.reduceLeDiff Option.some.injEq V.int.injEq V.ref.injEq V.str.injEq V.bl.injEq V.ty.injEq List.cons.injEq HO.lst.injEq HO.tup.injEq HO.dK.injEq exists_eq_left exists_eq_left' exists_and_left and_true true_and and_assoc exists_const reduceCtorEq ai qy decide_eq_true_eq List.length_map ite_true ite_false Bool.false_eq_true Bool.true_and Bool.and_true yA Dl Dk Dj K9 K8 zT zS zR zQ zP KN KJ KH KD Ah Ag Af Ae Aa bR Option.join_some Option.join_none qR vf yc JS JR Bw qP qO Bx Bu Bv vz Ry o5 Ib vD kZ yd JT JQ vd G0 Int.zero_add Int.reduceMul Int.reduceAdd Int.reduceSub Int.reduceLT Int.reduceLE Int.reducePow Int.reduceToNat Int.reduceNeg gt_iff_lt ge_iff_le vm hv".splitOn " ").toArray.map fun x => Lean.mkIdent x.toName
  `(tactic| simp only [$[$ids:ident],*])
section
variable {P:Program}{w:World}{K:PySem.W.Frag}{mg:Str->Option Value}{base:Heap}{t:qK}
theorem BX(T:Txt K mg t):bG P w K mg base eI 1 t.kJ t.ku ["_law_hand_here"] vm:=by
 refine T.gd.n6 vx (λvs H Q E h=>?_) (λcB A outer s H vs Q E hr h hc hf=>?_)
 ·obtain⟨h,rfl,_⟩:=h;rfl
 obtain⟨h,rfl,l,a,b,c,d,e,hh,q⟩:=h
 refine⟨_,(by apply aq;exact(jb (aT j9 (aT mO (bq gx (ao hc 0) aj (λ_ _=>rfl)) aj) aj) (jc (ao hc 0) aj nU));apply aq;exact(jb (aT j9 (aT mO (bq gx (ao hc 0) aj (λ_ _=>rfl)) aj) aj) (jc (ao hc 0) aj nU));exact ay (aL (aT fB (bq gx (ao hc 0) aj (λ_ _=>rfl)) (bq gx (ao hc 0) aj (λ_ _=>rfl))))),?_⟩
 unfold hv at *
 walk_at "rd"
 simp only[hh]
 walk_at "rd"
 exact q
theorem N8(T:Txt K mg t):bG P w K mg base eI 2 t.kG t.ko ["_law_hand_here"] Rj:=by
 have fZ:=BX (P:=P) (w:=w) (base:=base) T
 refine T.qd.n6 jg (λvs H Q E h=>?_) (λcB A outer s H vs Q E hr h hc hf=>?_)
 ·obtain⟨h,rfl,_⟩:=h;rfl
 obtain⟨h,rfl,l,ns,o,hh,⟨a,b,c,d,e,rfl,ha⟩,hl,q⟩:=h
 refine⟨_,(by apply aq;exact(aI hc jg.nd hf 1 (by decide +kernel) aj);apply jU;exact(bX (bA Ji (bq gx (ao hc 0) aj (λ_ _=>rfl)) (aP lu (bZ hc) T.z_len kE (ae (bq gx (ao hc 0) aj (λ_ _=>rfl)) ah)) (cF _)) (by exact ay (aI hc jg.nd hf 1 (by decide +kernel) (aP K0 (bZ hc) T.z_abs Ym (ae (bq gx (bq gx (ao hc 0) aj (λ_ _=>rfl)) (bq gx (ao hc 0) aj (λ_ _=>rfl)) (λ_ _=>rfl)) ah)))) bt);apply aq;exact(wJ (ao hc 0) aj QK aj JP nU);apply jU;exact(bX (bA Wf (ao hc 1) (aT vH aj aj) (cF _)) (by exact ay (jb (ao hc 1) (jc (ao hc 0) aj nU))) (by exact ay (jb aj (jc (ao hc 0) aj nU))));apply aq;exact(jb (aT fB (aT j9 (aT fB (bq gx (ao hc 0) aj (λ_ _=>rfl)) (aT j9 (ao hc 1) aj)) aj) aj) (jc (ao hc 0) aj nU));apply aq;exact(jb (aT fB (aT j9 (aT fB (aT mO (bq gx (ao hc 0) aj (λ_ _=>rfl)) aj) (aT j9 (ao hc 1) aj)) aj) aj) (jc (ao hc 0) aj nU));apply aq;exact(dm (aB fZ (hr.mono (by omega)) (bZ hc) T.hX T.gd.kp T.ig .nil aR (ae (ao hc 0) ah)));exact ay (dm (aB fZ (hr.mono (by omega)) (bZ hc) T.hX T.gd.kp T.ig .nil aR (ae (ao hc 0) ah)))),?_⟩
 unfold hv at *
 walk_at "rd"
 refine⟨λσ' H'=>∃z,σ'=[some (.ref h),some (.int z)]/\H'=H,?_,?_⟩
 ·repeat (first | walk_at "rd" | simp only[hh,hl])
  split
  ·rename_i fE
   obtain⟨v,Oq⟩:=K7 ha fE
   rw[Oq]
   walk_at "rd"
   exact⟨_,rfl⟩
  ·exact⟨_,rfl⟩
 ·rintro σ' H' ⟨z,e1,e2⟩
  subst e1 e2
  repeat (first | walk_at "rd" | simp only[hh,hl])
  refine⟨λσ' pQ=>∃b' c',σ'=[some (.ref h),some (.int z)]/\pQ=upd H' h (.lst [.ref l,.int (a+1),.int b',.int c',.int d,.int e]),?_,?_⟩
  ·repeat (first | walk_at "rd" | simp only[hh,hl])
   split
   ·exact⟨_,_,rfl⟩
   ·exact⟨_,_,rfl⟩
  ·rintro σ' pQ ⟨b',c',e1,e2⟩
   subst e1 e2
   repeat (first | walk_at "rd" | simp only[hh,hl])
   exact q _ ⟨_,_,_,_,_,rfl,by omega⟩
theorem qF(T:Txt K mg t):bG P w K mg base eI 3 t.kL t.kz ["_law_hand_here","_law_many"] Hk:=by
 have fZ:=BX (P:=P) (w:=w) (base:=base) T
 have yC:=N8 (P:=P) (w:=w) (base:=base) T
 refine T.bp.n6 dX (λvs H Q E h=>?_) (λcB A outer s H vs Q E hr h hc hf=>?_)
 ·obtain⟨h,m,rfl,_⟩:=h;rfl
 obtain⟨h,m,rfl,hm,WY,l,ns,o,hh,⟨a,b,c,d,e,rfl,ha⟩,hl,q⟩:=h
 refine⟨_,(by apply jU;exact(bX (lK (nA (bA n5 (bq gx (ao hc 0) aj (λ_ _=>rfl)) aj (cF _)) (jV (bA n5 (bq gx (ao hc 0) aj (λ_ _=>rfl)) aj (cF _))))) (by exact ay (dm (aB yC (hr.mono (by omega)) (bZ hc) T.xM T.qd.kp T.yv .nil aR (ae (ao hc 0) ah)))) bt);apply aq;exact(bX (bA Jj (bq gx (ao hc 0) aj (λ_ _=>rfl)) aj (cF _)) (by apply aq;exact(aI hc dX.nd hf 2 (by decide +kernel) (aT j9 (bq gx (ao hc 0) aj (λ_ _=>rfl)) (ao hc 1)));apply aq;exact(jb (aT Jk (bq gx (ao hc 0) aj (λ_ _=>rfl)) (ao hc 1)) (jc (ao hc 0) aj nU));exact ay (aL (ao hc 2))) bt);apply aq;exact(wJ (ao hc 0) aj QK aj Tc nU);apply aq;exact(aI hc dX.nd hf 3 (by decide +kernel) (aB fZ (hr.mono (by omega)) (bZ hc) T.hX T.gd.kp T.ig .nil aR (ae (ao hc 0) ah)));apply aq;exact(aI hc dX.nd hf 4 (by decide +kernel) aj);apply aq;exact(tT PassesOwn.never (bA Ji (ao hc 4) (ao hc 1) (cF _)) (by apply aq;exact(aI hc dX.nd hf 3 (by decide +kernel) (aT fB (aT mO (ao hc 3) aj) (aB fZ (hr.mono (by omega)) (bZ hc) T.hX T.gd.kp T.ig .nil aR (ae (ao hc 0) ah))));exact ay (aI hc dX.nd hf 4 (by decide +kernel) (aT mO (ao hc 4) aj))));exact ay (aL (aT j9 (ao hc 3) (ao hc 1)))),?_⟩
 unfold hv at *
 walk_at "rd"
 refine⟨λσ' H'=>∃a b c d e,σ'=[some (.ref h),some (.int m),none,none,none]/\H'=upd H h (hv l a b c d e)/\0<=a,?_,?_⟩
 ·have same:H=upd H h (hv l a b c d e):=by
   funext x;unfold upd;split
   ·rename_i e;rw[e,hh];rfl
   ·rfl
  repeat (first | walk_at "rd" | simp only[hh,hl])
  by_cases hb:b=0
  ·by_cases hc:c=0
   ·simp only[hb,hc,if_true]
    repeat (first | walk_at "rd" | simp only[hh,hl])
    refine⟨h,rfl,l,ns,_,hh,⟨a,b,c,d,e,by rw[hb,hc];rfl,ha⟩,hl,?_⟩
    rintro o' ⟨a',b',c',d',e',rfl,QC⟩
    exact⟨a',b',c',d',e',rfl,QC⟩
   ·simp only[hb,hc,if_true,if_false,Bool.false_eq_true]
    exact⟨a,b,c,d,e,same,ha⟩
  ·simp only[hb,if_false,Bool.false_eq_true]
   exact⟨a,b,c,d,e,same,ha⟩
 ·rintro σ' H' ⟨a,b,c,d,e,e1,e2,ha⟩
  subst e1 e2
  repeat (first | walk_at "rd" | simp only[hh,hl])
  split
  ·rename_i hb
   refine⟨by omega,⟨by omega,WY⟩,q _ _ (Int.emod_nonneg _ (by omega)) (Int.emod_lt_of_pos _ (by omega)) ⟨_,_,_,_,_,rfl,ha⟩⟩
  ·rename_i hb
   obtain⟨W,hW⟩:∃W:Nat->St->Hp->Prop,∀μ σ' H',W μ σ' H'↔∃v z a b c d e:Int,μ=(m-z).toNat/\σ'=[some (.ref h),some (.int m),none,some (.int v),some (.int z)]/\H'=upd H h (hv l a b c d e)/\0<=a/\1<=z:=⟨_,λ_ _ _=>Iff.rfl⟩
   refine⟨W,⟨_,(hW _ _ _).mpr ⟨_,_,_,_,_,_,_,rfl,rfl,rfl,ha,by omega⟩⟩,?_⟩
   intro μ σ' H' hw'
   obtain⟨v,z,a,b,c,d,e,rfl,e1,e2,ha,hz⟩:=(hW _ _ _).mp hw'
   subst e1 e2
   walk_at "rd"
   split
   ·rename_i fE
    obtain⟨N,hN⟩:∃N:St->Hp->Prop,∀σ' H',N σ' H'↔∃v z' a b c d e:Int,σ'=[some (.ref h),some (.int m),none,some (.int v),some (.int z')]/\H'=upd H h (hv l a b c d e)/\0<=a/\z'=z*4294967296:=⟨_,λ_ _=>Iff.rfl⟩
    refine⟨N,λσ' H' hn=>?_,?_⟩
    ·obtain⟨v,z',a,b,c,d,e,e1,e2,ha,e3⟩:=(hN _ _).mp hn
     exact⟨(m-z').toNat,by omega,(hW _ _ _).mpr ⟨v,z',a,b,c,d,e,rfl,e1,e2,ha,by omega⟩⟩
    ·repeat (first | walk_at "rd" | simp only[hh,hl])
     exact(hN _ _).mpr ⟨_,_,_,_,_,_,_,rfl,rfl,ha,rfl⟩
   ·refine⟨by omega,q _ _ (Int.emod_nonneg _ (by omega)) (Int.emod_lt_of_pos _ (by omega)) ⟨_,_,_,_,_,rfl,ha⟩⟩
theorem Ob(T:Txt K mg t):bG P w K mg base eI 1 t.kK t.kx ["_law_script"] (Ro K):=by
 refine T.qf.n6 vy (λvs H Q E h=>?_) (λcB A outer s H vs Q E hr h hc hf=>?_)
 ·obtain⟨a,ns,rfl,_⟩:=h;rfl
 obtain⟨a,ns,rfl,hS,q⟩:=h
 refine⟨_,(by exact ay (aL (dC (ae (eL Ak (bZ hc) T.z_list K4 (ae (oR Bl (ao hc 0) wK (nE aj)) ah)) (ae aj (ae aj (ae aj (ae aj (ae aj ah))))))))),?_⟩
 walk_at "rd"
 refine⟨a,List.map V.int ns,rfl,hS,λp hp=>?_⟩
 rw[yp]
 walk_at "rd"
 refine λl hl=>⟨by decide,λh hh=>?_⟩
 have s1:=aE hp (.lst (List.map V.int ((ns.drop (HT.cT ns.length 0 none)).take (HT.cT ns.length ns.length (some 63)-HT.cT ns.length 0 none))))
 have s2:=aE hl (.lst (List.map V.int ((ns.drop (HT.cT ns.length 0 none)).take (HT.cT ns.length ns.length (some 63)-HT.cT ns.length 0 none))))
 have s3:=aE hh (hv l 0 0 0 20011 40009)
 exact q h _ (s1.trans (s2.trans s3)) ((s1.trans s2).free hh) ⟨l,_,_,ai,⟨_,_,_,_,_,rfl,Int.le_refl 0⟩,s3 _ _ ai⟩
end
local macro_rules | `(tactic| walk_at "rd") => `(tactic| walk_at "rc")
local macro_rules | `(tactic| walk_at "rl") => `(tactic| first | (refine dA fun R hR => ?_) | walk_at "ry" | (refine Nx.to (by assumption) _ _ ?_))
def Hg:Sp:=λvs H Q _=>∃a b,vs=[.ref a,.ref b]/\∃x y:List Int,H a=some (.tup (List.map V.int x))/\H b=some (.tup (List.map V.int y))/\x.length<=900/\∀H',bD H H'->Q (.bl (aA x y)) H'
section
variable {P:Program}{w:World}{K:PySem.W.Frag}{mg:Str->Option Value}{base:Heap}{t:qK}
theorem o6(T:Txt K mg t):bG P w K mg base eI 1 t.fN t.fH ["_law_one","_law_other"] Hg:=by
 refine T.cC.n6 nV (λvs H Q E h=>?_) (λcB A outer s H vs Q E hr h hc hf=>?_)
 ·obtain⟨a,b,rfl,_⟩:=h;rfl
 obtain⟨a,b,rfl,x,y,ha,hb,lx,q⟩:=h
 refine⟨_,(by exact ay (aL (aP (pJ hr.hd) (bZ hc) T.z_all K5 (ae (cg hc ["_law_member"] [1] rfl (by decide +kernel) (e8 (ao hc 0)) (λ_ hc=>jX hc (by decide +kernel) 0 (by decide +kernel)) (λ_ _=>cK) (λ_ hc=>(nG Sh (ao hc 0) (ao hc 1) (by with_unfolding_all rfl)))) ah)))),?_⟩
 repeat (walk_at "rl")
 refine⟨⟨_,bE ha⟩,?_⟩
 refine pH (zs:=List.map V.int x) (λj=>x[j]?.map λm=>V.bl (decide (m∈y))) (λ_=>Ge) (λ_ _ _ _ _ _ r=>r) (λ_ _ _ _ _ _ _ r=>r) ha (by rw[List.length_map];omega) (λDD c H4 j z yes no hj s4 Ki Kh dv tH=>?_) (λD H4 vs s4 hD uN rl=>?_)
 ·obtain⟨m,em,rfl⟩:=int_at hj
  rw[em]at dv
  walk_at "rc"
  repeat (walk_at "rl")
  refine⟨_,s4 _ _ hb,rfl,pC _,?_⟩
  rw[rK]
  exact dv _ rfl _ _ (λ_ _ e=>e) rfl
 have ev:=nI rl
 rw[List.length_map,km (l:=x) (g:=λm=>V.bl (decide (m∈y))) λk hk=>by rw[List.getElem?_eq_getElem hk];rfl]at ev
 subst ev
 refine⟨D,rfl,x.map λm=>decide (m∈y),by rw[uN,List.map_map];rfl,?_⟩
 rw[List.all_map]
 exact q _ s4
end
def Ec:Sp:=λvs H Q _=>∃h most,vs=[.ref h,.int most]/\∃n:Nat,most=(n:Int)/\n<=12/\fO H h/\∀R ms H',Dr h H H'->H R=none->H' R=some (.tup (List.map V.int ms))->ms.length<=n->dF ms->Q (.ref R) H'
theorem wO{r a b c:Int}(r0:0<=r)(r1:r<3):∃z,qb [V.int a,V.int b,V.int c] r=some (.int z)/\(z=a\/z=b\/z=c):=by
 have h:r=0\/r=1\/r=2:=by omega
 rcases h with rfl | rfl | rfl
 ·exact⟨a,rfl,.inl rfl⟩
 ·exact⟨b,rfl,.inr (.inl rfl)⟩
 ·exact⟨c,rfl,.inr (.inr rfl)⟩
section
variable {P:Program}{w:World}{K:PySem.W.Frag}{mg:Str->Option Value}{base:Heap}{t:qK}
theorem zk(T:Txt K mg t):bG P w K mg base eI 4 t.gT t.gR ["_law_hand_here","_law_most"] Ec:=by
 have aU:=qF (P:=P) (w:=w) (base:=base) T
 refine T.kR.n6 ck (λvs H Q E h=>?_) (λcB A outer s H vs Q E hr h hc hf=>?_)
 ·obtain⟨h,m,rfl,_⟩:=h;rfl
 obtain⟨h,_,rfl,n,rfl,hn,hd,q⟩:=h
 refine⟨_,(by apply aq;exact(aI hc ck.nd hf 2 (by decide +kernel) (bq gx (dC (ae aj (ae (aT vH aj aj) (ae (aT vH aj aj) ah)))) (aB aU (hr.mono (by omega)) (bZ hc) T.bu T.bp.kp T.bz .nil aR (ae (ao hc 0) (ae aj ah))) (λ_ _=>rfl)));apply aq;exact(aI hc ck.nd hf 3 (by decide +kernel) (bq gx (dC (ae aj (ae aj (ae (aT vH aj aj) ah)))) (aB aU (hr.mono (by omega)) (bZ hc) T.bu T.bp.kp T.bz .nil aR (ae (ao hc 0) (ae aj ah))) (λ_ _=>rfl)));apply aq;exact(aI hc ck.nd hf 4 (by decide +kernel) (aT zh (aB aU (hr.mono (by omega)) (bZ hc) T.bu T.bp.kp T.bz .nil aR (ae (ao hc 0) (ae (aT fB (aT mO aj (ao hc 2)) aj) ah))) (ao hc 2)));apply aq;exact(aI hc ck.nd hf 5 (by decide +kernel) (dC ah));apply aq;exact(cW PassesOwn.never rfl (gF (bZ hc) T.z_range (ae (aB aU (hr.mono (by omega)) (bZ hc) T.bu T.bp.kp T.bz .nil aR (ae (ao hc 0) (ae (aT fB (ao hc 1) aj) ah))) ah)) (jW hc ck.nd hf 6 (by decide +kernel)) (by apply aq;exact(dm (oU PySem.F.plainAttrs_list PySem.F.slot_list_append PySem.F.type_list_append fC (ao hc 5) (ae (ao hc 4) ah)));exact ay (Gy hc ck.nd hf 4 (by decide +kernel) (aT fB aj (aB aU (hr.mono (by omega)) (bZ hc) T.bu T.bp.kp T.bz .nil aR (ae (ao hc 0) (ae (ao hc 3) ah)))) JP)));exact ay (aL (eL fX (bZ hc) T.z_tuple jt (ae (ao hc 5) ah)))),?_⟩
 repeat (walk_at "rd")
 refine⟨⟨by decide,by decide,by decide⟩,⟨by decide,by decide,by decide⟩,by decide,λp hp=>?_⟩
 have d0:=(Dr.refl (h:=h) (H:=H)).new (o:=.lst [V.int 3,V.int 1000000,V.int 1000000000000000000000000000000000000000000000000000000000000]) hp
 have Tr:p≠h:=hd.ne hp
 refine cY hd d0 (by decide) (by decide) λr H1 r0 r1 d1 k1=>?_
 obtain⟨z,ez,hz⟩:=wO (a:=3) (b:=1000000) (c:=1000000000000000000000000000000000000000000000000000000000000) r0 r1
 refine⟨_,rfl,_,by rw[k1 p Tr];exact ai,_,ez,⟨by decide,by decide,by decide⟩,by decide,λp2 Qr=>?_⟩
 have d2:=d1.new (o:=.lst [V.int 1,V.int 5,V.int 1000000000]) Qr
 have aCc:p2≠h:=(d1.fF hd).ne Qr
 refine cY hd d2 (by decide) (by decide) λr' H2 r0' r1' d3 k3=>?_
 obtain⟨st,es,hs⟩:=wO (a:=1) (b:=5) (c:=1000000000) r0' r1'
 have Qm:1<=z/\z<=1000000000000000000000000000000000000000000000000000000000000:=by omega
 have hs1:1<=st/\st<=1000000000:=by omega
 refine⟨_,rfl,_,by rw[k3 p2 aCc];exact ai,_,es,?_⟩
 repeat (walk_at "rd")
 refine⟨.inl (by decide),cY hd d3 (by omega) (by omega) λsL H3 a0 a1 d4 k4=>⟨_,rfl,by decide,λR Xl=>?_⟩⟩
 have hR:H R=none:=d4.free hd Xl
 have hRh:R≠h:=hd.ne hR
 refine cY hd (d4.new Xl) (by omega) (by omega) λnn H4 n0 n1 d5 k5=>?_
 have Zy:H4 R=some (.lst []):=(k5 R hRh).trans ai
 obtain⟨m,rfl⟩:∃m:Nat,nn=(m:Int):=⟨nn.toNat,by omega⟩
 refine⟨_,rfl,by omega,by omega,?_⟩
 obtain⟨Pv,cH⟩:∃Pv:Nat->St->Hp->Prop,∀i σ' H',Pv i σ' H'↔∃(v:Int) (y:Option V) (ms:List Int),σ'=[some (.ref h),some (.int (n:Int)),some (.int z),some (.int st),some (.int v),some (.ref R),y]/\Dr h H H'/\H' R=some (.lst (List.map V.int ms))/\ms.length=i/\dF ms/\∀m∈ms,m<v:=⟨_,λ_ _ _=>Iff.rfl⟩
 refine mX Pv ((cH _ _ _).mpr ⟨_,none,[],rfl,d5,Zy,rfl,List.Pairwise.nil,λk hk=>by cases hk⟩) (λi σ' H4 hi pv=>?_) (λσ' H4 pv=>?_)
 ·obtain⟨v,y,ms,rfl,d5,O5,lm,rise,below⟩:=(cH _ _ _).mp pv
  rw[Int.toNat_natCast]at hi
  repeat (first | walk_at "rd" | simp only[O5])
  refine⟨.inl ⟨rfl,_,aV O5⟩,bN (by omega),?_⟩
  simp only[Mp,Uw]
  repeat (walk_at "rd")
  refine cY hd (d5.put hR) (by omega) (by omega) λr H6 r0 r1 d6 k6=>?_
  refine⟨_,rfl,(cH _ _ _).mpr ⟨_,_,ms++[v],rfl,d6,by rw[k6 R hRh,ai,List.map_append];rfl,by rw[List.length_append];simp;omega,?_,λm hm=>?_⟩⟩
  ·unfold dF
   rw[List.pairwise_append]
   exact⟨rise,by simp,λa ha b hb=>by rw[show b=v by simpa using hb];exact below a ha⟩
  ·rcases List.mem_append.mp hm with u | u
   ·have:=below m u;omega
   ·have:m=v:=by simpa using u
    omega
 ·obtain⟨v,y,ms,rfl,d5,O5,lm,rise,below⟩:=(cH _ _ _).mp pv
  rw[Int.toNat_natCast]at lm
  repeat (first | walk_at "rd" | simp only[O5])
  exact λp hp=>q p ms _ (d5.new hp) (d5.free hd hp) ai (by omega) rise
end
def Rl:Sp:=λvs H Q _=>∃h W,vs=[.ref h,.ref W]/\fO H h/\∃x:List Int,H W=some (.tup (List.map V.int x))/\x.length<=100/\∀R y H',Dr h H H'->H R=none->H' R=some (.tup (List.map V.int y))->y.Sublist x->Q (.ref R) H'
section
variable {P:Program}{w:World}{K:PySem.W.Frag}{mg:Str->Option Value}{base:Heap}{t:qK}
theorem BW(T:Txt K mg t):bG P w K mg base eI 4 t.kI t.kr ["_law_hand_here","_law_whole"] Rl:=by
 have aU:=qF (P:=P) (w:=w) (base:=base) T
 refine T.qe.n6 vw (λvs H Q E h=>?_) (λcB A outer s H vs Q E hr h hc hf=>?_)
 ·obtain⟨h,m,rfl,_⟩:=h;rfl
 obtain⟨h,W,rfl,hd,x,hW,lx,q⟩:=h
 have Lw:=hd.sV hW
 refine⟨_,(by exact ay (aL (eL fX (bZ hc) T.z_tuple jt (ae (cg hc ["_law_one"] [0] rfl (by decide +kernel) (e8 (ao hc 1)) (λ_ hc=>jX hc (by decide +kernel) 0 (by decide +kernel)) (λ_ hc=>iI (bA n5 (aB aU (hr.mono (by omega)) (bZ hc) T.bu T.bp.kp T.bz .nil aR (ae (ao hc 1) (ae aj ah))) aj (cF _))) (λ_ hc=>(ao hc 0))) ah)))),?_⟩
 repeat (walk_at "rd")
 refine⟨⟨_,bE hW⟩,?_⟩
 obtain⟨Pc,jl⟩:∃Pc:Addr->Nat->List V->Hp->Prop,∀Z i ys H',Pc Z i ys H'↔∃y:List Int,ys=List.map V.int y/\Dr h H H'/\H' Z=some (.lst ys)/\y.Sublist (x.take i):=⟨_,λ_ _ _ _=>Iff.rfl⟩
 refine ie (zs:=List.map V.int x) Pc (λZ hZ=>(jl _ _ _ _).mpr ⟨[],rfl,Dr.refl.new hZ,ai,List.nil_sublist _⟩) (λZ hZ i ys H' _ pv=>?_) (λZ hZ i z ys H' hz pv cb=>?_) (λZ hZ ys H' pv=>?_)
 ·obtain⟨_,_,d,_⟩:=(jl _ _ _ _).mp pv
  exact d.keep _ _ Lw hW
 ·obtain⟨y,rfl,d1,pA,sl⟩:=(jl _ _ _ _).mp pv
  obtain⟨m,em,rfl⟩:=int_at hz
  have QD:Z≠h:=hd.ne hZ
  have ly:=sl.length_le
  rw[List.length_take]at ly
  walk_at "rc"
  repeat (walk_at "rd")
  refine cY hd d1 (by decide) (by decide) λr H2 r0 r1 d2 k2=>?_
  have TQ:H2 Z=_:=(k2 Z QD).trans pA
  have tk:x.take (i+1)=x.take i++[m]:=by rw[List.take_add_one,em];rfl
  by_cases e:r=1
  ·subst e
   refine⟨rfl,?_⟩
   rw[if_pos rfl]
   refine⟨TQ,bN (by omega),(jl _ _ _ _).mpr ⟨y++[m],by rw[List.map_append];rfl,d2.put hZ,ai,?_⟩⟩
   rw[tk];exact sl.append (List.Sublist.refl _)
  ·refine⟨rfl,?_⟩
   rw[if_neg (by simpa using e)]
   refine(jl _ _ _ _).mpr ⟨y,rfl,d2,TQ,?_⟩
   rw[tk];exact sl.trans (List.sublist_append_left _ _)
 ·obtain⟨y,rfl,d1,pA,sl⟩:=(jl _ _ _ _).mp pv
  rw[List.length_map,List.take_length]at sl
  repeat (first | walk_at "rd" | simp only[pA])
  exact λp hp=>q p y _ (d1.new hp) (d1.free hd hp) ai sl
end
local macro_rules | `(tactic| walk_at "rd") => `(tactic| walk_at "rc")
local macro_rules | `(tactic| walk_at "rl") => `(tactic| first | (refine dA fun R hR => ?_) | walk_at "ry" | (refine Nx.to (by assumption) _ _ ?_))
def uS(ks:List Int)(g:Int->V):List (Key×V):=ks.map λz=>(Sum.inl z,g z)
theorem v8(ks:List Int)(g:Int->V)(m:Int):eF (uS ks g) (Sum.inl m)=if m∈ks then some (g m) else none:=by
 induction ks with
 | nil=>rfl
 | cons k ks ih=>
  by_cases e:k=m
  ·subst e
   rw[if_pos List.mem_cons_self]
   exact dn (p:=((Sum.inl k:Key),g k)) rfl
  ·have e2:eF (uS (k::ks) g) (Sum.inl m)=eF (uS ks g) (Sum.inl m):=dq (p:=((Sum.inl k:Key),g k)) (λz=>e (Sum.inl.inj z))
   rw[e2,ih]
   by_cases hm:m∈ks
   ·rw[if_pos hm,if_pos (List.mem_cons_of_mem _ hm)]
   ·rw[if_neg hm,if_neg (λz=>(List.mem_cons.mp z).elim (λz=>e z.symm) hm)]
theorem U6{ks:List Int}{g g':Int->V}(h:∀z∈ks,g z=g' z):uS ks g=uS ks g':=List.map_congr_left λz hz=>by rw[h z hz]
theorem Pk{ks:List Int}(g:Int->V){m:Int}(v:V)(h:m∈ks):putK (uS ks g) (Sum.inl m) v=uS ks (λz=>if z=m then v else g z):=by
 unfold putK
 rw[if_pos (by rw[iJ,v8,if_pos h];rfl)]
 unfold uS
 rw[List.map_map]
 refine List.map_congr_left λz _=>?_
 by_cases e:z=m
 ·simp[e]
 ·simp[e]
theorem Pl{ks:List Int}(g:Int->V){m:Int}(v:V)(h:m∉ks):putK (uS ks g) (Sum.inl m) v=uS (ks++[m]) (λz=>if z=m then v else g z):=by
 rw[Ik v (by rw[v8,if_neg h])]
 unfold uS
 rw[List.map_append]
 refine congr (congrArg _ (List.map_congr_left λz hz=>?_)) ?_
 ·dsimp only
  rw[if_neg (show ¬z=m from λe=>h (by rw[<-e];exact hz))]
 ·simp
theorem XF(ks:List Int)(g:Int->V):(uS ks g).map (λkv=>kV kv.1)=ks.map V.int:=by
 unfold uS
 rw[List.map_map]
 rfl
theorem CN(ks:List Int)(g:Int->V):(uS ks g).length=ks.length:=List.length_map _
theorem Cg{H:Hp}{vs:List V}{ds:List Int}(r:jS (λ(_:Hp) (v:V) (d:Int)=>v=V.int d) H vs ds):vs=List.map V.int ds:=by
 apply List.ext_getElem (by rw[List.length_map];exact r.1)
 intro i h1 h2
 rw[List.length_map]at h2
 rw[List.getElem_map]
 exact r.2 i _ _ (List.getElem?_eq_getElem h1) (List.getElem?_eq_getElem h2)
theorem Ky(xs:List V)(lo hi:Option Int):(gX xs lo hi).length<=xs.length:=by
 unfold gX
 rw[List.length_take,List.length_drop]
 omega
inductive Md where
 | wt (g:Int->Int) (most:Int) | Td (ss:List (List Int)) | out (ss:List (List Int))
def pP(H:Hp)(p:Addr)(W:List Int):Md->Prop
 | .wt g most=>∃d ks,H p=some (.tup [.int 2,.ref d,.int most])/\H d=some (.dK (uS ks λz=>.int (g z)))/\(∀m∈W,m∈ks)/\∀z,0<=g z
 | .Td ss=>∃l bs,H p=some (.tup [.int 0,.ref l,.int 0])/\H l=some (.lst (List.map V.ref bs))/\aF H bs ss/\ss.length<=900/\∀s∈ss,s.length<=100
 | .out ss=>∃l bs,H p=some (.tup [.int 1,.ref l,.int 0])/\H l=some (.lst (List.map V.ref bs))/\aF H bs ss/\ss.length<=900/\∀s∈ss,s.length<=100
theorem pP.same{H H':Hp}{p:Addr}{W:List Int}{md:Md}(s:bD H H')(m:pP H p W md):pP H' p W md:=by
 cases md with
 | wt g most=>obtain⟨d,ks,h1,h2,h3⟩:=m;exact⟨d,ks,s _ _ h1,s _ _ h2,h3⟩
 | Td ss=>obtain⟨l,bs,h1,h2,h3,h4⟩:=m;exact⟨l,bs,s _ _ h1,s _ _ h2,h3.mono λ_ _ e=>s _ _ e,h4⟩
 | out ss=>obtain⟨l,bs,h1,h2,h3,h4⟩:=m;exact⟨l,bs,s _ _ h1,s _ _ h2,h3.mono λ_ _ e=>s _ _ e,h4⟩
def Md.tells:Md->List Int->Bool
 | .wt g most,S=>decide ((S.map g).sum<=most)
 | .Td ss,S=>ss.any λs=>aA S s
 | .out ss,S=>!(ss.any λs=>aA s S)
def Mw:Sp:=λvs H Q _=>∃h W,vs=[.ref h,.ref W]/\fO H h/\∃x:List Int,H W=some (.tup (List.map V.int x))/\x.length<=12/\x.Nodup/\∀R md H',Dr h H H'->H R=none->pP H' R x md->Q (.ref R) H'
section
variable {P:Program}{w:World}{K:PySem.W.Frag}{mg:Str->Option Value}{base:Heap}{t:qK}
theorem Jo(T:Txt K mg t):bG P w K mg base eI 5 t.jy t.jq ["_law_hand_here","_law_whole"] Mw:=by
 have aU:=qF (P:=P) (w:=w) (base:=base) T
 have qc:=BW (P:=P) (w:=w) (base:=base) T
 refine T.oM.n6 bV (λvs H Q E h=>?_) (λcB A outer s H vs Q E hr h hc hf=>?_)
 ·obtain⟨h,m,rfl,_⟩:=h;rfl
 obtain⟨h,W,rfl,hd,x,hW,lx,nd,q⟩:=h
 have hu:=kl hr
 have Lk:=hr.fk
 have Lw:=hd.sV hW
 refine⟨_,(by apply aq;exact(aI hc bV.nd hf 2 (by decide +kernel) (aB aU (hr.mono (by omega)) (bZ hc) T.bu T.bp.kp T.bz .nil aR (ae (ao hc 0) (ae aj ah))));apply aq;exact(bX (bA n5 (ao hc 2) aj (cF _)) (by apply aq;exact(aI hc bV.nd hf 3 (by decide +kernel) Dz);apply aq;exact(aI hc bV.nd hf 4 (by decide +kernel) (nG n5 (aB aU (hr.mono (by omega)) (bZ hc) T.bu T.bp.kp T.bz .nil aR (ae (ao hc 0) (ae aj ah))) aj (cF _)));apply aq;exact(cW PassesOwn.never rfl (e8 (ao hc 1)) (jW hc bV.nd hf 5 (by decide +kernel)) (by apply aq;exact(nC hu (ao hc 3) (ao hc 5) aj rfl);exact ay (bX (dU (bQ (ao hc 4))) (by exact ay (nC hu (ao hc 3) (ao hc 5) (aB aU (hr.mono (by omega)) (bZ hc) T.bu T.bp.kp T.bz .nil aR (ae (ao hc 0) (ae aj ah))) rfl)) bt)));exact ay (aL (fT (ae aj (ae (ao hc 3) (ae (aT zh (aB aU (hr.mono (by omega)) (bZ hc) T.bu T.bp.kp T.bz .nil aR (ae (ao hc 0) (ae (aT fB (aT mO aj (aP fL (bZ hc) T.z_len kE (ae (ao hc 1) ah))) aj) ah))) aj) ah)))))) bt);apply aq;exact(aI hc bV.nd hf 6 (by decide +kernel) (bq gx (dC (ae aj (ae aj (ae aj (ae aj ah))))) (aB aU (hr.mono (by omega)) (bZ hc) T.bu T.bp.kp T.bz .nil aR (ae (ao hc 0) (ae aj ah))) (λ_ _=>rfl)));apply aq;exact(oQ hc bV.nd 7 (by decide +kernel) ["_law_k"] [0,1] rfl (by decide +kernel) (gF (bZ hc) T.z_range (ae (aB aU (hr.mono (by omega)) (bZ hc) T.bu T.bp.kp T.bz .nil aR (ae (ao hc 0) (ae (ao hc 6) ah))) ah)) (λ_ hc=>jX hc (by decide +kernel) 0 (by decide +kernel)) (λ_ _=>cK) (λ_ hc=>(aB qc (hr.mono (by omega)) (bZ hc) T.xN T.qe.kp T.yw .nil aR (ae (ao hc 1) (ae (ao hc 2) ah)))) (by rfl));apply jU;exact(bX (lK (nA (bA Jj (aP fL (bZ hc) T.z_len kE (ae (ao hc 1) ah)) aj (cF _)) (jV (bA n5 (aB aU (hr.mono (by omega)) (bZ hc) T.bu T.bp.kp T.bz .nil aR (ae (ao hc 0) (ae aj ah))) aj (cF _))))) (by apply aq;exact(aI hc bV.nd hf 8 (by decide +kernel) (aB aU (hr.mono (by omega)) (bZ hc) T.bu T.bp.kp T.bz .nil aR (ae (ao hc 0) (ae (aP fL (bZ hc) T.z_len kE (ae (ao hc 1) ah)) ah))));exact ay (aI hc bV.nd hf 7 (by decide +kernel) (aT zi (ao hc 7) (oR aAh (dC (ae (eL fX (bZ hc) T.z_tuple jt (ae (cg hc ["_law_one"] [1,8] rfl (by decide +kernel) (e8 (ao hc 1)) (λ_ hc=>jX hc (by decide +kernel) 0 (by decide +kernel)) (λ_ hc=>iI (bA BV (ao hc 0) (bq pj (ao hc 1) (ao hc 2) (λ_ _=>rfl)) (cF _))) (λ_ hc=>(ao hc 0))) ah)) (ae (oR Vv (ao hc 1) (nE (ao hc 8)) (nE (aT fB (ao hc 8) aj))) ah))) wK (nE (aT fB aj (aB aU (hr.mono (by omega)) (bZ hc) T.bu T.bp.kp T.bz .nil aR (ae (ao hc 0) (ae aj ah))))))))) bt);exact ay (aL (fT (ae (ao hc 2) (ae (ao hc 7) (ae aj ah)))))),?_⟩
 repeat (walk_at "rl")
 refine cY hd .refl (by decide) (by decide) λway H1 w0 w1 d1 k1=>?_
 have hW1:=d1.keep _ _ Lw hW
 repeat (walk_at "rl")
 by_cases e2:way=2
 ·subst e2
  repeat (walk_at "rl")
  intro D hD
  have U5:H D=none:=d1.free hd hD
  have hDh:D≠h:=hd.ne U5
  have d2:Dr h H (upd H1 D (.dK [])):=d1.new hD
  have v5:upd H1 D (.dK []) D=some (.dK []):=ai
  generalize upd H1 D (.dK [])=H2 at d2 v5 ⊢
  repeat (walk_at "rl")
  refine cY hd d2 (by decide) (by decide) λal H3 a0 a1 d3 k3=>?_
  have Fw:=(k3 D hDh).trans v5
  repeat (walk_at "rl")
  have hW3:=d3.keep _ _ Lw hW
  generalize decide (al=1)=ab
  refine⟨⟨_,bE hW3⟩,?_⟩
  obtain⟨Pv,cH⟩:∃Pv:Nat->St->Hp->Prop,∀i σ' H',Pv i σ' H'↔∃(y:Option V) (g:Int->Int),σ'=[some (.ref h),some (.ref W),some (.int 2),some (.ref D),some (.bl ab),y,none,none,none]/\Dr h H H'/\H' D=some (.dK (uS (x.take i) λz=>.int (g z)))/\∀z,0<=g z:=⟨_,λ_ _ _=>Iff.rfl⟩
  refine gO (xs:=List.map V.int x) Pv ((cH _ _ _).mpr ⟨none,λ_=>0,rfl,d3,Fw,λ_=>Int.le_refl _⟩) (λi σ' H' _ pv=>?_) (λi z σ' H4 hz pv=>?_) (λσ' H4 pv=>?_)
  ·obtain⟨_,_,_,d,_⟩:=(cH _ _ _).mp pv
   exact d.keep _ _ Lw hW
  ·obtain⟨y,g,rfl,d4,uN,g0⟩:=(cH _ _ _).mp pv
   obtain⟨m,em,rfl⟩:=int_at hz
   have hi:i<x.length:=(List.getElem?_eq_some_iff.mp em).1
   have tk:x.take (i+1)=x.take i++[m]:=by rw[List.take_add_one,em];rfl
   have nm:m∉x.take i:=λhm=>by
    obtain⟨j,hj,e⟩:=List.mem_take_iff_getElem.mp hm
    have:=(List.getElem_inj nd).mp (e.trans (List.getElem?_eq_some_iff.mp em).2.symm)
    omega
   repeat (first | walk_at "rl" | simp only[qY])
   refine⟨_,sG.k (k:=Sum.inl m) uN (bN (by rw[CN,List.length_take];omega)),?_⟩
   rw[Pl _ _ nm,<-tk]
   have d5:Dr h H (upd H4 D (.dK (uS (x.take (i+1)) λz=>if z=m then V.int 1 else .int (g z)))):=d4.put U5
   have eg:(λz=>if z=m then V.int 1 else .int (g z))=λz=>V.int (if z=m then 1 else g z):=funext λz=>by split <;> rfl
   have Kj:upd H4 D (.dK (uS (x.take (i+1)) λz=>if z=m then V.int 1 else .int (g z))) D=some (.dK (uS (x.take (i+1)) λz=>.int (if z=m then 1 else g z))):=by rw[ai,eg]
   generalize upd H4 D (.dK (uS (x.take (i+1)) λz=>if z=m then V.int 1 else .int (g z)))=H5 at d5 Kj ⊢
   repeat (walk_at "rl")
   cases ab with
   | true=>
    rw[if_neg (by decide)]
    exact(cH _ _ _).mpr ⟨_,_,rfl,d5,Kj,λz=>by split <;> first | decide | exact g0 z⟩
   | false=>
    rw[if_pos (by decide)]
    simp only[qY]
    repeat (walk_at "rl")
    refine cY hd d5 (by decide) (by decide) λv H6 v0 v1 d6 k6=>?_
    have Lz:=(k6 D hDh).trans Kj
    refine⟨_,sG.k (k:=Sum.inl m) Lz (bN (by rw[CN,List.length_take];omega)),?_⟩
    rw[Pk _ _ (by rw[tk];simp)]
    have eg2:(λz=>if z=m then V.int v else .int (if z=m then 1 else g z))=λz=>V.int (if z=m then v else if z=m then 1 else g z):=funext λz=>by split <;> rfl
    exact(cH _ _ _).mpr ⟨_,_,rfl,d6.put U5,by rw[ai,eg2],λz=>by by_cases e:z=m <;> simp only[e,if_true,if_false] <;> first | exact v0 | exact g0 z⟩
  obtain⟨y,g,rfl,d4,uN,g0⟩:=(cH _ _ _).mp pv
  rw[List.length_map,List.take_length]at uN
  have Xi:=d4.keep _ _ Lw hW
  repeat (first | walk_at "rl" | simp only[Xi])
  refine cY hd d4 (by omega) (by omega) λv H5 v0 v1 d5 k5=>⟨_,rfl,by decide,λp hp=>?_⟩
  have Kj:=(k5 D hDh).trans uN
  exact q p (.wt g (v-1)) _ (d5.new hp) (d5.free hd hp) ⟨D,x,ai,by rw[au (av Kj hp)];exact Kj,λm hm=>hm,g0⟩
 ·rw[if_neg (by simpa using e2)]
  repeat (walk_at "rl")
  refine⟨by decide,λp hp=>?_⟩
  have d2:Dr h H (upd H1 p (.lst [V.int 6,V.int 6,V.int 6,V.int 21])):=d1.new hp
  have Tr:p≠h:=(d1.fF hd).ne hp
  refine cY hd d2 (by decide) (by decide) λr H2 r0 r1 d3 k3=>?_
  obtain⟨z,ez,hz⟩:=O9 (a:=6) (b:=6) (c:=6) (d:=21) r0 r1
  refine⟨_,rfl,_,by rw[k3 p Tr];exact ai,_,ez,?_⟩
  have Qm:6<=z/\z<=21:=by omega
  clear d2 k3 hz ez
  repeat (walk_at "rl")
  refine cY hd d3 (by omega) (by omega) λnn H4 n0 n1 d4 k4=>?_
  obtain⟨n,rfl⟩:∃n:Nat,nn=(n:Int):=⟨nn.toNat,by omega⟩
  repeat (walk_at "rl")
  refine⟨by omega,by omega,?_⟩
  obtain⟨Pc,jl⟩:∃Pc:Addr->Nat->List V->Hp->Prop,∀Z i ys H',Pc Z i ys H'↔∃bs ss,ys=List.map V.ref bs/\Dr h H H'/\H' Z=some (.lst ys)/\aF H' bs ss/\ss.length=i/\∀s∈ss,s.length<=100:=⟨_,λ_ _ _ _=>Iff.rfl⟩
  refine p9 Pc (λZ hZ=>(jl _ _ _ _).mpr ⟨[],[],rfl,d4.new hZ,ai,⟨rfl,λ_ _ _ z=>by cases z⟩,rfl,λ_ z=>(nomatch z)⟩) (λZ hZ i ys H' hi pv cb=>?_) (λZ hZ ys H' pv=>?_)
  ·obtain⟨bs,ss,rfl,d5,Zr,sb,ls,vV⟩:=(jl _ _ _ _).mp pv
   have Zt:=d4.free hd hZ
   have QD:Z≠h:=hd.ne Zt
   walk_at "rc"
   repeat (walk_at "rl")
   refine⟨h,W,rfl,d5.fF hd,x,d5.keep _ _ Lw hW,by omega,λR y H6 d6 hR Lx sl=>?_⟩
   have Xa:=d5.fF hd
   have Xg:=d6.keep _ _ QD Zr
   have Ut:=Dr.sets Xa d6 sb
   have lb:=sb.1
   rw[Int.toNat_natCast]at hi
   refine⟨Xg,bN (by omega),(jl _ _ _ _).mpr ⟨bs++[R],ss++[y],by rw[List.map_append];rfl,(d5.trans d6).put Zt,ai,?_,by rw[List.length_append,ls];rfl,λs hs=>?_⟩⟩
   ·have s1:aF H6 [R] [y]:=⟨rfl,λj c u h1 h2=>by
     match j,h1,h2 with
     | 0,h1,h2=>cases h1;cases h2;exact Lx
     | _+1,h1,_=>cases h1⟩
    exact(Ut.app s1).mono λc xs e=>by rw[au (aW e Xg (by intro z;cases z))];exact e
   ·rcases List.mem_append.mp hs with z | z
    ·exact vV s z
    ·rw[List.mem_singleton.mp z];have:=sl.length_le;omega
  obtain⟨bs,ss,rfl,d5,Zr,sb,ls,vV⟩:=(jl _ _ _ _).mp pv
  rw[Int.toNat_natCast]at ls
  have Zt:=d4.free hd hZ
  clear jl pv Pc d4 k4
  have hW5:=d5.keep _ _ Lw hW
  repeat (first | walk_at "rl" | simp only[hW5])
  obtain⟨wB,Ke⟩:∃wB:St->Hp->Prop,∀σ' H',wB σ' H'↔∃(L:Addr) (y:Option V) (bs:List Addr) (ss:List (List Int)),σ'=[some (.ref h),some (.ref W),some (.int way),none,none,none,some (.int z),some (.ref L),y]/\Dr h H H'/\H' L=some (.lst (List.map V.ref bs))/\aF H' bs ss/\ss.length<=40/\∀s∈ss,s.length<=100:=⟨_,λ_ _=>Iff.rfl⟩
  have nx0:∀H6,Dr h H H6->H6 Z=some (.lst (List.map V.ref bs))->aF H6 bs ss->wB [some (.ref h),some (.ref W),some (.int way),none,none,none,some (.int z),some (.ref Z),none] H6:=λH6 d6 h6 s6=>(Ke _ _).mpr ⟨Z,_,bs,ss,rfl,d6,h6,s6,by omega,vV⟩
  have fin:∀(l q2:Addr) (S1 S2:List Int) (r:Int) (L2:Addr) (y:Option V) (H2:Hp),Dr h H H2->H2 l=some (.tup (List.map V.int S1))->H2 q2=some (.tup (List.map V.int S2))->S1.length<=100->S2.length<=100->aF H2 bs ss->0<=r->r<2->
    H2 L2=some (.lst (List.map V.ref bs++gX [V.ref l,V.ref q2] none (some (1+r))))->wB [some (.ref h),some (.ref W),some (.int way),none,none,none,some (.int z),some (.ref L2),y] H2:=λl q2 S1 S2 r L2 y H2 d2 h1 h2 l1 l2 s2 r0 r1 hL=>by
   have hr:r=0\/r=1:=by omega
   rcases hr with rfl | rfl
   ·refine(Ke _ _).mpr ⟨L2,y,bs++[l],ss++[S1],rfl,d2,by rw[hL,List.map_append];rfl,s2.app ⟨rfl,λj c u e1 e2=>?_⟩,by rw[List.length_append];simp;omega,λs hs=>?_⟩
    ·match j,e1,e2 with
     | 0,e1,e2=>cases e1;cases e2;exact h1
     | _+1,e1,_=>cases e1
    ·rcases List.mem_append.mp hs with k | k
     ·exact vV s k
     ·rw[List.mem_singleton.mp k];exact l1
   ·refine(Ke _ _).mpr ⟨L2,y,bs++[l,q2],ss++[S1,S2],rfl,d2,by rw[hL,List.map_append];rfl,s2.app ⟨rfl,λj c u e1 e2=>?_⟩,by rw[List.length_append];simp;omega,λs hs=>?_⟩
    ·match j,e1,e2 with
     | 0,e1,e2=>cases e1;cases e2;exact h1
     | 1,e1,e2=>cases e1;cases e2;exact h2
     | _+2,e1,_=>cases e1
    ·rcases List.mem_append.mp hs with k | k
     ·exact vV s k
     ·rcases List.mem_cons.mp k with k | k
      ·rw[k];exact l1
      ·rw[List.mem_singleton.mp k];exact l2
  refine⟨wB,?_,λσ' H6 hm=>?_⟩
  ·repeat (first | walk_at "rl" | simp only[hW5])
   by_cases e0:0<x.length
   ·rw[if_pos (by simpa using e0)]
    refine cY hd d5 (by decide) (by decide) λr6 H6 _ _ d6 k6=>?_
    have QD:Z≠h:=hd.ne Zt
    have Xg:=(k6 Z QD).trans Zr
    have Xa:=d5.fF hd
    have kt:∀c xs,H' c=some (.tup xs)->H6 c=some (.tup xs):=λc xs e=>(k6 c (Xa.sV e)).trans e
    have Ut:=sb.mono kt
    have Xh:=kt _ _ hW5
    refine⟨rfl,?_⟩
    by_cases e6:r6=0
    ·subst e6
     rw[if_pos rfl]
     repeat (first | walk_at "rl" | simp only[Xh])
     refine cY hd d6 (by omega) (by omega) λat_ H7 a0 a1 d7 k7=>?_
     have hZ7:=(k7 Z QD).trans Xg
     have hd6:=d6.fF hd
     have kt7:∀c xs,H6 c=some (.tup xs)->H7 c=some (.tup xs):=λc xs e=>(k7 c (hd6.sV e)).trans e
     have YK:=Ut.mono kt7
     have QF:=kt7 _ _ Xh
     repeat (first | walk_at "rl" | simp only[QF])
     obtain⟨a,rfl⟩:∃a:Nat,at_=(a:Int):=⟨at_.toNat,by omega⟩
     have ha:a<x.length:=by omega
     have eat:qb (List.map V.int x) (a:Int)=some (.int x[a]):=eK (by rw[List.getElem?_map,List.getElem?_eq_getElem ha];rfl)
     refine⟨⟨_,bE QF⟩,?_⟩
     refine pH (zs:=List.map V.int x) (λk=>if (x[k]?.any λm=>decide (m≠x[a])) then x[k]? else none) (λ_ _ v d=>v=V.int d) (λ_ _ _ _ _ _ r=>r) (λ_ _ _ _ _ _ _ r=>r) QF (by rw[List.length_map];omega) (λDD c H8 j z yes no hj s8 Ki Kh dv tH=>?_) (λD H8 vs s8 hD ZJ rl=>?_)
     ·obtain⟨m,em,rfl⟩:=int_at hj
      rw[em]at dv tH
      have Zu:=s8 _ _ QF
      walk_at "rc"
      repeat (first | walk_at "rl" | simp only[Zu,eat])
      by_cases hm:m=x[a]
      ·rw[if_neg (by simpa using hm)]
       exact tH (if_neg (by simpa using hm)) _ λ_ _ e=>e
      ·rw[if_pos (by simpa using hm)]
       exact dv _ (if_pos (by simpa using hm)) _ _ (λ_ _ e=>e) rfl
     have ev:=Cg rl
     rw[List.length_map,pB (l:=x) (p:=λm=>decide (m≠x[a])) λk hk=>by rw[List.getElem?_eq_getElem hk];rfl]at ev
     subst ev
     have lo:=List.length_filter_le (λm=>decide (m≠x[a])) x
     generalize (x.filter λm=>decide (m≠x[a]))=S1 at lo ZJ
     have d8:=d7.on s8
     refine⟨D,rfl,_,ZJ,λl hl=>?_⟩
     have s9:=aE hl (.tup (List.map V.int S1))
     have hl9:upd H8 l (.tup (List.map V.int S1)) l=_:=ai
     have d9:Dr h H (upd H8 l (.tup (List.map V.int S1))):=d8.new hl
     generalize upd H8 l (.tup (List.map V.int S1))=H9 at s9 hl9 d9 ⊢
     have t79:=s8.trans s9
     have hW9:=t79 _ _ QF
     have hZ9:=t79 _ _ hZ7
     have sb9:aF H9 bs ss:=YK.mono λ_ _ e=>t79 _ _ e
     refine⟨_,hW9,λ_=>⟨by decide,λp hp=>?_⟩,λ_ q2 hq2=>⟨by decide,λp hp=>?_⟩⟩
     ·have Ei:=aE hp (.lst [V.ref l,V.ref W])
      have Ub:Dr h H (upd H9 p (.lst [V.ref l,V.ref W])):=d9.new hp
      have J3:upd H9 p (.lst [V.ref l,V.ref W]) p=_:=ai
      have Tr:p≠h:=(d9.fF hd).ne hp
      generalize upd H9 p (.lst [V.ref l,V.ref W])=Z5 at Ei Ub J3 ⊢
      refine cY hd Ub (by decide) (by decide) λNb Yt r0 r1 d12 k12=>⟨_,rfl,_,(k12 p Tr).trans J3,λp3 yI=>?_⟩
      have TB:=Ub.fF hd
      have zO:∀c xs,Z5 c=some (.tup xs)->Yt c=some (.tup xs):=λc xs e=>(k12 c (TB.sV e)).trans e
      have M5:=aE yI (.lst (gX [V.ref l,V.ref W] none (some (1+Nb))))
      have TV:=(k12 Z QD).trans (Ei _ _ hZ9)
      have lb:=sb.1
      refine⟨_,M5 _ _ TV,jd (by rw[List.length_map];have:=Ky [V.ref l,V.ref W] (none:Option Int) (some (1+Nb));simp at this;omega),λp4 J2=>?_⟩
      have Gm:=M5.trans (aE J2 (.lst (List.map V.ref bs++gX [V.ref l,V.ref W] none (some (1+Nb)))))
      exact fin l W S1 x Nb p4 _ _ ((d12.new yI).new J2) (Gm _ _ (zO _ _ (Ei _ _ hl9))) (Gm _ _ (zO _ _ (Ei _ _ hW9))) (by omega) (by omega) (((sb9.mono λ_ _ e=>Ei _ _ e).mono zO).mono λ_ _ e=>Gm _ _ e) r0 r1 ai
     ·have Lh:=aE hq2 (.tup (gX (List.map V.int x) (some (a:Int)) (some ((a:Int)+1))))
      have Tp:upd H9 q2 (.tup (gX (List.map V.int x) (some (a:Int)) (some ((a:Int)+1)))) q2=some (.tup (List.map V.int ((x.drop (HT.cT x.length 0 (some (a:Int)))).take (HT.cT x.length x.length (some ((a:Int)+1))-HT.cT x.length 0 (some (a:Int)))))):=by rw[ai,yp]
      have d10:Dr h H (upd H9 q2 (.tup (gX (List.map V.int x) (some (a:Int)) (some ((a:Int)+1))))):=d9.new hq2
      have l2:((x.drop (HT.cT x.length 0 (some (a:Int)))).take (HT.cT x.length x.length (some ((a:Int)+1))-HT.cT x.length 0 (some (a:Int)))).length<=100:=by rw[List.length_take,List.length_drop];omega
      generalize ((x.drop (HT.cT x.length 0 (some (a:Int)))).take (HT.cT x.length x.length (some ((a:Int)+1))-HT.cT x.length 0 (some (a:Int))))=S2 at Tp l2
      generalize upd H9 q2 (.tup (gX (List.map V.int x) (some (a:Int)) (some ((a:Int)+1))))=QZ at Lh Tp d10 hp ⊢
      have Ei:=aE hp (.lst [V.ref l,V.ref q2])
      have Ub:Dr h H (upd QZ p (.lst [V.ref l,V.ref q2])):=d10.new hp
      have J3:upd QZ p (.lst [V.ref l,V.ref q2]) p=_:=ai
      have Tr:p≠h:=(d10.fF hd).ne hp
      generalize upd QZ p (.lst [V.ref l,V.ref q2])=Z5 at Ei Ub J3 ⊢
      have aAA:aF QZ bs ss:=sb9.mono λ_ _ e=>Lh _ _ e
      refine cY hd Ub (by decide) (by decide) λNb Yt r0 r1 d12 k12=>⟨_,rfl,_,(k12 p Tr).trans J3,λp3 yI=>?_⟩
      have TB:=Ub.fF hd
      have zO:∀c xs,Z5 c=some (.tup xs)->Yt c=some (.tup xs):=λc xs e=>(k12 c (TB.sV e)).trans e
      have M5:=aE yI (.lst (gX [V.ref l,V.ref q2] none (some (1+Nb))))
      have TV:=(k12 Z QD).trans (Ei _ _ (Lh _ _ hZ9))
      have lb:=sb.1
      refine⟨_,M5 _ _ TV,jd (by rw[List.length_map];have:=Ky [V.ref l,V.ref q2] (none:Option Int) (some (1+Nb));simp at this;omega),λp4 J2=>?_⟩
      have Gm:=M5.trans (aE J2 (.lst (List.map V.ref bs++gX [V.ref l,V.ref q2] none (some (1+Nb)))))
      exact fin l q2 S1 S2 Nb p4 _ _ ((d12.new yI).new J2) (Gm _ _ (zO _ _ (Ei _ _ (Lh _ _ hl9)))) (Gm _ _ (zO _ _ (Ei _ _ Tp))) (by omega) l2 (((aAA.mono λ_ _ e=>Ei _ _ e).mono zO).mono λ_ _ e=>Gm _ _ e) r0 r1 ai
    ·rw[if_neg (by simpa using e6)]
     exact nx0 _ d6 Xg Ut
   ·rw[if_neg (by simpa using e0)]
    exact nx0 _ d5 Zr sb
  obtain⟨L,y,bs,ss,rfl,d6,hL6,Ut,l40,vV⟩:=(Ke _ _).mp hm
  clear fin nx0 Ke hm wB
  repeat (walk_at "rl")
  refine⟨by decide,λp hp=>?_⟩
  have s7:=aE hp (.tup [V.int way,V.ref L,V.int 0])
  have aB2:way=0\/way=1:=by omega
  have YK:aF (upd H6 p (.tup [V.int way,V.ref L,V.int 0])) bs ss:=Ut.mono λ_ _ e=>s7 _ _ e
  rcases aB2 with rfl | rfl
  ·exact q p (.Td ss) _ (d6.new hp) (d6.free hd hp) ⟨L,bs,ai,s7 _ _ hL6,YK,by omega,vV⟩
  ·exact q p (.out ss) _ (d6.new hp) (d6.free hd hp) ⟨L,bs,ai,s7 _ _ hL6,YK,by omega,vV⟩
end
local macro_rules | `(tactic| walk_at "rd") => `(tactic| walk_at "rc")
local macro_rules | `(tactic| walk_at "rl") => `(tactic| first | (refine dA fun R hR => ?_) | walk_at "ry" | (refine Nx.to (by assumption) _ _ ?_))
def Mt:Sp:=λvs H Q _=>∃m p,vs=[.ref m,.ref p]/\∃(md:Md) (W S:List Int),pP H m W md/\H p=some (.tup (List.map V.int S))/\S.length<=100/\(∀z∈S,z∈W)/\∀H',bD H H'->Q (.bl (md.tells S)) H'
section
variable {P:Program}{w:World}{K:PySem.W.Frag}{mg:Str->Option Value}{base:Heap}{t:qK}
theorem xt(T:Txt K mg t):bG P w K mg base eI 2 t.jw t.jn ["_law_model_here","_law_part"] Mt:=by
 have bT:=o6 (P:=P) (w:=w) (base:=base) T
 refine T.gA.n6 sU (λvs H Q E h=>?_) (λcB A outer s H vs Q E hr h hc hf=>?_)
 ·obtain⟨m,p,rfl,_⟩:=h;rfl
 obtain⟨m,p,rfl,md,W,S,ma,hp,lS,sub,q⟩:=h
 have hu:=kl hr
 have Lk:=hr.fk
 refine⟨_,(by apply aq;exact(bX (bA n5 (bq pj (ao hc 0) aj (λ_ _=>rfl)) aj (cF _)) (by exact ay (aL (nG Wd (aP (FV hr.hd) (bZ hc) T.z_sum Yj (ae (cg hc ["_law_one"] [0] rfl (by decide +kernel) (e8 (ao hc 1)) (λ_ hc=>jX hc (by decide +kernel) 0 (by decide +kernel)) (λ_ _=>cK) (λ_ hc=>(nF hu (bq pj (ao hc 1) aj (λ_ _=>rfl)) (ao hc 0) (λ_ _=>rfl)))) ah)) (bq pj (ao hc 0) aj (λ_ _=>rfl)) (cF _)))) bt);apply aq;exact(bX (bA n5 (bq pj (ao hc 0) aj (λ_ _=>rfl)) aj (cF _)) (by exact ay (aL (aP (lz hr.hd) (bZ hc) T.z_any Di (ae (cg hc ["_law_one"] [1] rfl (by decide +kernel) (cp (bq pj (ao hc 0) aj (λ_ _=>rfl))) (λ_ hc=>jX hc (by decide +kernel) 0 (by decide +kernel)) (λ_ _=>cK) (λ_ hc=>(aB bT (hr.mono (by omega)) (bZ hc) T.dg T.cC.kp T.di .nil aR (ae (ao hc 1) (ae (ao hc 0) ah))))) ah)))) bt);exact ay (aL (Bc (aP (lz hr.hd) (bZ hc) T.z_any Di (ae (cg hc ["_law_one"] [1] rfl (by decide +kernel) (cp (bq pj (ao hc 0) aj (λ_ _=>rfl))) (λ_ hc=>jX hc (by decide +kernel) 0 (by decide +kernel)) (λ_ _=>cK) (λ_ hc=>(aB bT (hr.mono (by omega)) (bZ hc) T.dg T.cC.kp T.di .nil aR (ae (ao hc 0) (ae (ao hc 1) ah))))) ah))))),?_⟩
 cases md with
 | wt g most=>
  obtain⟨d,ks,hm,hd,hk⟩:=ma
  repeat (first | walk_at "rl" | simp only[hm])
  refine⟨⟨_,bE hp⟩,?_⟩
  refine pH (zs:=List.map V.int S) (λj=>S[j]?.map g) (λ_ _ v d=>v=V.int d) (λ_ _ _ _ _ _ r=>r) (λ_ _ _ _ _ _ _ r=>r) hp (by rw[List.length_map];omega) (λDD c H4 j z yes no hj s4 Ki Kh dv tH=>?_) (λD H4 vs s4 hD uN rl=>?_)
  ·obtain⟨n,en,rfl⟩:=int_at hj
   rw[en]at dv
   have hm4:=s4 _ _ hm
   walk_at "rc"
   repeat (first | walk_at "rl" | simp only[hm4,ua])
   refine⟨.int (g n),?_,dv _ rfl _ _ (λ_ _ e=>e) rfl⟩
   have:=oN.k (k:=Sum.inl n) (s4 _ _ hd)
   rw[v8,if_pos (hk.1 n (sub n (List.mem_of_getElem? en)))]at this
   exact this
  have ev:=Cg rl
  rw[List.length_map,km (l:=S) (g:=g) λk hk=>by rw[List.getElem?_eq_getElem hk];rfl]at ev
  subst ev
  have hm4:=s4 _ _ hm
  repeat (first | walk_at "rl" | simp only[hm4])
  exact⟨_,uN,q _ s4⟩
 | Td ss=>
  obtain⟨l,bs,hm,hl,sb,l9,ls⟩:=ma
  repeat (first | walk_at "rl" | simp only[hm])
  refine⟨⟨_,aV hl⟩,?_⟩
  refine dk (zs:=List.map V.ref bs) (λj=>ss[j]?.map λs=>V.bl (aA S s)) (λ_=>Ge) (λ_ _ _ _ _ _ r=>r) (λ_ _ _ _ _ _ _ r=>r) hl (by rw[List.length_map,sb.1];omega) (λDD c H4 j z yes no hj s4 Ki Kh dv tH=>?_) (λD H4 vs s4 hD uN rl=>?_)
  ·obtain⟨b,eb,rfl⟩:=dG hj
   have Fs:j<bs.length:=(List.getElem?_eq_some_iff.mp eb).1
   have es:ss[j]?=some (ss[j]'(by have:=sb.1;omega)):=List.getElem?_eq_getElem _
   have TL:=s4 _ _ (sb.2 j b _ eb es)
   rw[es]at dv
   walk_at "rc"
   repeat (walk_at "rl")
   exact⟨p,b,rfl,S,_,s4 _ _ hp,TL,by omega,λH5 s5=>dv _ rfl _ _ s5 rfl⟩
  have ev:=nI rl
  rw[List.length_map,sb.1,km (l:=ss) (g:=λs=>V.bl (aA S s)) λk hk=>by rw[List.getElem?_eq_getElem hk];rfl]at ev
  subst ev
  refine⟨D,rfl,ss.map λs=>aA S s,by rw[uN,List.map_map];rfl,?_⟩
  rw[List.any_map]
  exact q _ s4
 | out ss=>
  obtain⟨l,bs,hm,hl,sb,l9,ls⟩:=ma
  repeat (first | walk_at "rl" | simp only[hm])
  refine⟨⟨_,aV hl⟩,?_⟩
  refine dk (zs:=List.map V.ref bs) (λj=>ss[j]?.map λs=>V.bl (aA s S)) (λ_=>Ge) (λ_ _ _ _ _ _ r=>r) (λ_ _ _ _ _ _ _ r=>r) hl (by rw[List.length_map,sb.1];omega) (λDD c H4 j z yes no hj s4 Ki Kh dv tH=>?_) (λD H4 vs s4 hD uN rl=>?_)
  ·obtain⟨b,eb,rfl⟩:=dG hj
   have Fs:j<bs.length:=(List.getElem?_eq_some_iff.mp eb).1
   have es:ss[j]?=some (ss[j]'(by have:=sb.1;omega)):=List.getElem?_eq_getElem _
   have TL:=s4 _ _ (sb.2 j b _ eb es)
   rw[es]at dv
   walk_at "rc"
   repeat (walk_at "rl")
   exact⟨b,p,rfl,_,S,TL,s4 _ _ hp,by have:=ls _ (List.mem_of_getElem? es);omega,λH5 s5=>dv _ rfl _ _ s5 rfl⟩
  have ev:=nI rl
  rw[List.length_map,sb.1,km (l:=ss) (g:=λs=>V.bl (aA s S)) λk hk=>by rw[List.getElem?_eq_getElem hk];rfl]at ev
  subst ev
  refine⟨D,rfl,ss.map λs=>aA s S,by rw[uN,List.map_map];rfl,?_⟩
  rw[List.any_map]
  exact q _ s4
end
local macro_rules | `(tactic| walk_at "rd") => `(tactic| walk_at "rc")
local macro_rules | `(tactic| walk_at "rl") => `(tactic| first | (refine dA fun R hR => ?_) | walk_at "ry" | (refine Nx.to (by assumption) _ _ ?_))
def Gw(Z:Addr->Prop)(H H':Hp):Prop:=∀b o,¬Z b->H b=some o->H' b=some o
theorem Gw.trans{Z:Addr->Prop}{H H1 H2:Hp}(a:Gw Z H H1)(b:Gw Z H1 H2):Gw Z H H2:=λc o hc e=>b c o hc (a c o hc e)
theorem Gw.of{Z:Addr->Prop}{H H':Hp}(s:bD H H'):Gw Z H H':=λb o _ e=>s b o e
structure Lf(P:Program)(w:World)(K:PySem.W.Frag)(mg:Str->Option Value)(base:Heap)(k:Nat)(f:Addr){ι:Type}(Z:Addr->Prop)(D:ι->Hp->Prop)(nx:ι->List Int->ι)(lim:ι->Prop)(dom:List Int->Prop)(tells:List Int->Bool):Prop where
 run:∃sp,lY P w K mg base k f sp/\∀i H p S Q,D i H->lim i->H p=some (.tup (List.map V.int S))->dom S->(∀H',D (nx i S) H'->Gw Z H H'->Q (.bl (tells S)) H')->sp [.ref p] H Q E0
 fn:∀i H,D i H->Uq H f
 st:∀i H H',D i H->bD H H'->D i H'
 nt:∀i H b xs,D i H->Z b->H b≠some (.tup xs)
theorem Lf.tup{P:Program}{w:World}{K:PySem.W.Frag}{mg:Str->Option Value}{base:Heap}{k:Nat}{f:Addr}{ι:Type}{Z:Addr->Prop}{D:ι->Hp->Prop}{nx:ι->List Int->ι}{lim:ι->Prop}{dom:List Int->Prop}{tells:List Int->Bool}(a:Lf P w K mg base k f Z D nx lim dom tells){i:ι}{H H':Hp}(d:D i H)(kp:Gw Z H H'){b:Addr}{xs:List V}(e:H b=some (.tup xs)):H' b=some (.tup xs):=
 kp b _ (λz=>a.nt i H b xs d z e) e
def dM(W c:List Int)(m:Int):List Int:=W.filter λz=>decide (z∈c\/z=m)
def fc(tells:List Int->Bool)(W ms c:List Int):List Int:=ms.foldl (λc m=>if tells (dM W c m)=true then dM W c m else c) c
theorem iN(W c:List Int)(m:Int):(dM W c m).Sublist W:=List.filter_sublist
theorem uP(tells:List Int->Bool)(W:List Int):∀(ms c:List Int),c.Sublist W->(fc tells W ms c).Sublist W
 | [],c,h=>h
 | m::ms,c,h=>by
  unfold fc
  rw[List.foldl_cons]
  refine uP tells W ms _ ?_
  by_cases e:tells (dM W c m)=true
  ·rw[if_pos e];exact iN W c m
  ·rw[if_neg e];exact h
theorem JB{W c:List Int}{m:Int}(hW:dF W)(h:c.Sublist W)(hm:m∈c):dM W c m=c:=by
 refine nY (hW.sublist (iN W c m)) (hW.sublist h) λz=>?_
 unfold dM
 rw[List.mem_filter,decide_eq_true_eq]
 exact⟨λ⟨_,a⟩=>a.elim id λe=>e ▸ hm,λa=>⟨h.subset a,.inl a⟩⟩
theorem jm{tells:List Int->Bool}{W S:List Int}(hW:dF W):∀(ms c:List Int),c.Sublist W->(∀z∈S,z∈c)->fc tells W (cO ms S) c=fc tells W ms c
 | [],c,_,_=>rfl
 | m::ms,c,h,hS=>by
  unfold cO
  rw[List.filter_cons]
  have sub:∀z∈S,z∈dM W c m:=λz hz=>List.mem_filter.mpr ⟨h.subset (hS z hz),decide_eq_true (.inl (hS z hz))⟩
  by_cases e:m∈S
  ·rw[if_neg (by simpa using e)]
   have:=jm (tells:=tells) (S:=S) hW ms c h hS
   unfold cO at this
   rw[this]
   show fc tells W ms c=fc tells W ms (if tells (dM W c m)=true then dM W c m else c)
   rw[JB hW h (hS m e)]
   simp
  ·rw[if_pos (by simpa using e)]
   show fc tells W (cO ms S) (if tells (dM W c m)=true then dM W c m else c)=fc tells W ms (if tells (dM W c m)=true then dM W c m else c)
   by_cases e2:tells (dM W c m)=true
   ·rw[if_pos e2];exact jm hW ms _ (iN W c m) sub
   ·rw[if_neg e2];exact jm hW ms c h hS
def jF{ι:Type}(tells:List Int->Bool)(nx:ι->List Int->ι)(W ms:List Int)(c:List Int×ι):List Int×ι:=ms.foldl (λc m=>(if tells (dM W c.1 m)=true then dM W c.1 m else c.1,nx c.2 (dM W c.1 m))) c
theorem uO{ι:Type}(tells:List Int->Bool)(nx:ι->List Int->ι)(W:List Int):∀(ms:List Int) (c:List Int×ι),(jF tells nx W ms c).1=fc tells W ms c.1
 | [],c=>rfl
 | m::ms,c=>by
  unfold jF fc
  rw[List.foldl_cons,List.foldl_cons]
  exact uO tells nx W ms _
def Bk(P:Program)(w:World)(K:PySem.W.Frag)(mg:Str->Option Value)(base:Heap)(cN:Addr):Sp:=λvs H Q E=>∃U f p,vs=[.ref U,.ref f,.ref p]/\∃(ι:Type) (Z:Addr->Prop) (D:ι->Hp->Prop) (nx:ι->List Int->ι) (dom:List Int->Prop) (tells:List Int->Bool) (n:ι) (W S:List Int),
 Lf P w K mg base 12 f Z D nx (λ_=>True) dom tells/\D n H/\H U=some (.tup (List.map V.int W))/\H p=some (.tup (List.map V.int S))/\dF W/\S.Sublist W/\W.length<=60/\(∀T,T.Sublist W->dom T)/\tells S=true/\
 ∀r H',D (jF tells nx W (cO W S) (S,nx n S)).2 H'->Gw Z H H'->H' r=some (.tup (List.map V.int (fc tells W W S)))->Q (.ref r) H'
section
variable {P:Program}{w:World}{K:PySem.W.Frag}{mg:Str->Option Value}{base:Heap}{t:qK}
theorem zm(T:Txt K mg t):bG P w K mg base eI 1 t.aZ t.eN cq (vn t.aS "part"):=by
 refine T.nj.n6 lB (λvs H Q E h=>?_) (λcB A outer s H vs Q E hr h hc hf=>?_)
 ·obtain⟨e,v,t,rfl,_⟩:=h;rfl
 obtain⟨e,v,t0,rfl,he,q⟩:=h
 refine⟨_,(by apply aq;exact(dm (GJ T.rd_TruceError T.fc_TruceError T.sg_TruceError (bZ hc) T.vU (ae (ao hc 0) (ae L7 ah))));exact ay (Gz (ao hc 0) (ao hc 1) rfl)),?_⟩
 repeat (walk_at "rd")
 refine⟨t.aS,t0,he,T.oW,λt'=>⟨t.aS,t',rfl,T.oW,T.tk_NoPeace,λdx hd qH=>?_⟩⟩
 rw[au qH]at hd
 exact q dx t' hd qH
theorem Jt(T:Txt K mg t):bG P w K mg base (Bb P w) 14 t.wy t.v9 ["whole","ask","part"] (Bk P w K mg base t.aS):=by
 have Gh:=N9 (P:=P) (w:=w) (base:=base) T
 have Ld:=Es (P:=P) (w:=w) (base:=base) T
 have Gi:=zm (P:=P) (w:=w) (base:=base) T
 refine T.Dw.okE j4 (λvs H Q E h=>?_) (λcB A outer s H vs Q E hr h hc hf L hpo=>?_)
 ·obtain⟨U,f,p,rfl,_⟩:=h;rfl
 obtain⟨U,f,p,rfl,ι,Z,D,nx,dom,tells,n,W,S,ask,hD,hU,hp,rW,sS,lW,mV,e0,q⟩:=h
 have hu:=kl hr
 have Lk:=hr.fk
 refine⟨_,(by apply aq;exact(bX (dU (bQ (tW (k:=12) (hr.mono (by omega)) (ao hc 1) (ae (ao hc 2) ah)))) (by exact ay (yL (EH:=λ_=>E) T.oW T.ii_NoPeace T.if_NoPeace T.kc_NoPeace Gi T.m8 (hr.mono (by omega)) (bZ hc) T.Fb rfl L (ao hc 2))) bt);apply aq;exact(aI hc j4.nd hf 3 (by decide +kernel) (ao hc 2));apply aq;exact(cW hpo rfl (e8 (aB Gh (hr.mono (by omega)) (bZ hc) T.EY T.va.kp T.Gd .nil aR (ae (ao hc 0) (ae (ao hc 2) ah)))) (jW hc j4.nd hf 4 (by decide +kernel)) (by apply aq;exact(aI hc j4.nd hf 5 (by decide +kernel) (aB Ld (hr.mono (by omega)) (bZ hc) T.JG T.yE.kp T.K3 .nil aR (ae (aT rk (ao hc 3) (fT (ae (ao hc 4) ah))) ah)));exact ay (bX (bQ (tW (k:=12) (hr.mono (by omega)) (ao hc 1) (ae (ao hc 5) ah))) (by exact ay (aI hc j4.nd hf 3 (by decide +kernel) (ao hc 5))) bt)));exact ay (aL (ao hc 3))),?_⟩
 repeat (walk_at "rl")
 obtain⟨sp,QW,run⟩:=ask.run
 refine⟨ask.fn _ _ hD,ask.fn _ _ hD,sp,QW,run n H p S _ hD trivial hp (mV S sS) λH1 wG k1=>⟨_,rfl,?_⟩⟩
 have nr:=ask.tup hD k1 hp
 have hU1:=ask.tup hD k1 hU
 rw[e0,if_neg (by decide)]
 repeat (walk_at "rl")
 refine⟨U,p,rfl,W,S,hU1,nr,by omega,λR H2 s2 hR hR2=>?_⟩
 repeat (walk_at "rl")
 refine⟨⟨_,bE hR2⟩,?_⟩
 have lr:(cO W S).length<=W.length:=List.length_filter_le _ _
 have v5:=ask.st _ _ _ wG s2
 have k2:=k1.trans (Gw.of s2)
 obtain⟨Pv,cH⟩:∃Pv:Nat->St->Hp->Prop,∀i σ' H',Pv i σ' H'↔∃(c:Addr) (x y:Option V),σ'=[some (.ref U),some (.ref f),some (.ref p),some (.ref c),x,y]/\D (jF tells nx W ((cO W S).take i) (S,nx n S)).2 H'/\Gw Z H H'/\(H' R=some (.tup (List.map V.int (cO W S))))/\H' c=some (.tup (List.map V.int (fc tells W ((cO W S).take i) S))):=⟨_,λ_ _ _=>Iff.rfl⟩
 refine gO (xs:=List.map V.int (cO W S)) Pv ((cH _ _ _).mpr ⟨p,none,none,rfl,v5,k2,hR2,s2 _ _ nr⟩) (λi σ' H' _ pv=>?_) (λi z σ' H3 hz pv=>?_) (λσ' H3 pv=>?_)
 ·obtain⟨c,_,_,_,_,_,hR',_⟩:=(cH _ _ _).mp pv
  exact hR'
 ·obtain⟨c,x,y,rfl,Fw,k3,Xl,U1⟩:=(cH _ _ _).mp pv
  obtain⟨m,em,rfl⟩:=int_at hz
  have hi:i<(cO W S).length:=(List.getElem?_eq_some_iff.mp em).1
  have hmW:m∈W:=(List.mem_filter.mp (List.mem_of_getElem? em)).1
  have step:fc tells W ((cO W S).take (i+1)) S=if tells (dM W (fc tells W ((cO W S).take i) S) m)=true then dM W (fc tells W ((cO W S).take i) S) m else fc tells W ((cO W S).take i) S:=by
   unfold fc
   rw[List.take_add_one,em,List.foldl_append]
   rfl
  have stepI:(jF tells nx W ((cO W S).take (i+1)) (S,nx n S)).2=nx (jF tells nx W ((cO W S).take i) (S,nx n S)).2 (dM W (fc tells W ((cO W S).take i) S) m):=by
   rw[<-uO tells nx W _ (S,nx n S)]
   unfold jF
   rw[List.take_add_one,em,List.foldl_append]
   rfl
  have sub:=uP tells W ((cO W S).take i) S sS
  generalize (jF tells nx W ((cO W S).take i) (S,nx n S)).2=I at Fw stepI
  generalize fc tells W ((cO W S).take i) S=C at U1 step stepI sub
  have lC:=sub.length_le
  repeat (walk_at "rl")
  refine⟨by decide,λp1 nr=>?_⟩
  have s4:=aE nr (.tup [V.int m])
  refine⟨_,s4 _ _ U1,by rw[List.length_map];exact bN (by omega),λp2 H5 s5 _ Zh=>?_⟩
  have s35:=s4.trans s5
  refine⟨p2,rfl,C++[m],by rw[Zh,List.map_append];rfl,by rw[List.length_append];simp;omega,λr ms H6 s6 _ hr6 rm mm=>?_⟩
  have YM:=s35.trans s6
  have em2:ms=dM W C m:=nY rm (rW.sublist (iN W C m)) λz=>by
   rw[mm]
   unfold dM
   rw[List.mem_filter,decide_eq_true_eq,List.mem_append,List.mem_singleton]
   exact⟨λh=>⟨h.elim (λa=>sub.subset a) λe=>e ▸ hmW,h⟩,λh=>h.2⟩
  subst em2
  have Lz:=ask.st _ _ _ Fw YM
  have k6:=k3.trans (Gw.of YM)
  repeat (walk_at "rl")
  refine⟨ask.fn _ _ Lz,ask.fn _ _ Lz,sp,QW,run _ H6 r _ _ Lz trivial hr6 (mV _ (iN W C m)) λH7 hD7 k7=>⟨_,rfl,?_⟩⟩
  have hc7:=ask.tup Lz k7 (YM _ _ U1)
  have hr7:=ask.tup Lz k7 hr6
  have hR7:=ask.tup Lz k7 (YM _ _ Xl)
  have k67:=k6.trans k7
  cases e5:tells (dM W C m) with
  | true=>
   rw[if_pos rfl]
   exact(cH _ _ _).mpr ⟨r,_,_,rfl,by rw[stepI];exact hD7,k67,hR7,by rw[step,e5,if_pos rfl];exact hr7⟩
  | false=>
   rw[if_neg (by decide)]
   exact(cH _ _ _).mpr ⟨c,_,_,rfl,by rw[stepI];exact hD7,k67,hR7,by rw[step,e5,if_neg (by decide)];exact hc7⟩
 obtain⟨c,x,y,rfl,Fw,k3,Xl,U1⟩:=(cH _ _ _).mp pv
 rw[List.length_map,List.take_length,jm rW W S sS λz hz=>hz]at U1
 rw[List.length_map,List.take_length]at Fw
 repeat (walk_at "rl")
 exact q c H3 Fw k3 U1
end
local macro_rules | `(tactic| walk_at "rd") => `(tactic| walk_at "rc")
local macro_rules | `(tactic| walk_at "rl") => `(tactic| first | (refine dA fun R hR => ?_) | walk_at "ry" | (refine Nx.to (by assumption) _ _ ?_))
def cov(pe:Bool)(S T:List Int):Bool:=(pe&&aA T S)||(!pe&&aA S T)
theorem vX{S T:List Int}(h:S.map (Sum.inl:Int->Key)=T.map Sum.inl):S=T:=(List.map_inj_right λ_ _ e=>Sum.inl.inj e).mp h
def Vy(f l d u:Addr):List (Str×V):=[("ask",.ref f),("askings",.ref l),("known",.ref d),("unknown",.ref u)]
def Mu(C:Addr):Sp:=λvs H Q _=>∃x f u dx,vs=[.ref x,.ref f,.ref u]/\H x=some (.ins C dx [])/\
 ∀l d H',H l=none->H d=none->H' x=some (.ins C dx (Vy f l d u))->H' l=some (.lst [])->H' d=some (.dT [])->(∀b o,b≠x->H b=some o->H' b=some o)->Q .non H'
def Mx(C:Addr):Sp:=λvs H Q _=>∃x p pe,vs=[.ref x,.ref p,.bl pe]/\∃dx f l d u,∃(S:List Int) (nq:List (List Int)) (us:List Addr) (aG:List (List Key×V)),
 H x=some (.ins C dx (Vy f l d u))/\H p=some (.tup (List.map V.int S))/\H u=some (.lst (List.map V.ref us))/\aF H us nq/\H d=some (.dT aG)/\aG.length+nq.length<=900/\
 ∀H' u' us' SQ,H u'=none->H' x=some (.ins C dx (Vy f l d u'))->H' u'=some (.lst (List.map V.ref us'))->aF H' us' (nq.filter λT=>!cov pe S T)->H' d=some (.dT SQ)->SQ.length+(nq.filter λT=>!cov pe S T).length<=aG.length+nq.length->
  (∀T,eF SQ (T.map Sum.inl)=if T∈nq/\cov pe S T=true then some (.bl pe) else eF aG (T.map Sum.inl))->(∀b o,b≠x->b≠d->H b=some o->H' b=some o)->Q .non H'
section
variable {P:Program}{w:World}{K:PySem.W.Frag}{mg:Str->Option Value}{base:Heap}{t:qK}
theorem Jv(T:Txt K mg t):bG P w K mg base eI 1 t.bj t.eD ["self","ask","parts"] (Mu t.az):=by
 refine T.lJ.n6 j5 (λvs H Q E h=>?_) (λcB A outer s H vs Q E hr h hc hf=>?_)
 ·obtain⟨x,f,u,dx,rfl,_⟩:=h;rfl
 obtain⟨x,f,u,dx,rfl,hx,q⟩:=h
 refine⟨_,(by apply aq;exact(nB (ao hc 0) (ao hc 1) rfl);apply aq;exact(nB (ao hc 0) (dC ah) rfl);apply aq;exact(nB (ao hc 0) tV rfl);exact ay (nB (ao hc 0) (ao hc 2) rfl)),?_⟩
 repeat (walk_at "rd")
 refine⟨t.az,dx,[],hx,T.aM,T.jE,by decide,Nat.zero_le _,λl hl=>?_⟩
 have OD:l≠x:=λe=>by rw[e,ai]at hl;cases hl
 refine⟨t.az,dx,[("ask",.ref f)],by rw[au OD.symm,ai];rfl,T.aM,T.cv,(by show 1<1000;decide),λd hd=>?_⟩
 have zZ:d≠x:=λe=>by rw[e,ai]at hd;cases hd
 rw[au zZ]at hd
 have Qx:d≠l:=λe=>by rw[e,ai]at hd;cases hd
 rw[au Qx,au zZ]at hd
 rw[au OD]at hl
 refine⟨t.az,dx,[("ask",.ref f),("askings",.ref l)],by rw[au zZ.symm,ai];rfl,T.aM,T.bM,(by show 2<1000;decide),t.az,dx,[("ask",.ref f),("askings",.ref l),("known",.ref d)],rfl,T.aM,T.cu,(by show 3<1000;decide),?_⟩
 refine q l d _ hl hd (by rw[ai];rfl) (by rw[au OD,au Qx.symm,au OD,ai]) (by rw[au zZ,ai]) λb o hb e=>?_
 rw[au hb,au (av e hd),au hb,au (av e hl),au hb]
 exact e
theorem Jq(T:Txt K mg t):bG P w K mg base eI 2 t.bK t.fK ["self","part","peaceful"] (Mx t.az):=by
 have gE:=mP (P:=P) (w:=w) (base:=base) T
 refine T.pW.n6 e9 (λvs H Q E h=>?_) (λcB A outer s H vs Q E hr h hc hf=>?_)
 ·obtain⟨x,p,pe,rfl,_⟩:=h;rfl
 obtain⟨x,p,pe,rfl,dx,f,l,d,u,S,nq,us,aG,hx,hp,Ot,su,hd,lk,q⟩:=h
 have hu:=kl hr
 have Lk:=hr.fk
 refine⟨_,(by apply aq;exact(aI hc e9.nd hf 3 (by decide +kernel) (dC ah));apply aq;exact(cW PassesOwn.never rfl (cp (eJ (ao hc 0) rfl)) (jW hc e9.nd hf 4 (by decide +kernel)) (by exact ay (bX (lK (lZ (lK (nA (bQ (ao hc 2)) (jV (bQ (aB gE (hr.mono (by omega)) (bZ hc) T.lg T.iZ.kp T.lA .nil aR (ae (ao hc 4) (ae (ao hc 1) ah))))))) (ny (lK (nA (dU (bQ (ao hc 2))) (jV (bQ (aB gE (hr.mono (by omega)) (bZ hc) T.lg T.iZ.kp T.lA .nil aR (ae (ao hc 1) (ae (ao hc 4) ah)))))))))) (by exact ay (nC hu (eJ (ao hc 0) rfl) (ao hc 4) (ao hc 2) rfl)) (by exact ay (dm (oU PySem.F.plainAttrs_list PySem.F.slot_list_append PySem.F.type_list_append fC (ao hc 3) (ae (ao hc 4) ah)))))));exact ay (nB (ao hc 0) (ao hc 3) rfl)),?_⟩
 repeat (walk_at "rd")
 refine⟨Nat.zero_le _,λL hL=>?_⟩
 have s0:=aE hL (.lst [])
 have Cj:=s0 _ _ hx
 have Gq:=s0 _ _ hp
 have UG:=s0 _ _ Ot
 have Cr:=s0 _ _ hd
 have YD:aF (upd H L (.lst [])) us nq:=su.mono λb xs e=>s0 _ _ e
 have Ly:upd H L (.lst []) L=some (.lst []):=ai
 have zZ:d≠x:=aW hd hx (by intro z;cases z)
 have hdL:d≠L:=av hd hL
 have hxL:x≠L:=av hx hL
 have huL:u≠L:=av Ot hL
 have hud:u≠d:=aW Ot hd (by intro z;cases z)
 generalize upd H L (.lst [])=H0 at s0 Cj Gq UG Cr YD Ly ⊢
 refine⟨t.az,dx,_,Cj,T.aM,T.cu,.ref u,rfl,u,rfl,⟨_,aV UG⟩,?_⟩
 obtain⟨Pv,cH⟩:∃Pv:Nat->St->Hp->Prop,∀i σ' H',Pv i σ' H'↔∃(z:Option V) (cs:List Addr) (kv:List (List Key×V)),σ'=[some (.ref x),some (.ref p),some (.bl pe),some (.ref L),z]/\H' L=some (.lst (List.map V.ref cs))/\aF H' cs ((nq.take i).filter λT=>!cov pe S T)/\H' d=some (.dT kv)/\
  kv.length+((nq.take i).filter λT=>!cov pe S T).length<=aG.length+i/\(∀T,eF kv (T.map Sum.inl)=if T∈nq.take i/\cov pe S T=true then some (.bl pe) else eF aG (T.map Sum.inl))/\(∀b o,b≠d->b≠L->H0 b=some o->H' b=some o):=⟨_,λ_ _ _=>Iff.rfl⟩
 refine dN (xs:=List.map V.ref us) Pv ((cH _ _ _).mpr ⟨none,[],aG,rfl,Ly,⟨rfl,λi b t e=>by simp at e⟩,Cr,by simp,λT=>by simp,λb o _ _ e=>e⟩) (λi σ' H1 _ pv=>?_) (λi z σ' H1 hz pv=>?_) (λσ' H1 pv=>?_)
 ·obtain⟨_,_,_,_,_,_,_,_,_,k⟩:=(cH _ _ _).mp pv
  exact k _ _ hud huL UG
 ·obtain⟨y,cs,kv,rfl,yK,sc,Kb,lkv,Oq,k⟩:=(cH _ _ _).mp pv
  obtain⟨b,eb,rfl⟩:=dG hz
  have hi:i<us.length:=(List.getElem?_eq_some_iff.mp eb).1
  have ox:i<nq.length:=by have:=YD.1;omega
  have et:nq[i]?=some nq[i]:=List.getElem?_eq_getElem ox
  have QB:=YD.2 i b _ eb et
  have tk:nq.take (i+1)=nq.take i++[nq[i]]:=by rw[List.take_add_one,et];rfl
  have z4:=k _ _ (aW QB Cr (by intro z;cases z)) (aW QB Ly (by intro z;cases z)) QB
  have nr:=k _ _ (aW Gq Cr (by intro z;cases z)) (aW Gq Ly (by intro z;cases z)) Gq
  have vZ:=k _ _ zZ.symm hxL Cj
  generalize nq[i]=U at QB tk z4 et
  have lcs:=sc.1
  have lfl:((nq.take i).filter λT=>!cov pe S T).length<=900:=by
   have:=List.length_filter_le (λT=>!cov pe S T) (nq.take i)
   rw[List.length_take]at this
   omega
  have yes:cov pe S U=true->Pv (i+1) [some (.ref x),some (.ref p),some (.bl pe),some (.ref L),some (.ref b)] (upd H1 d (.dT (putK kv (U.map Sum.inl) (.bl pe)))):=λc=>by
   have fl:((nq.take (i+1)).filter λT=>!cov pe S T)=(nq.take i).filter λT=>!cov pe S T:=by rw[tk,List.filter_append];simp[c]
   refine(cH _ _ _).mpr ⟨_,cs,putK kv (U.map Sum.inl) (.bl pe),rfl,by rw[au hdL.symm];exact yK,?_,ai,?_,λT=>?_,λb o h1 h2 e=>by rw[au h1];exact k b o h1 h2 e⟩
   ·rw[fl]
    exact sc.mono λb xs e=>by rw[au (aW e Kb (by intro z;cases z))];exact e
   ·rw[fl]
    have:=kj kv (U.map Sum.inl) (.bl pe)
    omega
   ·rw[GQ,Oq,tk]
    by_cases e:T=U
    ·rw[if_pos (by rw[e]),if_pos ⟨by simp[e],by rw[e];exact c⟩]
    ·rw[if_neg λz=>e (vX z)]
     have:(T∈nq.take i++[U])=(T∈nq.take i):=by simp[e]
     simp only[this]
  have no:cov pe S U=false->Pv (i+1) [some (.ref x),some (.ref p),some (.bl pe),some (.ref L),some (.ref b)] (upd H1 L (.lst (List.map V.ref cs++[V.ref b]))):=λc=>by
   have fl:((nq.take (i+1)).filter λT=>!cov pe S T)=((nq.take i).filter λT=>!cov pe S T)++[U]:=by rw[tk,List.filter_append];simp[c]
   refine(cH _ _ _).mpr ⟨_,cs++[b],kv,rfl,by rw[ai,List.map_append];rfl,?_,by rw[au hdL];exact Kb,?_,λT=>?_,λb o h1 h2 e=>by rw[au h2];exact k b o h1 h2 e⟩
   ·rw[fl]
    exact(sc.snoc z4).mono λb xs e=>by rw[au (aW e yK (by intro z;cases z))];exact e
   ·rw[fl,List.length_append,List.length_singleton]
    omega
   ·rw[Oq,tk]
    by_cases e:T=U
    ·have:¬(T∈nq.take i/\cov pe S T=true):=λz=>by rw[e,c]at z;cases z.2
     rw[if_neg this,if_neg λz=>by rw[e,c]at z;cases z.2]
    ·have:(T∈nq.take i++[U])=(T∈nq.take i):=by simp[e]
     simp only[this]
  cases pe with
  | true=>
   repeat (walk_at "rd")
   refine⟨b,p,rfl,U,S,z4,nr,_,rfl,?_⟩
   have ec:cov true S U=aA U S:=by simp[cov]
   rw[<-ec]
   cases c:cov true S U with
   | true=>
    rw[if_pos rfl]
    simp only[qY]
    repeat (walk_at "rd")
    exact⟨t.az,dx,_,vZ,T.aM,T.bM,.ref d,rfl,d,rfl,_,sG.t (k:=U.map Sum.inl) Kb (by rw[kg];exact z4) (bN (by omega)),yes c⟩
   | false=>
    rw[if_neg (by decide)]
    repeat (walk_at "rd")
    exact⟨.inl ⟨rfl,_,aV yK⟩,_,yK,by rw[List.length_map];exact bN (by omega),no c⟩
  | false=>
   repeat (walk_at "rd")
   refine⟨p,b,rfl,S,U,nr,z4,_,rfl,?_⟩
   have ec:cov false S U=aA S U:=by simp[cov]
   rw[<-ec]
   cases c:cov false S U with
   | true=>
    rw[if_pos rfl]
    simp only[qY]
    repeat (walk_at "rd")
    exact⟨t.az,dx,_,vZ,T.aM,T.bM,.ref d,rfl,d,rfl,_,sG.t (k:=U.map Sum.inl) Kb (by rw[kg];exact z4) (bN (by omega)),yes c⟩
   | false=>
    rw[if_neg (by decide)]
    repeat (walk_at "rd")
    exact⟨.inl ⟨rfl,_,aV yK⟩,_,yK,by rw[List.length_map];exact bN (by omega),no c⟩
 ·obtain⟨y,cs,kv,rfl,yK,sc,Kb,lkv,Oq,k⟩:=(cH _ _ _).mp pv
  have hlen:(List.map V.ref us).length=nq.length:=by rw[List.length_map,YD.1]
  rw[hlen,List.take_length]at sc lkv
  rw[hlen,List.take_length]at Oq
  have vZ:=k _ _ zZ.symm hxL Cj
  repeat (walk_at "rd")
  refine⟨t.az,dx,_,vZ,T.aM,T.cu,(by show 4<1000;decide),?_⟩
  have nx:∀{b:Addr} {o:HO},H1 b=some o->b≠x->upd H1 x (.ins t.az dx (j7 (Str.ofString "unknown") (V.ref L) (Vy f l d u))) b=some o:=λe h=>by rw[au h];exact e
  refine q _ L cs kv hL (by rw[ai];rfl) (nx yK hxL.symm) (sc.mono λb xs e=>nx e (aW e vZ (by intro z;cases z))) (nx Kb zZ) lkv Oq λb o h1 h2 e=>nx (k b o h2 (av e hL) (s0 _ _ e)) h1
end
local macro_rules | `(tactic| walk_at "rd") => `(tactic| walk_at "rc")
local macro_rules | `(tactic| walk_at "rl") => `(tactic| first | (refine dA fun R hR => ?_) | walk_at "ry" | (refine Nx.to (by assumption) _ _ ?_))
def det(tells:List Int->Bool)(as:List (List Int))(T:List Int):Bool:=as.any λa=>cov (tells a) a T
def oO(tells:List Int->Bool)(as:List (List Int))(S:List Int):List (List Int):=if det tells as S=true then as else as++[S]
structure P6(P:Program)(w:World)(K:PySem.W.Frag)(mg:Str->Option Value)(base:Heap)(k:Nat)(f:Addr){ι:Type}(Z own:Addr->Prop)(D:ι->Hp->Prop)(nx:ι->List Int->ι)(lim:ι->Prop)(dom:List Int->Prop)(tells:List Int->Bool):Prop where
 g:Lf P w K mg base k f Z D nx lim dom tells
 zo:∀b,Z b->own b
 od:∀i H b,D i H->own b->H b≠none
 os:∀i H H',D i H->(∀b o,(own b\/∃xs,o=.tup xs)->H b=some o->H' b=some o)->D i H'
def il(own:Addr->Prop)(H:Hp)(C x f l d:Addr)(ps:List (List Int))(tells:List Int->Bool)(as:List (List Int)):Prop:=
 ∃(dx u:Addr) (bs us:List Addr) (aG:List (List Key×V)),H x=some (.ins C dx (Vy f l d u))/\H l=some (.lst (List.map V.ref bs))/\aF H bs as/\H d=some (.dT aG)/\(∀S∈ps,eF aG (S.map Sum.inl)=if det tells as S=true then some (.bl (tells S)) else none)/\
  H u=some (.lst (List.map V.ref us))/\aF H us (ps.filter λT=>!det tells as T)/\aG.length+(ps.filter λT=>!det tells as T).length<=ps.length/\u≠l/\¬own u/\as.Nodup/\∀s∈as,s∈ps
def kO(ps:List (List Int))(tells:List Int->Bool):Prop:=∀S∈ps,∀T∈ps,aA S T=true->tells T=true->tells S=true
theorem xU(S:List Int):aA S S=true:=by unfold aA;simp
theorem Kz(b:Bool)(S:List Int):cov b S S=true:=by unfold cov;rw[xU];cases b <;> rfl
theorem yn(tells:List Int->Bool)(as:List (List Int))(S T:List Int):det tells (as++[S]) T=(det tells as T||cov (tells S) S T):=by unfold det;rw[List.any_append];simp
theorem oA{tells:List Int->Bool}{as:List (List Int)}{S:List Int}(h:S∈as):det tells as S=true:=List.any_eq_true.mpr ⟨S,h,Kz _ _⟩
theorem il.keep{own:Addr->Prop}{H H':Hp}{C x f l d:Addr}{ps:List (List Int)}{tells:List Int->Bool}{as:List (List Int)}(h:il own H C x f l d ps tells as)(k:∀b o,(∀o',o≠cV o')->(∀tb,o≠.mK tb)->H b=some o->H' b=some o):il own H' C x f l d ps tells as:=by
 have p1:∀{xs:List V} (o':Obj),HO.lst xs≠cV o':=λ_ z=>by cases z
 have q1:∀{xs:List V} (tb:Array Value),HO.lst xs≠.mK tb:=λ_ z=>by cases z
 have q2:∀{xs:List V} (tb:Array Value),HO.tup xs≠.mK tb:=λ_ z=>by cases z
 have p2:∀{xs:List V} (o':Obj),HO.tup xs≠cV o':=λ_ z=>by cases z
 obtain⟨dx,u,bs,us,aG,h1,h2,h3,h4,h5,h6,h7,h8⟩:=h
 exact⟨dx,u,bs,us,aG,k _ _ (by intro o z;cases z) (by intro o z;cases z) h1,k _ _ p1 q1 h2,h3.mono λ_ _ e=>k _ _ p2 q2 e,k _ _ (by intro o z;cases z) (by intro o z;cases z) h4,h5,k _ _ p1 q1 h6,h7.mono λ_ _ e=>k _ _ p2 q2 e,h8⟩
theorem QX{ps as:List (List Int)}(nd:as.Nodup)(h:∀s∈as,s∈ps):as.length<=ps.length:=du nd h
def w6(P:Program)(w:World)(K:PySem.W.Frag)(mg:Str->Option Value)(base:Heap)(C:Addr):Sp:=λvs H Q _=>∃x p,vs=[.ref x,.ref p]/\∃(ι:Type) (Z own:Addr->Prop) (D:ι->Hp->Prop) (nx:ι->List Int->ι) (lim:ι->Prop) (dom:List Int->Prop) (tells:List Int->Bool) (i0:ι) (f l d:Addr) (ps as:List (List Int)) (S:List Int),
 P6 P w K mg base 8 f Z own D nx lim dom tells/\D (as.foldl nx i0) H/\(∀ts:List (List Int),ts.length<=100->lim (ts.foldl nx i0))/\kO ps tells/\il own H C x f l d ps tells as/\H p=some (.tup (List.map V.int S))/\S∈ps/\ps.length<=100/\(∀s∈ps,dom s)/\¬own x/\¬own l/\¬own d/\
 ∀H',il own H' C x f l d ps tells (oO tells as S)->D ((oO tells as S).foldl nx i0) H'->(∀b o,¬Z b->b≠x->b≠l->b≠d->H b=some o->H' b=some o)->Q (.bl (tells S)) H'
section
variable {P:Program}{w:World}{K:PySem.W.Frag}{mg:Str->Option Value}{base:Heap}{t:qK}
theorem uD(T:Txt K mg t):bG P w K mg base eI 9 t.bJ t.fJ ["self","part"] (w6 P w K mg base t.az):=by
 have pU:=Jq (P:=P) (w:=w) (base:=base) T
 refine T.pV.n6 nW (λvs H Q E h=>?_) (λcB A outer s H vs Q E hr h hc hf=>?_)
 ·obtain⟨x,p,rfl,_⟩:=h;rfl
 obtain⟨x,p,rfl,ι,Z,own,D,nx,lim,dom,tells,i0,f,l,d,ps,as,S,ask,hD,yf,mono,snd,hp,hS,lps,mV,sJ,Sl,Sq,q⟩:=h
 have hu:=kl hr
 have Lk:=hr.fk
 have Rp:=snd
 obtain⟨dx,u,bs,us,aG,hx,hl,sbs,hd,UL,Ot,sus,lk,hul,nou,nd,sub⟩:=snd
 refine⟨_,(by apply jU;exact(bX (LW (yM hu (ao hc 1) (eJ (ao hc 0) rfl))) (by apply aq;exact(dm (oU PySem.F.plainAttrs_list PySem.F.slot_list_append PySem.F.type_list_append fC (eJ (ao hc 0) rfl) (ae (ao hc 1) ah)));exact ay (dm (qL (ao hc 0) T.aM T.om pU (hr.mono (by omega)) T.pM .nil aR (ae (ao hc 1) (ae (DG (k:=8) (hr.mono (by omega)) (ao hc 0) (ae (ao hc 1) ah)) ah))))) bt);exact ay (aL (nF hu (eJ (ao hc 0) rfl) (ao hc 1) (λ_ _=>rfl)))),?_⟩
 unfold Ml
 refine⟨λσ' H'=>σ'=[some (.ref x),some (.ref p)]/\il own H' t.az x f l d ps tells (oO tells as S)/\D ((oO tells as S).foldl nx i0) H'/\(∀b o,¬Z b->b≠x->b≠l->b≠d->H b=some o->H' b=some o),?_,λσ' H' hN=>?_⟩
 ·repeat (first | walk_at "rl" | simp only[vg])
  refine⟨t.az,dx,_,hx,T.aM,T.bM,.ref d,rfl,d,rfl,_,oN.t (k:=S.map Sum.inl) hd (by rw[kg];exact hp),?_⟩
  rw[UL S hS]
  cases c:det tells as S with
  | true=>
   rw[if_pos rfl]
   simp only[Option.isSome_some,Bool.not_true]
   repeat (walk_at "rl")
   rw[show oO tells as S=as from if_pos c]
   exact⟨Rp,hD,λb o _ _ _ _ e=>e⟩
  | false=>
   rw[show(if false=true then some (V.bl (tells S)) else none)=none from rfl]
   simp only[Option.isSome_none,Bool.not_false]
   repeat (walk_at "rl")
   have lbs:=sbs.1
   have Oi:=QX nd sub
   have OD:l≠x:=aW hl hx (by intro z;cases z)
   have hld:l≠d:=aW hl hd (by intro z;cases z)
   have zZ:d≠x:=aW hd hx (by intro z;cases z)
   have hux:u≠x:=aW Ot hx (by intro z;cases z)
   have hud:u≠d:=aW Ot hd (by intro z;cases z)
   refine⟨t.az,dx,_,hx,T.aM,T.cv,.ref l,rfl,.inl ⟨rfl,_,aV hl⟩,l,rfl,_,hl,by rw[List.length_map];exact bN (by omega),?_⟩
   have k1:∀b o,b≠l->H b=some o->upd H l (.lst (List.map V.ref bs++[V.ref p])) b=some o:=λb o h e=>by rw[au h];exact e
   have tI:upd H l (.lst (List.map V.ref bs++[V.ref p])) l=some (.lst (List.map V.ref (bs++[p]))):=by rw[ai,List.map_append];rfl
   generalize upd H l (.lst (List.map V.ref bs++[V.ref p]))=H1 at k1 tI ⊢
   have kt1:∀{b:Addr} {xs:List V},H b=some (.tup xs)->H1 b=some (.tup xs):=λe=>k1 _ _ (aW e hl (by intro z;cases z)) e
   have wG:D (as.foldl nx i0) H1:=ask.os _ _ _ hD λb o h e=>k1 b o (h.elim (λh z=>Sl (z ▸ h)) λ⟨xs,ho⟩=>aW e hl (by rw[ho];intro z;cases z)) e
   have vZ:=k1 _ _ OD.symm hx
   have nr:=kt1 hp
   repeat (walk_at "rl")
   obtain⟨sp,QW,run⟩:=ask.g.run
   refine⟨dx,_,vZ,rfl,t.az,dx,_,vZ,T.aM,T.jE,f,rfl,ask.g.fn _ _ wG,ask.g.fn _ _ wG,sp,QW,run _ H1 p S _ wG (yf as (by omega)) nr (mV S hS) λH2 v5 k2=>?_⟩
   have nz:∀{b:Addr},¬own b->¬Z b:=λh z=>h (ask.zo _ z)
   have Zb:∀{b:Addr} {xs:List V},H b=some (.tup xs)->H2 b=some (.tup xs):=λe=>ask.g.tup wG k2 (kt1 e)
   have Gp:=k2 _ _ (nz sJ) vZ
   have Cq:=k2 _ _ (nz Sl) tI
   have hd2:=k2 _ _ (nz Sq) (k1 _ _ hld.symm hd)
   have Uz:=k2 _ _ (nz nou) (k1 _ _ hul Ot)
   have aAb:aF H2 us (ps.filter λT=>!det tells as T):=sus.mono λb xs e=>Zb e
   refine⟨x,p,tells S,rfl,dx,f,l,d,u,S,_,us,aG,Gp,Zb hp,Uz,aAb,hd2,by omega,λH3 u3 Us Wq Wx JZ Cp Ea U0 lk3 hv3 k3=>?_⟩
   have enx:oO tells as S=as++[S]:=if_neg (by rw[c];decide)
   have efl:((ps.filter λT=>!det tells as T).filter λT=>!cov (tells S) S T)=ps.filter λT=>!det tells (as++[S]) T:=by
    rw[List.filter_filter]
    congr 1
    funext T
    rw[yn]
    cases det tells as T <;> cases cov (tells S) S T <;> rfl
   rw[efl]at Ea lk3
   have kt3:∀{b:Addr} {xs:List V},H2 b=some (.tup xs)->H3 b=some (.tup xs):=λe=>k3 _ _ (aW e Gp (by intro z;cases z)) (aW e hd2 (by intro z;cases z)) e
   have aCh:=k3 _ _ OD hld Cq
   rw[enx]
   refine⟨⟨dx,u3,bs++[p],Us,Wq,JZ,aCh,(sbs.mono λb xs e=>kt3 (Zb e)).snoc (kt3 (Zb hp)),U0,λT hT=>?_,Cp,Ea,by omega,(av Cq Wx).symm,λz=>ask.od _ _ _ v5 z Wx,?_,?_⟩,?_,λb o h1 h2 h3 h4 e=>k3 _ _ h2 h4 (k2 _ _ h1 (k1 _ _ h3 e))⟩
   ·rw[hv3,UL T hT,yn]
    by_cases e1:det tells as T=true
    ·have nin:¬(T∈(ps.filter λT=>!det tells as T)/\cov (tells S) S T=true):=λz=>by
      have:=(List.mem_filter.mp z.1).2
      rw[e1]at this
      cases this
     rw[if_neg nin,if_pos e1,if_pos (by rw[e1];rfl)]
    ·have Cz:=eq_false_of_ne_true e1
     rw[Cz,Bool.false_or]
     by_cases e2:cov (tells S) S T=true
     ·rw[if_pos ⟨List.mem_filter.mpr ⟨hT,by rw[Cz];rfl⟩,e2⟩,if_pos e2]
      congr 2
      unfold cov at e2
      cases eS:tells S with
      | true=>
       rw[eS]at e2
       simp at e2
       exact(mono T hT S hS e2 eS).symm
      | false=>
       rw[eS]at e2
       simp at e2
       cases eT:tells T with
       | true=>have:=mono S hS T hT e2 eT;rw[eS]at this;cases this
       | false=>rfl
     ·rw[if_neg λz=>e2 z.2,if_neg e2];rfl
   ·refine List.nodup_append.mpr ⟨nd,by simp,λa ha b hb z=>?_⟩
    rw[List.mem_singleton]at hb
    rw[z,hb]at ha
    rw[oA ha]at c
    cases c
   ·intro s hs
    rcases List.mem_append.mp hs with z | z
    ·exact sub s z
    ·rw[List.mem_singleton.mp z];exact hS
   ·rw[List.foldl_append]
    exact ask.os _ _ _ v5 λb o h e=>k3 b o (h.elim (λh z=>sJ (z ▸ h)) λ⟨xs,ho⟩=>aW e Gp (by rw[ho];intro z;cases z)) (h.elim (λh z=>Sq (z ▸ h)) λ⟨xs,ho⟩=>aW e hd2 (by rw[ho];intro z;cases z)) e
 ·obtain⟨rfl,Vu,wG,k1⟩:=hN
  have aAe:=Vu
  obtain⟨dx1,u1,bs1,us1,aDD,vZ,tI,aDy,Kb,aCi,UG,aDw,lk1,aDF,aDB,nd1,aDx⟩:=Vu
  have dS:det tells (oO tells as S) S=true:=by
   unfold oO
   by_cases c:det tells as S=true
   ·rw[if_pos c];exact c
   ·rw[if_neg c];exact oA (by simp)
  have nr:H' p=some (.tup (List.map V.int S)):=k1 p _ (λz=>ask.g.nt _ H p _ hD z hp) (aW hp hx (by intro z;cases z)) (aW hp hl (by intro z;cases z)) (aW hp hd (by intro z;cases z)) hp
  repeat (first | walk_at "rl" | simp only[ua])
  have e1:=aCi S hS
  rw[if_pos dS]at e1
  exact⟨t.az,dx1,_,vZ,T.aM,T.bM,.ref d,rfl,d,rfl,_,by rw[<-e1];exact oN.t (k:=S.map Sum.inl) Kb (by rw[kg];exact nr),q H' aAe wG k1⟩
end
local macro_rules | `(tactic| walk_at "rd") => `(tactic| walk_at "rc")
local macro_rules | `(tactic| walk_at "rl") => `(tactic| first | (refine dA fun R hR => ?_) | walk_at "ry" | (refine Nx.to (by assumption) _ _ ?_))
def aJ:Expr:=match aH bB with
 | [_,.While _ [_,.If _ [.Expr (.Call _ [_,e,_] _ _) _] _ _] _ _,_,_,_]=>e
 | _=>.Name "" ⟨0,0,0,0⟩
def Fg:Expr->Arguments
 | .Lambda a _ _ _=>a
 | _=>{ posonlyargs:=[],args:=[],vararg:=none,kwonlyargs:=[],kw_defaults:=[],kwarg:=none,defaults:=[] }
def Ff:Expr->Expr
 | .Lambda _ b _ _=>b
 | e=>e
def zN:Expr->Scope
 | .Lambda _ _ s _=>s
 | _=>{ kind:=.function,names:=[],isGenerator:=false,isCoroutine:=false }
def Fe:Expr->Pos
 | .Lambda _ _ _ p=>p
 | _=>⟨0,0,0,0⟩
def Vq(P:Program)(w:World)(K:PySem.W.Frag)(mg:Str->Option Value)(base:Heap)(C g c':Addr)(fo oc:Obj)(cl:List (Str×Addr))(x:Addr):Sp:=λvs H Q _=>∃p,vs=[.ref p]/\H g=some (cV fo)/\H c'=some (cV oc)/\∃Cs,cU Cs H/\CellsOk Cs cl ["sounding"] [.ref x]/\∃dx fs,bh Cs H x=some (.ins C dx fs)/\fs.lookup ("tells" : Str)=none/\
 w6 P w K mg base C [.ref x,.ref p] (bh Cs H) (λv H'=>cS Cs H'->Q v (dQ Cs H')) E0
section
variable {P:Program}{w:World}{K:PySem.W.Frag}{mg:Str->Option Value}{base:Heap}{t:qK}
theorem Pr(T:Txt K mg t){g c' x:Addr}{oc:Obj}{wL:Array Value}{tq:Tok}{qual:Str}{cl:List (Str×Addr)}{pm ctv:Value}(oP:oc.data=.fields wL)(hq:wL[1]?=some (.str qual tq))
  (px:∀x c,cl.lookup x=some c->x∈(["sounding"]:List Str)) (inj:∀x y c,cl.lookup x=some c->cl.lookup y=some c->x=y) :
  lY P w K mg base 12 g (Vq P w K mg base t.az g c' (PySem.W.kla_obj "<lambda>" qual (Fg aJ) (Ff aJ) (zN aJ) cl pm c' ctv) oc cl x):=by
 have fS:=uD (P:=P) (w:=w) (base:=base) T
 refine Pp (k:=11) (fo:=PySem.W.kla_obj "<lambda>" qual (Fg aJ) (Ff aJ) (zN aJ) cl pm c' ctv) (oc:=oc) (name:="<lambda>") (qual:=qual) (params:=Fg aJ) (body:=Ff aJ) (scope:=zN aJ) (cl:=cl) (pm:=pm) (ctv:=ctv) (ps:=["part"]) (fr:=["sounding"]) rfl oP hq rfl rfl rfl (by decide +kernel) (by decide +kernel) (by decide +kernel) (by decide +kernel) (λx hx=>?_) px inj (λus hu=>?_) λvs H Q E h=>?_
 ·have:L2.freeOf (zN aJ)=(["sounding"]:List Str):=by decide +kernel
  rw[<-this]
  exact List.mem_map.mpr ⟨(x,.free),List.mem_filter.mpr ⟨PySem.mem_of_lookup hx,rfl⟩,rfl⟩
 ·match us,hu with
  | [_],_=>rfl
 obtain⟨p,rfl,hf,ja,C,pin,KC,dx,fs,hx,Ls,q⟩:=h
 refine⟨C,[.ref x],rfl,hf,ja,pin,rfl,KC,λA outer s hr hc=>?_⟩
 refine⟨_,(qL (ao hc 1) T.aM T.g9 fS (hr.mono (by omega)) T.iW .nil aR (ae (ao hc 0) ah)),?_⟩
 repeat (walk_at "rl")
 exact⟨_,_,hx,Ls,q⟩
theorem PJ(T:Txt K mg t){g c' x f l d:Addr}{oc:Obj}{wL:Array Value}{tq:Tok}{qual:Str}{cl:List (Str×Addr)}{pm ctv:Value}(oP:oc.data=.fields wL)(hq:wL[1]?=some (.str qual tq))
  (px:∀x c,cl.lookup x=some c->x∈(["sounding"]:List Str)) (inj:∀x y c,cl.lookup x=some c->cl.lookup y=some c->x=y)
  {Cs:List (Addr×Obj)} (KC:CellsOk Cs cl ["sounding"] [.ref x]) {ι:Type} {Z own:Addr->Prop} {D:ι->Hp->Prop} {nx:ι->List Int->ι} {lim:ι->Prop} {dom:List Int->Prop} {tells:List Int->Bool} (ask:P6 P w K mg base 8 f Z own D nx lim dom tells)
  {i0:ι} (yf:∀ts:List (List Int),ts.length<=100->lim (ts.foldl nx i0)) {ps:List (List Int)} (mono:kO ps tells) (lps:ps.length<=100) (mV:∀s∈ps,dom s) (sJ:¬own x) (Sl:¬own l) (Sq:¬own d) (nog:¬own g) (Sr:¬own c') (Y2:∀b o,Cs.lookup b=some o->¬own b) :
  Lf P w K mg base 12 g (λb=>Z b\/b=x\/b=l\/b=d) (λas H=>H g=some (cV (PySem.W.kla_obj "<lambda>" qual (Fg aJ) (Ff aJ) (zN aJ) cl pm c' ctv))/\H c'=some (cV oc)/\cU Cs H/\il own H t.az x f l d ps tells as/\D (as.foldl nx i0) H) (oO tells) (λ_=>True) (λS=>S∈ps) tells:=by
 refine⟨⟨_,Pr T (x:=x) (g:=g) (c':=c') (pm:=pm) (ctv:=ctv) oP hq px inj,λas H p S Q hD _ hp hS q=>?_⟩,λas H hD=>⟨_,_,hD.1,rfl⟩,λas H H' hD s=>?_,λas H b xs hD hz e=>?_⟩
 ·obtain⟨h1,h2,h3,h4,h5⟩:=hD
  have out:∀{b:Addr} {o:HO},H b=some o->(∀o',o≠cV o')->bh Cs H b=some o:=λe n=>by rw[aQ (h3.out e n)];exact e
  have h4':il own (bh Cs H) t.az x f l d ps tells as:=h4.keep λb o n _ e=>out e n
  have h5':D (as.foldl nx i0) (bh Cs H):=ask.os _ _ _ h5 λb o h e=>by
   rcases h with h | ⟨xs,rfl⟩
   ·cases z:Cs.lookup b with
    | none=>rw[aQ z];exact e
    | some o'=>exact absurd h (Y2 b o' z)
   ·exact out e (by intro o z;cases z)
  have aCt:=h4'
  obtain⟨dx,u,_,_,_,hx,hl,_,hd,_⟩:=aCt
  have nz:∀{b:Addr},¬own b->¬Z b:=λh z=>h (ask.zo _ z)
  refine⟨p,rfl,h1,h2,Cs,h3,KC,dx,_,hx,rfl,x,p,rfl,ι,Z,own,D,nx,lim,dom,tells,i0,f,l,d,ps,as,S,ask,h5',yf,mono,h4',out hp (by intro o z;cases z),hS,lps,mV,sJ,Sl,Sq,λH' s' d' k' po=>?_⟩
  have keep:∀b o,¬Z b->b≠x->b≠l->b≠d->H b=some o->dQ Cs H' b=some o:=λb o n1 n2 n3 n4 e=>by
   cases z:Cs.lookup b with
   | some o'=>rw[ik z,<-h3 b o' z];exact e
   | none=>rw[bI z];exact k' b o n1 n2 n3 n4 (by rw[aQ z];exact e)
  have ne:∀{b:Addr} {o':Obj},H b=some (cV o')->b≠x/\b≠l/\b≠d:=λ{b o'} e=>by
   have Se:∀{a:Addr} {o:HO},bh Cs H a=some o->H a=some o:=λ{a o} e=>by
    cases z:Cs.lookup a with
    | none=>rw[aQ z]at e;exact e
    | some o'=>rw[iS z]at e;cases e
   exact⟨aW e (Se hx) (by intro z;cases z),aW e (Se hl) (by intro z;cases z),aW e (Se hd) (by intro z;cases z)⟩
  refine q _ ⟨keep _ _ (nz nog) (ne h1).1 (ne h1).2.1 (ne h1).2.2 h1,keep _ _ (nz Sr) (ne h2).1 (ne h2).2.1 (ne h2).2.2 h2,cS.added,?_,?_⟩ λb o n e=>keep b o (λz=>n (.inl z)) (λz=>n (.inr (.inl z))) (λz=>n (.inr (.inr (.inl z)))) (λz=>n (.inr (.inr (.inr z)))) e
  ·exact s'.keep λb o _ _ e=>by rw[bI (po.out e)];exact e
  ·exact ask.g.st _ _ _ d' λb o e=>by rw[bI (po.out e)];exact e
 ·obtain⟨h1,h2,h3,h4,h5⟩:=hD
  exact⟨s _ _ h1,s _ _ h2,λb o e=>s _ _ (h3 b o e),h4.keep λb o _ _ e=>s _ _ e,ask.g.st _ _ _ h5 s⟩
 ·obtain⟨h1,h2,h3,h4,h5⟩:=hD
  obtain⟨dx,u,_,_,_,hx,hl,_,hd,_⟩:=h4
  rcases hz with z | rfl | rfl | rfl
  ·exact ask.g.nt _ H b xs h5 z e
  ·rw[hx]at e;cases e
  ·rw[hl]at e;cases e
  ·rw[hd]at e;cases e
end
local macro_rules | `(tactic| walk_at "rd") => `(tactic| walk_at "rc")
local macro_rules | `(tactic| walk_at "rl") => `(tactic| first | (refine dA fun R hR => ?_) | walk_at "ry" | (refine Nx.to (by assumption) _ _ ?_))
theorem iw{x t:List Int}(h:t∈cD x):t.Sublist x:=by
 have:∀(x:List Int) (y:List Int) (ps:List (List Int)),(∀p∈ps,p.Sublist y)->∀t∈x.foldl g6 ps,t.Sublist (y++x):=λx=>by
  induction x with
  | nil=>intro y ps h t ht;rw[List.append_nil];exact h t ht
  | cons k x ih=>
   intro y ps h t ht
   rw[List.foldl_cons]at ht
   have st:∀p∈g6 ps k,p.Sublist (y++[k]):=λp hp=>by
    unfold g6 at hp
    rcases List.mem_append.mp hp with hp | hp
    ·exact(h p hp).trans (List.sublist_append_left _ _)
    ·obtain⟨c,hc,rfl⟩:=List.mem_map.mp hp
     exact(h c hc).append (List.Sublist.refl _)
   have:=ih (y++[k]) _ st t ht
   rwa [List.append_assoc]at this
 exact this x [] [[]] (by simp) t h
theorem ud{x t:List Int}:t∈cD x↔t.Sublist x:=by
 refine⟨iw,λh=>?_⟩
 have:∀(x:List Int) (ps:List (List Int)) (p s:List Int),p∈ps->s.Sublist x->p++s∈x.foldl g6 ps:=λx=>by
  induction x with
  | nil=>intro ps p s hp hs;rw[List.sublist_nil.mp hs,List.append_nil];exact hp
  | cons k x ih=>
   intro ps p s hp hs
   rw[List.foldl_cons]
   cases hs with
   | cons _ h1=>exact ih _ p s (List.mem_append_left _ hp) h1
   | cons_cons _ h1=>
    rename_i s'
    have:=ih (g6 ps k) (p++[k]) s' (List.mem_append_right _ (List.mem_map.mpr ⟨p,hp,rfl⟩)) h1
    rwa [List.append_assoc]at this
 exact this x [[]] [] t (by simp) h
def turn(W:List Int)(tells:List Int->Bool)(as:List (List Int))(S:List Int):List (List Int):=
 if tells S=true then (jF tells (oO tells) W (cO W S) (S,oO tells (oO tells as S) S)).2 else oO tells as S
inductive yB (ps:List (List Int)) (W:List Int) (tells:List Int->Bool):List (List Int)->Prop
 | nil:yB ps W tells []
 | step {as:List (List Int)} {S:List Int} {r:List (List Int)}:yB ps W tells as->(ps.filter λT=>!det tells as T)=S::r->yB ps W tells (turn W tells as S)
theorem vK{tells:List Int->Bool}{as:List (List Int)}{S a:List Int}(h:a∈as):a∈oO tells as S:=by
 unfold oO
 by_cases c:det tells as S=true
 ·rw[if_pos c];exact h
 ·rw[if_neg c];exact List.mem_append_left _ h
theorem Pm(tells:List Int->Bool)(as:List (List Int))(S:List Int):det tells (oO tells as S) S=true:=by
 unfold oO
 by_cases c:det tells as S=true
 ·rw[if_pos c];exact c
 ·rw[if_neg c];exact oA (by simp)
theorem yo{tells:List Int->Bool}{as as':List (List Int)}(h:∀a∈as,a∈as'){T:List Int}(hd:det tells as T=true):det tells as' T=true:=by
 obtain⟨a,ha,e⟩:=List.any_eq_true.mp hd
 exact List.any_eq_true.mpr ⟨a,h a ha,e⟩
theorem rM(tells:List Int->Bool)(W:List Int){a:List Int}:∀(ms:List Int) (c:List Int×List (List Int)),a∈c.2->a∈(jF tells (oO tells) W ms c).2
 | [],c,h=>h
 | m::ms,c,h=>by
  unfold jF
  rw[List.foldl_cons]
  exact rM tells W ms _ (vK h)
theorem t6{W:List Int}{tells:List Int->Bool}{as:List (List Int)}{S a:List Int}(h:a∈oO tells as S):a∈turn W tells as S:=by
 unfold turn
 by_cases c:tells S=true
 ·rw[if_pos c];exact rM tells W _ _ (vK h)
 ·rw[if_neg c];exact h
theorem DT{ps:List (List Int)}{W:List Int}{tells:List Int->Bool}{as:List (List Int)}{S:List Int}{r:List (List Int)}(h:(ps.filter λT=>!det tells as T)=S::r):(ps.filter λT=>!det tells (turn W tells as S) T).length<(ps.filter λT=>!det tells as T).length:=by
 have e:(ps.filter λT=>!det tells (turn W tells as S) T)=(ps.filter λT=>!det tells as T).filter λT=>!det tells (turn W tells as S) T:=by
  rw[List.filter_filter]
  refine List.filter_congr λT _=>?_
  cases d:det tells as T with
  | false=>simp
  | true=>rw[yo (λa ha=>t6 (vK ha)) d];rfl
 rw[e,h,List.filter_cons,if_neg (by rw[yo (λa ha=>t6 ha) (Pm tells as S)];decide)]
 exact Nat.lt_succ_of_le (List.length_filter_le _ _)
def Dt(own:Addr->Prop)(H:Hp)(pT:Addr)(qual:Str):Prop:=∃tb,H pT=some (.mK tb)/\TriplesOk tb.toList/\(codeAmong (Fe aJ) tb.toList=none\/∃c' oc vs tq,codeAmong (Fe aJ) tb.toList=some (.ref c')/\H c'=some (cV oc)/\oc.data=.fields vs/\vs[1]?=some (.str qual tq)/\¬own c')
def Eb(P:Program)(w:World)(K:PySem.W.Frag)(mg:Str->Option Value)(base:Heap)(pT:Addr):Sp:=λvs H Q _=>∃U f,vs=[.ref U,.ref f]/\∃(ι:Type) (Z own:Addr->Prop) (D:ι->Hp->Prop) (nx:ι->List Int->ι) (lim:ι->Prop) (dom:List Int->Prop) (tells:List Int->Bool) (i0:ι) (W:List Int) (tb:Array Value),
 P6 P w K mg base 8 f Z own D nx lim dom tells/\D i0 H/\(∀ts:List (List Int),ts.length<=100->lim (ts.foldl nx i0))/\H U=some (.tup (List.map V.int W))/\dF W/\W.length<=6/\(∀T,T.Sublist W->dom T)/\kO (cD W) tells/\H pT=some (.mK tb)/\TriplesOk tb.toList/\codeAmong (Fe aJ) tb.toList=none/\¬own pT/\
 ∀r H' c p l cs qs bs clashes df as ps,H' r=some (.tup [V.ref c,V.ref p,V.ref l])->H' c=some (.lst (List.map V.ref cs))->aF H' cs clashes->H' p=some (.lst (List.map V.ref qs))->aF H' qs df->H' l=some (.lst (List.map V.ref bs))->aF H' bs as->
  D (as.foldl nx i0) H'->(∀b o,¬Z b->b≠pT->H b=some o->H' b=some o)->(∀x,x∈clashes↔x∈as.filter (λa=>!tells a)/\∀y∈as.filter (λa=>!tells a),aA y x=true->y=x)->(∀x,x∈df↔x∈as.filter tells/\∀y∈as.filter tells,aA x y=true->y=x)->
  clashes.Pairwise (λa b=>bU a b=true)->df.Pairwise (λa b=>bU a b=true)->ps.Pairwise (λa b=>bU a b=true)->(∀T,T∈ps↔T∈cD W)->yB ps W tells as->(∀T∈ps,det tells as T=true)->as.Nodup->(∀a∈as,a∈ps)->Q (.ref r) H'
section
variable {P:Program}{w:World}{K:PySem.W.Frag}{mg:Str->Option Value}{base:Heap}{t:qK}
theorem zj(T:Txt K mg t){c pT:Addr}(ib:t.iT.code=.ref c)(hC:PySem.W.CodeHd base c pT)(hB:BMain mg base):bG P w K mg base eI 16 t.dz t.iT ["whole","ask"] (Eb P w K mg base pT):=by
 have Ax:=Jm (P:=P) (w:=w) (base:=base) T
 have lI:=Jv (P:=P) (w:=w) (base:=base) T
 have fS:=uD (P:=P) (w:=w) (base:=base) T
 have P5:=Jt (P:=P) (w:=w) (base:=base) T
 have Az:=Jp (P:=P) (w:=w) (base:=base) T
 have tR:=xB (P:=P) (w:=w) (base:=base) T
 refine T.u6.Wh gJ (λvs H Q E h=>?_) (λcB A outer s H vs Q E hcv hr h hc hf=>?_)
 ·obtain⟨a,f,rfl,_⟩:=h;rfl
 have tK:=hcv.symm.trans ib
 obtain⟨U,f,rfl,ι,Z,own,D,nx,lim,dom,tells,i0,W,tb,ask,hD,yf,hU,rise,lW,mV,mono,Qq,Wy,hnone,Sj,q⟩:=h
 have hu:=kl hr
 have Lk:=hr.fk
 refine⟨_,(by apply aq;exact(aI hc gJ.nd hf 2 (by decide +kernel) (GF T.xI lI (hr.mono (by omega)) (bZ hc) T.zH T.lF .nil aR (ae (ao hc 1) (ae (aB Ax (hr.mono (by omega)) (bZ hc) T.zE T.sE.kp T.Al .nil aR (ae (ao hc 0) ah)) ah))));apply aq;exact(tT PassesOwn.never (bA Jj (aP lu (bZ hc) T.z_len kE (ae (eJ (ao hc 2) rfl) ah)) aj (cF _)) (by apply aq;exact(aI hc gJ.nd hf 3 (by decide +kernel) (bq gx (eJ (ao hc 2) rfl) aj (λ_ _=>rfl)));exact ay (bX (bQ (qL (ao hc 2) T.aM T.g9 fS (hr.mono (by omega)) T.iW .nil aR (ae (ao hc 3) ah))) (by exact ay (dm (tX (xs:=[(2,"sounding")]) (cells:=cellsFrom (s.heap.objs.size+1) (ag bB).names []) (EH:=λ_=>E0) rfl P5 (hr.mono (by omega)) (bZ hc) T.Oe T.Dw.kp T.Py JK hf (JX hc (by decide +kernel)) (ae (ao hc 0) (ae (GD (fr:=["sounding"]) hc tK hC hB rfl (by decide +kernel) (by decide +kernel) rfl) (ae (ao hc 3) ah)))))) bt)));apply aq;exact(oQ hc gJ.nd 4 (by decide +kernel) ["part"] [2] rfl (by decide +kernel) (cp (eJ (ao hc 2) rfl)) (λ_ hc=>jX hc (by decide +kernel) 0 (by decide +kernel)) (λ_ hc=>iI (dU (bQ (nF hu (eJ (ao hc 1) rfl) (ao hc 0) (λ_ _=>rfl))))) (λ_ hc=>(ao hc 0)) (by rfl));apply aq;exact(oQ hc gJ.nd 5 (by decide +kernel) ["part"] [2] rfl (by decide +kernel) (cp (eJ (ao hc 2) rfl)) (λ_ hc=>jX hc (by decide +kernel) 0 (by decide +kernel)) (λ_ hc=>iI (bQ (nF hu (eJ (ao hc 1) rfl) (ao hc 0) (λ_ _=>rfl)))) (λ_ hc=>(ao hc 0)) (by rfl));exact ay (aL (fT (ae (aB Az (hr.mono (by omega)) (bZ hc) T.zG T.sF.kp T.Ao .nil aR (ae (ao hc 4) ah)) (ae (aB tR (hr.mono (by omega)) (bZ hc) T.tf T.lV.kp T.tN .nil aR (ae (ao hc 5) ah)) (ae (eJ (ao hc 2) rfl) ah)))))),?_⟩
 repeat (walk_at "rl")
 refine⟨U,rfl,W,hU,by omega,λu H1 us ps s1 UG Uz sus nd J1 pw=>?_⟩
 have lps:ps.length<=64:=by
  have h1:=du nd λt ht=>(J1 t).mp ht
  rw[gB]at h1
  have h2:2 ^ W.length<=2 ^ 6:=Nat.pow_le_pow_right (by decide) lW
  omega
 refine λx dx hx zZ qH=>⟨x,f,u,dx,rfl,ai,λl d H2 hl hd Gp Cq hd2 k2=>⟨rfl,?_⟩⟩
 have OD:l≠x:=λe=>by rw[e,ai]at hl;cases hl
 have aCk:d≠x:=λe=>by rw[e,ai]at hd;cases hd
 rw[au OD]at hl
 rw[au aCk]at hd
 have tI:H1 l=none:=by
  by_cases e:l=dx
  ·rw[e];exact zZ
  ·rw[au e]at hl;exact hl
 have Kb:H1 d=none:=by
  by_cases e:d=dx
  ·rw[e];exact zZ
  ·rw[au e]at hd;exact hd
 have s2:bD H1 H2:=λb o e=>k2 b o (av e hx) (by rw[au (av e hx),au (av e zZ)];exact e)
 have s02:=s1.trans s2
 have wG:=ask.g.st _ _ _ hD s1
 have Ex:∀{b:Addr},H1 b=none->¬own b:=λe z=>ask.od _ _ _ wG z e
 have nou:¬own u:=λz=>ask.od _ _ _ hD z UG
 have sJ:=Ex hx
 have Sl:=Ex tI
 have Sq:=Ex Kb
 have xH:kO ps tells:=λS hS T' Xj=>mono S ((J1 S).mp hS) T' ((J1 T').mp Xj)
 have zW:∀{S:List Int},S∈ps↔S.Sublist W:=λ{S}=>by rw[J1];exact ud
 have Qw:∀s∈ps,dom s:=λs hs=>mV s (zW.mp hs)
 have Rp:il own H2 t.az x f l d ps tells []:=by
  refine⟨dx,u,[],us,[],Gp,Cq,⟨rfl,λi b t e=>by simp at e⟩,hd2,λS _=>rfl,s2 _ _ Uz,?_,?_,av Uz tI,nou,List.nodup_nil,λs hs=>(nomatch hs)⟩
  ·have:(ps.filter λT=>!det tells [] T)=ps:=List.filter_eq_self.mpr λT _=>rfl
   rw[this];exact sus.mono λb xs e=>s2 _ _ e
  ·exact Nat.le_trans (by simpa using List.length_filter_le _ _) (Nat.le_refl _)
 clear k2
 repeat (walk_at "rl")
 refine⟨λm σ' H'=>∃z as,σ'=[some (.ref U),some (.ref f),some (.ref x),z,none,none]/\m=(ps.filter λT=>!det tells as T).length/\il own H' t.az x f l d ps tells as/\D (as.foldl nx i0) H'/\yB ps W tells as/\(∀b o,¬Z b->b≠pT->H b=some o->H' b=some o)/\Dt own H' pT ((eZ eI P w K mg base dJ (Str.ofString "sounded") (ag bB) t.dz cB A outer s H E).env.qual++Str.ofString "<lambda>"),⟨_,none,[],rfl,rfl,Rp,ask.g.st _ _ _ hD s02,.nil,λb o _ _ e=>s02 _ _ e,tb,s02 _ _ Qq,Wy,.inl hnone⟩,?_⟩
 rintro m σ' H3 ⟨z,as,rfl,rfl,snd,Fw,tu,k3,tab⟩
 have aAf:=snd
 obtain⟨QR,u3,Yg,Us,Wq,JZ,Cp,MN,U0,W2,Wx,Ea,lk3,aDE,aDA,nd3,Hf⟩:=aAf
 repeat (walk_at "rl")
 refine⟨t.az,QR,_,JZ,T.aM,T.cu,.ref u3,rfl,u3,rfl,_,Wx,?_⟩
 have lus:(List.map V.ref Us).length=(ps.filter λT=>!det tells as T).length:=by rw[List.length_map,Ea.1]
 by_cases e0:0<((List.map V.ref Us).length:Int)
 ·rw[if_pos e0]
  obtain⟨S,r,ZR⟩:∃S r,(ps.filter λT=>!det tells as T)=S::r:=by
   cases e:(ps.filter λT=>!det tells as T) with
   | nil=>rw[lus,e]at e0;exact absurd e0 (by decide)
   | cons S r=>exact⟨S,r,rfl⟩
  refine⟨λσ' H'=>∃z,σ'=[some (.ref U),some (.ref f),some (.ref x),z,none,none]/\il own H' t.az x f l d ps tells (turn W tells as S)/\D ((turn W tells as S).foldl nx i0) H'/\(∀b o,¬Z b->b≠pT->H b=some o->H' b=some o)/\Dt own H' pT ((eZ eI P w K mg base dJ (Str.ofString "sounded") (ag bB) t.dz cB A outer s H E).env.qual++Str.ofString "<lambda>"),?_,?_⟩
  ·rintro σ' H' ⟨z,rfl,h1,h2,h3,h4⟩
   exact⟨_,DT ZR,z,rfl,_,rfl,h1,h2,.step tu ZR,h3,h4⟩
  have Xk:S∈ps.filter λT=>!det tells as T:=by rw[ZR];exact List.mem_cons_self
  have hS:S∈ps:=(List.mem_filter.mp Xk).1
  have hSd:det tells as S=false:=by have:=(List.mem_filter.mp Xk).2;simpa using this
  have sS:=zW.mp hS
  obtain⟨p0,Yy,rfl⟩:∃p0 Yy,Us=p0::Yy:=by
   cases Us with
   | nil=>exact absurd e0 (by decide)
   | cons p0 Yy=>exact⟨p0,Yy,rfl⟩
  have yI:H3 p0=some (.tup (List.map V.int S)):=by
   rw[ZR]at Ea
   exact Ea.2 0 p0 S rfl rfl
  repeat (walk_at "rl")
  refine⟨t.az,QR,_,JZ,T.aM,T.cu,.ref u3,rfl,u3,rfl,_,Wx,.ref p0,(by rw[List.map_cons,yA]),?_⟩
  repeat (walk_at "rl")
  refine⟨QR,_,JZ,rfl,x,p0,rfl,ι,Z,own,D,nx,lim,dom,tells,i0,f,l,d,ps,as,S,ask,Fw,yf,xH,snd,yI,hS,by omega,Qw,sJ,Sl,Sq,λH4 Vt uN k4=>⟨_,rfl,?_⟩⟩
  have nz:∀{b:Addr},¬own b->¬Z b:=λh z=>h (ask.zo _ z)
  have old:∀{b:Addr} {o:HO},H b=some o->b≠x/\b≠l/\b≠d:=λe=>⟨av (s1 _ _ e) hx,av (s1 _ _ e) tI,av (s1 _ _ e) Kb⟩
  have k34:∀b o,¬Z b->b≠pT->H b=some o->H4 b=some o:=λb o n1 n2 e=>k4 b o n1 (old e).1 (old e).2.1 (old e).2.2 (k3 b o n1 n2 e)
  have hUT:U≠pT:=aW hU Qq (by intro z;cases z)
  have hU4:H4 U=some (.tup (List.map V.int W)):=k34 U _ (λz=>ask.g.nt _ H U _ hD z hU) hUT hU
  have J2:H4 p0=some (.tup (List.map V.int S)):=k4 p0 _ (λz=>ask.g.nt _ H3 p0 _ Fw z yI) (aW yI JZ (by intro z;cases z)) (aW yI Cp (by intro z;cases z)) (aW yI U0 (by intro z;cases z)) yI
  have Rc:Dt own H4 pT ((eZ eI P w K mg base dJ (Str.ofString "sounded") (ag bB) t.dz cB A outer s H E).env.qual++Str.ofString "<lambda>"):=by
   obtain⟨tb',h1,h2,h3⟩:=tab
   refine⟨tb',k4 _ _ (nz Sj) (old Qq).1 (old Qq).2.1 (old Qq).2.2 h1,h2,h3.imp id ?_⟩
   rintro⟨c',oc,vs,tq,a1,a2,a3,a4,a5⟩
   exact⟨c',oc,vs,tq,a1,k4 _ _ (nz a5) (aW a2 JZ (by intro z;cases z)) (aW a2 Cp (by intro z;cases z)) (aW a2 U0 (by intro z;cases z)) a2,a3,a4,a5⟩
  cases eS:tells S with
  | false=>
   rw[if_neg (by decide)]
   have et:turn W tells as S=oO tells as S:=if_neg (by rw[eS];decide)
   exact⟨by rw[et];exact Vt,by rw[et];exact uN,k34,Rc⟩
  | true=>
  rw[if_pos rfl]
  have use:∀(H5:Hp) (g c':Addr) (cl:List (Str×Addr)) (oc:Obj) (vs:Array Value) (tq:Tok) (pm ctv:Value),Dv (cellsFrom (s.heap.objs.size+1) (ag bB).names []) cl [Str.ofString "sounding"]->H5 g=some (cV (PySem.W.kla_obj "<lambda>" ((eZ eI P w K mg base dJ (Str.ofString "sounded") (ag bB) t.dz cB A outer s H E).env.qual++Str.ofString "<lambda>") (Fg aJ) (Ff aJ) (zN aJ) cl pm c' ctv))->H5 c'=some (cV oc)->oc.data=.fields vs->vs[1]?=some (.str ((eZ eI P w K mg base dJ (Str.ofString "sounded") (ag bB) t.dz cB A outer s H E).env.qual++Str.ofString "<lambda>") tq)->¬own g->¬own c'->(∀b o,b≠pT->H4 b=some o->H5 b=some o)->(∃tb,H5 pT=some (.mK tb)/\TriplesOk tb.toList/\codeAmong (Fe aJ) tb.toList=some (.ref c'))->
    ∀(C:List (Addr×Obj)),CellsAre (cellsFrom (s.heap.objs.size+1) (ag bB).names []) [some (V.ref U),some (V.ref f),some (V.ref x),some (V.ref p0),none,none] [(2,Str.ofString "sounding")] C->cS C H5->∀(Q':VK) (E':XK),(∀v H',il own (bh C H') t.az x f l d ps tells (turn W tells as S)/\D ((turn W tells as S).foldl nx i0) (bh C H')/\(∀b o,¬Z b->b≠pT->H b=some o->bh C H' b=some o)/\Dt own (bh C H') pT ((eZ eI P w K mg base dJ (Str.ofString "sounded") (ag bB) t.dz cB A outer s H E).env.qual++Str.ofString "<lambda>")->Q' v H')->Bk P w K mg base t.aS [.ref U,.ref g,.ref p0] (dQ C H5) Q' E':=λH5 g c' cl oc vs tq pm ctv la hg ja oP J0 nog Sr k5 aB4 C ca po Q' E' q'=>by
   obtain⟨Ve,Ou,_,_⟩:=Rc
   have kt5:∀{b:Addr} {xs:List V},H4 b=some (.tup xs)->H5 b=some (.tup xs):=λe=>k5 _ _ (aW e Ou (by intro z;cases z)) e
   have Vs:il own H5 t.az x f l d ps tells (oO tells as S):=Vt.keep λb o _ n e=>k5 b o (aW e Ou (n Ve)) e
   have Kj:D ((oO tells as S).foldl nx i0) H5:=ask.os _ _ _ uN λb o h e=>k5 b o (h.elim (λh z=>Sj (z ▸ h)) λ⟨xs,ho⟩=>aW e Ou (by rw[ho];intro z;cases z)) e
   have Y2:∀b o,C.lookup b=some o->¬own b:=λb o e z=>ask.od _ _ _ Kj z (po b o e)
   have KC:CellsOk C cl ["sounding"] [.ref x]:=λi y hy=>by
    match i,hy with
    | 0,hy=>
     cases hy
     obtain⟨c0,l1,l2⟩:=la.1 _ (List.mem_singleton.mpr rfl)
     obtain⟨c1,o,u,v,a1,a2,a3,a4,a5⟩:=ca _ (List.mem_singleton.mpr rfl)
     have a1':List.lookup (Str.ofString "sounding") (cellsFrom (s.heap.objs.size+1) (ag bB).names [])=some c1:=a1
     rw[a1']at l1
     cases l1
     cases a4
     exact⟨c0,o,u,_,l2,a2,a3,rfl,a5⟩
   have ak:=PJ (P:=P) (w:=w) (base:=base) T (g:=g) (c':=c') (x:=x) (f:=f) (l:=l) (d:=d) (pm:=pm) (ctv:=ctv) oP J0 la.2.1 la.2.2 KC ask yf xH (by omega) Qw sJ Sl Sq nog Sr Y2
   have sC:bD H5 (dQ C H5):=u0 po
   have hD':(dQ C H5) g=some (cV (PySem.W.kla_obj "<lambda>" ((eZ eI P w K mg base dJ (Str.ofString "sounded") (ag bB) t.dz cB A outer s H E).env.qual++Str.ofString "<lambda>") (Fg aJ) (Ff aJ) (zN aJ) cl pm c' ctv))/\(dQ C H5) c'=some (cV oc)/\cU C (dQ C H5)/\il own (dQ C H5) t.az x f l d ps tells (oO tells as S)/\D ((oO tells as S).foldl nx i0) (dQ C H5):=⟨sC _ _ hg,sC _ _ ja,cS.added,Vs.keep λb o _ _ e=>sC _ _ e,ask.g.st _ _ _ Kj sC⟩
   refine⟨U,g,p0,rfl,_,_,_,_,_,tells,oO tells as S,W,S,ak,hD',sC _ _ (kt5 hU4),sC _ _ (kt5 J2),rise,sS,by omega,λT hT=>zW.mpr hT,eS,λr H6 Lz k6 _=>q' _ _ ?_⟩
   obtain⟨g1,g2,g3,g4,g5⟩:=Lz
   have et:turn W tells as S=(jF tells (oO tells) W (cO W S) (S,oO tells (oO tells as S) S)).2:=if_pos eS
   have out:∀{b:Addr} {o:HO},H6 b=some o->(∀o',o≠cV o')->bh C H6 b=some o:=λe n=>by rw[aQ (g3.out e n)];exact e
   have keep:∀{b:Addr} {o:HO},¬Z b->b≠x->b≠l->b≠d->H5 b=some o->bh C H6 b=some o:=λ{b o} n1 n2 n3 n4 e=>by
    rw[aQ (po.out e)]
    exact k6 b o (λz=>z.elim n1 λz=>z.elim n2 λz=>z.elim n3 n4) (sC _ _ e)
   rw[et]
   refine⟨g4.keep λb o n _ e=>out e n,ask.os _ _ _ g5 λb o h e=>?_,λb o n1 n2 e=>keep n1 (old e).1 (old e).2.1 (old e).2.2 (k5 b o n2 (k34 b o n1 n2 e)),?_⟩
   ·rcases h with h | ⟨xs,rfl⟩
    ·cases z:C.lookup b with
     | none=>rw[aQ z];exact e
     | some o'=>exact absurd h (Y2 b o' z)
    ·exact out e (by intro o z;cases z)
   ·obtain⟨tb5,t1,t2,t3⟩:=aB4
    have Vr:=Vs
    obtain⟨dx5,u5,_,_,_,hx5,hl5,_,Xa,_⟩:=Vr
    exact⟨tb5,keep (nz Sj) (old Qq).1 (old Qq).2.1 (old Qq).2.2 t1,t2,.inr ⟨c',oc,vs,tq,t3,keep (nz Sr) (aW ja hx5 (by intro z;cases z)) (aW ja hl5 (by intro z;cases z)) (aW ja Xa (by intro z;cases z)) ja,oP,J0,Sr⟩⟩
  repeat (walk_at "rl")
  have vals:∀q∈[(2,Str.ofString "sounding")],∃v,([some (V.ref U),some (V.ref f),some (V.ref x),some (V.ref p0),none,none]:St)[q.1]?=some (some v):=λq hq=>by
   rw[List.mem_singleton.mp hq];exact⟨_,rfl⟩
  have Vi:=Rc
  obtain⟨Ve,Ou,YC,Xc⟩:=Vi
  refine⟨Ve,Ou,YC,?_⟩
  rcases Xc with hn | ⟨c',oc,vs,tq,Qp,ja,oP,J0,Sr⟩
  ·refine .inl ⟨hn,λcl g c' oc vs tq ctv la hg ja hgc oP J0=>⟨vals,λC ca po=>?_⟩⟩
   have hgT:g≠pT:=λz=>by rw[z,Ou]at hg;cases hg
   have hcT:c'≠pT:=λz=>by rw[z,Ou]at ja;cases ja
   refine use _ g c' cl oc vs tq _ ctv la ai ?_ oP J0 (λz=>ask.od _ _ _ uN z hg) (λz=>ask.od _ _ _ uN z ja) (λb o n e=>?_) ⟨Ve ++ #[rawInt (Fe aJ).line,rawInt (Fe aJ).col,.ref c'],?_,?_,?_⟩ C ca po _ _ λv H' h=>h
   ·rw[au hgc.symm,ai]
   ·rw[au (av e hg),au (av e ja),au n]
    exact e
   ·rw[au hgT.symm,au hcT.symm,ai]
    rfl
   ·rw[Array.toList_append]
    exact TriplesOk_snoc _ _ _ _ YC
   ·rw[Array.toList_append]
    exact codeAmong_snoc _ YC hn
  ·refine .inr ⟨c',Qp,λcl g ctv la hg=>⟨vals,λC ca po=>?_⟩⟩
   have hgT:g≠pT:=λz=>by rw[z,Ou]at hg;cases hg
   refine use _ g c' cl oc vs tq _ ctv la ai (by rw[au (av ja hg)];exact ja) oP J0 (λz=>ask.od _ _ _ uN z hg) Sr (λb o n e=>by rw[au (av e hg)];exact e) ⟨Ve,by rw[au hgT.symm];exact Ou,YC,Qp⟩ C ca po _ _ λv H' h=>h
 ·rw[if_neg e0]
  have un:(ps.filter λT=>!det tells as T)=[]:=by
   have:(ps.filter λT=>!det tells as T).length=0:=by rw[<-lus];omega
   exact List.eq_nil_of_length_eq_zero this
  have wx:∀T'∈ps,det tells as T'=true:=λT' Xj=>by
   have:=List.filter_eq_nil_iff.mp un T' Xj
   simpa using this
  have Oi:=QX nd3 Hf
  have lbs:=MN.1
  repeat (walk_at "rl")
  refine⟨t.az,QR,_,JZ,T.aM,T.cv,.ref l,rfl,l,rfl,⟨_,aV Cp⟩,?_⟩
  refine dk (zs:=List.map V.ref Yg) (λj=>if (as[j]?.any λa=>!tells a) then as[j]? else none) (λ_=>gp) gp.same gp.puts Cp (by rw[List.length_map];omega) (λDD c H4 j z' yes no hj s4 Ki Kh dv tH=>?_) (λD1 H4 vs s4 wG aCr rl=>?_)
  ·obtain⟨b,eb,rfl⟩:=dG hj
   have Fs:j<Yg.length:=(List.getElem?_eq_some_iff.mp eb).1
   have es:as[j]?=some (as[j]'(by omega)):=List.getElem?_eq_getElem _
   have hb:=s4 _ _ (MN.2 j b _ eb es)
   have ha:as[j]'(by omega)∈as:=List.getElem_mem _
   rw[es]at dv tH
   generalize as[j]'(by omega)=y at hb dv tH ha
   have ev:=W2 y (Hf y ha)
   rw[if_pos (oA ha)]at ev
   repeat (first | walk_at "rl" | simp only[ua])
   refine⟨t.az,QR,_,s4 _ _ JZ,T.aM,T.bM,.ref d,rfl,d,rfl,_,by rw[<-ev];exact oN.t (k:=y.map Sum.inl) (s4 _ _ U0) (by rw[kg];exact hb),_,rfl,?_⟩
   cases ey:tells y with
   | true=>exact tH (by simp[ey]) _ λ_ _ e=>e
   | false=>exact dv y (by simp[ey]) _ _ (λ_ _ e=>e) ⟨b,rfl,hb⟩
  obtain⟨cs,rfl,scs⟩:=qA rl
  rw[List.length_map,lbs,pB (l:=as) (p:=λa=>!tells a) λi hi=>by rw[List.getElem?_eq_getElem hi];rfl]at scs
  have hx4:=s4 _ _ JZ
  have Qs:=s4 _ _ Cp
  repeat (walk_at "rl")
  refine⟨t.az,QR,_,hx4,T.aM,T.cv,.ref l,rfl,l,rfl,⟨_,aV Qs⟩,?_⟩
  refine dk (zs:=List.map V.ref Yg) (λj=>if (as[j]?.any tells) then as[j]? else none) (λ_=>gp) gp.same gp.puts Qs (by rw[List.length_map];omega) (λDD c H5 j z' yes no hj s5 Ki Kh dv tH=>?_) (λD2 H5 vs s5 v5 aCq rl2=>?_)
  ·obtain⟨b,eb,rfl⟩:=dG hj
   have Fs:j<Yg.length:=(List.getElem?_eq_some_iff.mp eb).1
   have es:as[j]?=some (as[j]'(by omega)):=List.getElem?_eq_getElem _
   have hb:=s5 _ _ (s4 _ _ (MN.2 j b _ eb es))
   have ha:as[j]'(by omega)∈as:=List.getElem_mem _
   rw[es]at dv tH
   generalize as[j]'(by omega)=y at hb dv tH ha
   have ev:=W2 y (Hf y ha)
   rw[if_pos (oA ha)]at ev
   repeat (first | walk_at "rl" | simp only[ua])
   refine⟨t.az,QR,_,s5 _ _ hx4,T.aM,T.bM,.ref d,rfl,d,rfl,_,by rw[<-ev];exact oN.t (k:=y.map Sum.inl) (s5 _ _ (s4 _ _ U0)) (by rw[kg];exact hb),_,rfl,?_⟩
   cases ey:tells y with
   | false=>exact tH (by simp[ey]) _ λ_ _ e=>e
   | true=>exact dv y (by simp[ey]) _ _ (λ_ _ e=>e) ⟨b,rfl,hb⟩
  obtain⟨qs,rfl,sqs⟩:=qA rl2
  rw[List.length_map,lbs,pB (l:=as) (p:=tells) λi hi=>by rw[List.getElem?_eq_getElem hi];rfl]at sqs
  have Hy:∀a∈as,dF a:=λa ha=>rise.sublist (zW.mp (Hf a ha))
  have lf1:=List.length_filter_le (λa=>!tells a) as
  have lf2:=List.length_filter_le tells as
  have lc1:=scs.1
  have lq1:=sqs.1
  repeat (walk_at "rl")
  refine⟨D1,rfl,cs,_,s5 _ _ aCr,scs.mono λb xs e=>s5 _ _ e,by omega,λa ha=>Hy a (List.mem_filter.mp ha).1,λR1 H6 cs6 clashes s6 QG aCp Rr aBC pw6=>?_⟩
  refine⟨D2,rfl,qs,_,s6 _ _ aCq,sqs.mono λb xs e=>s6 _ _ e,by omega,λa ha=>Hy a (List.mem_filter.mp ha).1,λR2 H7 cs7 df s7 hR2 aCo sc7 aBB pw7=>?_⟩
  have s57:=s6.trans s7
  have s37:=(s4.trans s5).trans s57
  refine⟨t.az,QR,_,s37 _ _ JZ,T.aM,T.cv,.ref l,rfl,by decide,λr hr7=>?_⟩
  have s8:=aE hr7 (.tup [V.ref R1,V.ref R2,V.ref l])
  have YL:=s37.trans s8
  exact q r _ R1 R2 l cs6 cs7 Yg clashes df as ps ai (s8 _ _ (s7 _ _ aCp)) (Rr.mono λb xs e=>s8 _ _ (s7 _ _ e)) (s8 _ _ aCo) (sc7.mono λb xs e=>s8 _ _ e) (YL _ _ Cp) (MN.mono λb xs e=>YL _ _ e) (ask.g.st _ _ _ Fw YL) (λb o n1 n2 e=>YL _ _ (k3 b o n1 n2 e)) aBC aBB pw6 pw7 pw J1 tu wx nd3 Hf
end
local macro_rules | `(tactic| walk_at "rd") => `(tactic| walk_at "rc")
local macro_rules | `(tactic| walk_at "rl") => `(tactic| first | (refine dA fun R hR => ?_) | walk_at "ry" | (refine Nx.to (by assumption) _ _ ?_))
def RPr(H:Hp)(v:V)(t:List Int):Prop:=∃p a,v=.ref p/\H p=some (.tup [.int (t.length:Nat),.ref a])/\H a=some (.tup (List.map V.int t))
theorem RW{H:Hp}{vs:List V}{ts:List (List Int)}(h:jS RPr H vs ts):∃ps,vs=List.map V.ref ps/\jA H ps ts:=by
 have e:vs=List.map V.ref (vs.map λv=>match v with | .ref p=>p | _=>0):=by
  rw[List.map_map]
  refine(List.ext_getElem (by simp) λi h1 h2=>?_)
  rw[List.getElem_map]
  obtain⟨p,a,e,_⟩:=h.2 i vs[i] (ts[i]'(by have:=h.1;omega)) (List.getElem?_eq_getElem h1) (List.getElem?_eq_getElem _)
  rw[e];rfl
 refine⟨_,e,?_,λi p t e1 e2=>?_⟩
 ·rw[List.length_map];exact h.1
 ·have e3:vs[i]?=some (V.ref p):=by
   have:(List.map V.ref (vs.map λv=>match v with | .ref p=>p | _=>0))[i]?=some (V.ref p):=by rw[List.getElem?_map,e1];rfl
   rw[<-e]at this
   exact this
  obtain⟨p',a,e4,h1,h2⟩:=h.2 i _ _ e3 e2
  cases e4
  exact⟨a,h1,h2⟩
def MF:Sp:=λvs H Q _=>∃L,vs=[.ref L]/\∃bs ss,H L=some (.lst (List.map V.ref bs))/\aF H bs ss/\ss.length<=900/\ss.Nodup/\(∀s∈ss,s.length<=100)/\
 ∀D H' cs ts,bD H H'->H D=none->H' D=some (.lst (List.map V.ref cs))->aF H' cs ts->ts.Perm ss->ts.Pairwise (λa b=>bU a b=true)->Q (.ref D) H'
section
variable {P:Program}{w:World}{K:PySem.W.Frag}{mg:Str->Option Value}{base:Heap}{t:qK}
theorem Js(T:Txt K mg t):bG P w K mg base eI 5 t.gk t.gi ["_law_sets"] MF:=by
 refine T.jI.n6 cZ (λvs H Q E h=>?_) (λcB A outer s H vs Q E hr h hc hf=>?_)
 ·obtain⟨a,rfl,_⟩:=h;rfl
 obtain⟨L,rfl,bs,ss,hL,sb,Y8,nd,vV,q⟩:=h
 have hu:=kl hr
 have Lk:=hr.fk
 have Uz:=(hr.mono (by omega:2<=4)).in1.in1.fk
 refine⟨_,(by apply aq;exact(aI hc cZ.nd hf 1 (by decide +kernel) (aP (Ai Uz) (bZ hc) T.z_sorted rY (ae (cg hc ["_law_one"] [] rfl (by decide +kernel) (cp (ao hc 0)) (λ_ hc=>jX hc (by decide +kernel) 0 (by decide +kernel)) (λ_ _=>cK) (λ_ hc=>(fT (ae (aP fL (bZ hc) T.z_len kE (ae (ao hc 0) ah)) (ae (ao hc 0) ah))))) ah)));apply aq;exact(aI hc cZ.nd hf 2 (by decide +kernel) (dC ah));apply aq;exact(cW PassesOwn.never rfl (cp (ao hc 1)) (L5 rfl (tU (jW hc cZ.nd hf 3 (by decide +kernel)) (tU (jW hc cZ.nd hf 4 (by decide +kernel)) GC))) (by exact ay (bX (lK (lZ (bA (N5 hu) (ao hc 2) (dC ah) (cF _)) (ny (bA (N4 hu) (bq gx (ao hc 2) (Q0 Q8 aj) (λ_ _=>rfl)) (ao hc 4) (cF _))))) (by exact ay (dm (oU PySem.F.plainAttrs_list PySem.F.slot_list_append PySem.F.type_list_append fC (ao hc 2) (ae (ao hc 4) ah)))) bt)));exact ay (aL (ao hc 2))),?_⟩
 repeat (walk_at "rl")
 refine⟨⟨_,aV hL⟩,?_⟩
 have lb:=sb.1
 refine dk (zs:=List.map V.ref bs) (λj=>ss[j]?) (λ_=>RPr) (λD H H' v d s ⟨p,a,e,h1,h2⟩=>⟨p,a,e,s _ _ h1,s _ _ h2⟩) (λD H o v d ⟨xs,hx⟩ _ ⟨p,a,e,h1,h2⟩=>⟨p,a,e,by rw[au (aW h1 hx (by intro z;cases z))];exact h1,by rw[au (aW h2 hx (by intro z;cases z))];exact h2⟩) hL (by rw[List.length_map];omega) (λDD c H2 j z yes no hj s2 Ki Kh dv tH=>?_) (λD1 H2 vs s2 wG aCs rl=>?_)
 ·obtain⟨b,eb,rfl⟩:=dG hj
  have Fs:j<bs.length:=(List.getElem?_eq_some_iff.mp eb).1
  have es:ss[j]?=some (ss[j]'(by omega)):=List.getElem?_eq_getElem _
  have hb:=s2 _ _ (sb.2 j b _ eb es)
  rw[es]at dv
  generalize ss[j]'(by omega)=y at hb dv
  walk_at "rc"
  repeat (first | walk_at "rl" | simp only[hb])
  refine⟨by decide,λp hp=>dv y rfl _ _ (aE hp _) ⟨p,b,rfl,by rw[ai],(aE hp _) _ _ hb⟩⟩
 obtain⟨ps,rfl,Uu⟩:=RW rl
 rw[List.length_map,lb,Cw (l:=ss) λi hi=>rfl]at Uu
 refine⟨D1,rfl,ps,ss,aCs,Uu,by omega,nd,λqs ts pm pw pq p1 nr=>?_⟩
 have YS:=aE nr (.lst (List.map V.ref qs))
 have s3:=s2.trans YS
 have yI:upd H2 p1 (.lst (List.map V.ref qs)) p1=some (.lst (List.map V.ref qs)):=ai
 generalize upd H2 p1 (.lst (List.map V.ref qs))=H3 at s3 yI YS ⊢
 repeat (walk_at "rl")
 refine⟨by decide,λR0 hR0=>?_⟩
 have YQ:=aE hR0 (.lst [])
 have Zy:upd H3 R0 (.lst []) R0=some (.lst []):=ai
 have J2:=YQ _ _ yI
 have s4:=s3.trans YQ
 have hRH:H R0=none:=s3.free hR0
 have WK:p1≠R0:=av yI hR0
 have lq:=pq.1
 have lts:=pm.length_eq
 have pq4:jA (upd H3 R0 (.lst [])) qs ts:=⟨lq,λi p t e1 e2=>by
  obtain⟨a,h1,h2⟩:=pq.2 i p t e1 e2
  exact⟨a,YQ _ _ (YS _ _ h1),YQ _ _ (YS _ _ h2)⟩⟩
 generalize upd H3 R0 (.lst [])=H4 at s4 Zy J2 pq4 ⊢
 repeat (walk_at "rl")
 refine⟨⟨_,aV J2⟩,?_⟩
 obtain⟨Pv,cH⟩:∃Pv:Nat->St->Hp->Prop,∀i σ' H',Pv i σ' H'↔∃(z1 z2:Option V) (cs:List Addr),σ'=[some (.ref L),some (.ref p1),some (.ref R0),z1,z2]/\bD H H'/\H' p1=some (.lst (List.map V.ref qs))/\H' R0=some (.lst (List.map V.ref cs))/\aF H' cs (ts.take i)/\jA H' qs ts:=⟨_,λ_ _ _=>Iff.rfl⟩
 refine dN (xs:=List.map V.ref qs) Pv ((cH _ _ _).mpr ⟨none,none,[],rfl,s4,J2,Zy,⟨rfl,λ_ _ _ z=>by cases z⟩,pq4⟩) (λi σ' H' _ pv=>?_) (λi z σ' H' hz pv=>?_) (λσ' H' pv=>?_)
 ·obtain⟨_,_,_,_,_,h,_⟩:=(cH _ _ _).mp pv
  exact h
 ·obtain⟨z1,z2,cs,rfl,s5,Zh,O5,YJ,pq5⟩:=(cH _ _ _).mp pv
  obtain⟨b,eb,rfl⟩:=dG hz
  have hi:i<qs.length:=(List.getElem?_eq_some_iff.mp eb).1
  have et:ts[i]?=some (ts[i]'(by omega)):=List.getElem?_eq_getElem _
  obtain⟨a,z4,Qz⟩:=pq5.2 i b _ eb et
  repeat (first | walk_at "rl" | simp only[z4,O5])
  refine⟨_,bE z4,rfl,.int _,[.ref a],rfl,.ref a,[],rfl,rfl,by decide,λp hp=>?_⟩
  have sp:=aE hp (.lst [])
  have Lx:=sp _ _ O5
  have hb6:=sp _ _ Qz
  have hp6:=sp _ _ Zh
  have s6:=s5.trans sp
  have Rr:aF (upd H' p (.lst [])) cs (ts.take i):=YJ.mono λb xs e=>sp _ _ e
  have pq6:jA (upd H' p (.lst [])) qs ts:=⟨lq,λi p t e1 e2=>by
   obtain⟨a,h1,h2⟩:=pq5.2 i p t e1 e2
   exact⟨a,sp _ _ h1,sp _ _ h2⟩⟩
  generalize upd H' p (.lst [])=H6 at Lx hb6 hp6 s6 Rr pq6 ⊢
  have lc:cs.length=i:=by rw[Rr.1,List.length_take];omega
  have fin:∀z1:Option V,Pv (i+1) [some (.ref L),some (.ref p1),some (.ref R0),z1,some (.ref a)] (upd H6 R0 (.lst (List.map V.ref cs++[V.ref a]))):=λz1=>by
   have kt:∀{b:Addr} {xs:List V},H6 b=some (.tup xs)->upd H6 R0 (.lst (List.map V.ref cs++[V.ref a])) b=some (.tup xs):=λe=>by rw[au (aW e Lx (by intro z;cases z))];exact e
   refine(cH _ _ _).mpr ⟨_,_,cs++[a],rfl,kX s6 hRH,by rw[au WK];exact hp6,by rw[ai,List.map_append];rfl,?_,⟨lq,λi p t e1 e2=>?_⟩⟩
   ·rw[List.take_add_one,et]
    exact(Rr.mono λb xs e=>kt e).snoc (kt hb6)
   ·obtain⟨a,h1,h2⟩:=pq6.2 i p t e1 e2
    exact⟨a,kt h1,kt h2⟩
  refine⟨cs,Lx,[],rfl,ts.take i,Rr,[],⟨rfl,λ_ _ _ z=>by cases z⟩,?_⟩
  by_cases e0:ts.take i=[]
  ·rw[if_pos e0]
   exact⟨.inl ⟨rfl,_,aV Lx⟩,_,Lx,by rw[List.length_map];exact bN (by omega),fin _⟩
  rw[if_neg e0]
  have Zm:0<i:=Nat.pos_of_ne_zero λz=>e0 (by rw[z];rfl)
  obtain⟨ZX,c1,rfl⟩:∃ZX c1,cs=ZX++[c1]:=⟨cs.dropLast,cs.getLast (by intro z;rw[z]at lc;simp at lc;omega),(List.dropLast_concat_getLast _).symm⟩
  rw[List.length_append,List.length_singleton]at lc
  have e1:(ZX++[c1])[i-1]?=some c1:=by rw[show i-1=ZX.length by omega,List.getElem?_concat_length]
  have e2:(ts.take i)[i-1]?=some (ts[i-1]'(by omega)):=by rw[List.getElem?_take_of_lt (by omega)];exact List.getElem?_eq_getElem _
  have hc1:=Rr.2 _ _ _ e1 e2
  have ne:ts[i-1]'(by omega)≠ts[i]'(by omega):=λz=>by
   have:=(List.pairwise_iff_getElem.mp pw) (i-1) i (by omega) (by omega) (by omega)
   rw[z,uj]at this;cases this
  refine⟨_,Lx,.ref c1,by rw[List.map_append];exact K6 _ _,c1,rfl,a,rfl,_,hc1,_,hb6,?_⟩
  rw[decide_eq_false ne,if_pos (by decide)]
  exact⟨.inl ⟨rfl,_,aV Lx⟩,_,Lx,by rw[List.length_map,List.length_append];exact bN (by simp;omega),fin _⟩
 ·obtain⟨z1,z2,cs,rfl,s5,Zh,O5,YJ,pq5⟩:=(cH _ _ _).mp pv
  rw[List.length_map,lq,List.take_length]at YJ
  repeat (walk_at "rl")
  exact q R0 H' cs ts s5 hRH O5 YJ pm pw
end
local macro_rules | `(tactic| walk_at "rd") => `(tactic| walk_at "rc")
local macro_rules | `(tactic| walk_at "rl") => `(tactic| first | (refine dA fun R hR => ?_) | walk_at "ry" | (refine Nx.to (by assumption) _ _ ?_))
def Hj:Sp:=λvs H Q _=>∃W,vs=[.ref W]/\∃x:List Int,H W=some (.tup (List.map V.int x))/\x.length<=6/\x.Nodup/\
 ∀D H' bs ts,bD H H'->H D=none->H' D=some (.lst (List.map V.ref bs))->aF H' bs ts->(∀t,t∈ts↔t∈cD x)->ts.Pairwise (λa b=>bU a b=true)->Q (.ref D) H'
section
variable {P:Program}{w:World}{K:PySem.W.Frag}{mg:Str->Option Value}{base:Heap}{t:qK}
theorem Et(T:Txt K mg t):bG P w K mg base eI 6 t.jx t.jo ["_law_whole"] Hj:=by
 have qw:=Js (P:=P) (w:=w) (base:=base) T
 refine T.oK.n6 fU (λvs H Q E h=>?_) (λcB A outer s H vs Q E hr h hc hf=>?_)
 ·obtain⟨a,rfl,_⟩:=h;rfl
 obtain⟨W,rfl,x,hW,lx0,Y4,q⟩:=h
 have lx:x.length<=10:=by omega
 refine⟨_,(by apply aq;exact(aI hc fU.nd hf 1 (by decide +kernel) (dC (ae (fT ah) ah)));apply aq;exact(cW PassesOwn.never rfl (e8 (ao hc 0)) (jW hc fU.nd hf 2 (by decide +kernel)) (by exact ay (aI hc fU.nd hf 1 (by decide +kernel) (aT zi (ao hc 1) (cg hc ["_law_row"] [2] rfl (by decide +kernel) (cp (ao hc 1)) (λ_ hc=>jX hc (by decide +kernel) 0 (by decide +kernel)) (λ_ _=>cK) (λ_ hc=>(aT rk (ao hc 0) (fT (ae (ao hc 1) ah)))))))));exact ay (aL (aB qw (hr.mono (by omega)) (bZ hc) T.qj T.jI.kp T.qt .nil aR (ae (ao hc 1) ah)))),?_⟩
 repeat (walk_at "rd")
 refine⟨by decide,λp hp=>⟨by decide,λL0 Ly=>?_⟩⟩
 have s0:=(aE hp (.tup [])).trans (aE Ly (.lst [V.ref p]))
 have Gq:upd (upd H p (.tup [])) L0 (.lst [V.ref p]) p=some (.tup []):=(aE Ly _) _ _ ai
 have Qt:upd (upd H p (.tup [])) L0 (.lst [V.ref p]) L0=some (.lst [V.ref p]):=ai
 generalize upd (upd H p (.tup [])) L0 (.lst [V.ref p])=H0 at s0 Gq Qt ⊢
 refine⟨⟨_,bE (s0 _ _ hW)⟩,?_⟩
 obtain⟨Pv,cH⟩:∃Pv:Nat->St->Hp->Prop,∀i σ' H',Pv i σ' H'↔∃(L:Addr) (z:Option V) (bs:List Addr),σ'=[some (.ref W),some (.ref L),z]/\bD H H'/\H' L=some (.lst (List.map V.ref bs))/\aF H' bs (cD (x.take i)):=⟨_,λ_ _ _=>Iff.rfl⟩
 refine gO (xs:=List.map V.int x) Pv ((cH _ _ _).mpr ⟨L0,none,[p],rfl,s0,Qt,rfl,λi b t h1 h2=>?_⟩) (λi σ' H1 _ pv=>?_) (λi z σ' H1 hz pv=>?_) (λσ' H1 pv=>?_)
 ·have LK:([[]]:List (List Int))[i]?=some t:=h2
  cases i with
  | zero=>cases h1;cases LK;exact Gq
  | succ n=>simp at h1
 ·obtain⟨_,_,_,_,s1,_⟩:=(cH _ _ _).mp pv
  exact s1 _ _ hW
 ·obtain⟨L,z',bs,rfl,s1,hL,sa⟩:=(cH _ _ _).mp pv
  obtain⟨m,em,rfl⟩:=int_at hz
  have hi:i<x.length:=(List.getElem?_eq_some_iff.mp em).1
  have et:x.take (i+1)=x.take i++[m]:=by rw[List.take_add_one,em];rfl
  have lb:bs.length<=1024:=by
   rw[sa.1,gB,List.length_take];exact rh (by omega)
  have ls:=sa.1
  repeat (walk_at "rd")
  refine⟨⟨_,aV hL⟩,?_⟩
  refine dk (zs:=List.map V.ref bs) (λj=>(cD (x.take i))[j]?.map (· ++ [m])) (λ_=>gp) gp.same gp.puts hL (by rw[List.length_map];omega) (λDD c H2 j z yes no hj s2 Ki Kh dv tH=>?_) (λD H2 vs s2 hD v5 rl=>?_)
  ·obtain⟨b,eb,rfl⟩:=dG hj
   have Fs:j<bs.length:=(List.getElem?_eq_some_iff.mp eb).1
   have es:(cD (x.take i))[j]?=some ((cD (x.take i))[j]'(by omega)):=List.getElem?_eq_getElem _
   have hb:=s2 _ _ (sa.2 j b _ eb es)
   have ye:=dv ((cD (x.take i))[j]'(by omega)++[m]) (by rw[es];rfl)
   have ly:=iy (List.getElem_mem (l:=cD (x.take i)) (n:=j) (by omega))
   rw[List.length_take]at ly
   generalize (cD (x.take i))[j]'(by omega)=y at hb ye ly
   walk_at "rc"
   repeat (walk_at "rd")
   refine⟨by decide,λp1 nr=>⟨_,(aE nr _) _ _ hb,by rw[List.length_map];exact ft (by omega),λp2 H3 s3 _ Qr=>ye _ _ ((aE nr _).trans s3) ⟨p2,rfl,by rw[Qr,List.map_append];rfl⟩⟩⟩
  ·obtain⟨cs,rfl,sc⟩:=qA rl
   rw[List.length_map,ls,km (l:=cD (x.take i)) (g:=(· ++ [m])) λk hk=>by rw[List.getElem?_eq_getElem hk];rfl]at sc
   have Kf:=s2 _ _ hL
   repeat (first | walk_at "rd" | simp only[Kf,v5])
   have lc:=sc.1
   rw[List.length_map]at lc
   refine⟨ft (by omega),λp1 nr=>(cH _ _ _).mpr ⟨p1,_,bs++cs,rfl,(s1.trans s2).trans (aE nr _),by rw[ai,List.map_append],?_⟩⟩
   rw[et,qU]
   exact((sa.mono λb xs e=>s2 _ _ e).app sc).mono λb xs e=>(aE nr _) _ _ e
 ·obtain⟨L,z',bs,rfl,s1,hL,sa⟩:=(cH _ _ _).mp pv
  rw[List.length_map,List.take_length]at sa
  repeat (walk_at "rd")
  have l64:(cD x).length<=64:=by
   rw[gB]
   exact Nat.pow_le_pow_right (by decide) lx0
  refine⟨L,rfl,bs,_,hL,sa,by omega,w5 Y4,λs hs=>?_,λD H2 cs ts s2 hD v5 sc pm pw=>q D H2 cs ts (s1.trans s2) (s1.free hD) v5 sc (λt=>pm.mem_iff) pw⟩
  have:=iy hs
  omega
end
local macro_rules | `(tactic| walk_at "rd") => `(tactic| walk_at "rc")
local macro_rules | `(tactic| walk_at "rl") => `(tactic| first | (refine dA fun R hR => ?_) | walk_at "ry" | (refine Nx.to (by assumption) _ _ ?_))
section
variable {P:Program}{w:World}{K:PySem.W.Frag}{mg:Str->Option Value}{base:Heap}{t:qK}
theorem Jl(T:Txt K mg t):bG P w K mg base eI 1 t.gj t.gh ["_law_thing"] Ms:=by
 refine T.jH.n6 oZ (λvs H Q E h=>?_) (λcB A outer s H vs Q E hr h hc hf=>?_)
 ·obtain⟨i,rfl,_⟩:=h;rfl
 obtain⟨i,rfl,q⟩:=h
 refine⟨_,(by exact ay (aL (Ma (aP iV (bZ hc) T.z_isinstance fh (ae (ao hc 0) (ae (jY (v:=V.ty "int") (bZ hc) T.z_int Yl rfl) ah))) (L8 (Bc (aP iV (bZ hc) T.z_isinstance fh (ae (ao hc 0) (ae (jY (v:=V.ty "bool") (bZ hc) T.z_bool Ug rfl) ah)))))))),?_⟩
 repeat (walk_at "rd")
 refine⟨_,.int i,true,oq _ _,?_⟩
 repeat (walk_at "rd")
 refine⟨_,.int i,false,SX (by decide) rfl,?_⟩
 repeat (walk_at "rd")
 exact q
theorem Jr(T:Txt K mg t):bG P w K mg base eI 2 t.iG t.iE ["_law_thing"] Mz:=by
 have qv:=Jl (P:=P) (w:=w) (base:=base) T
 refine T.lX.n6 qX (λvs H Q E h=>?_) (λcB A outer s H vs Q E hr h hc hf=>?_)
 ·obtain⟨a,rfl,_⟩:=h;rfl
 obtain⟨a,rfl,x,ha,lx,rise,q⟩:=h
 refine⟨_,(by apply aq;exact(bX (lK (lZ (dU (bQ (aP iV (bZ hc) T.z_isinstance fh (ae (ao hc 0) (ae (jY (v:=V.ty "tuple") (bZ hc) T.z_tuple jt rfl) ah))))) (ny (dU (bQ (aP (pJ hr.hd) (bZ hc) T.z_all K5 (ae (cg hc ["_law_one"] [] rfl (by decide +kernel) (e8 (ao hc 0)) (λ_ hc=>jX hc (by decide +kernel) 0 (by decide +kernel)) (λ_ _=>cK) (λ_ hc=>(aB qv (hr.mono (by omega)) (bZ hc) T.qi T.jH.kp T.qq .nil aR (ae (ao hc 0) ah)))) ah))))))) (by exact ay (aL eM)) bt);exact ay (aL (aP (pJ hr.hd) (bZ hc) T.z_all K5 (ae (cg hc ["_law_k"] [0] rfl (by decide +kernel) (gF (bZ hc) T.z_range (ae (aT zh (aP fL (bZ hc) T.z_len kE (ae (ao hc 0) ah)) aj) ah)) (λ_ hc=>jX hc (by decide +kernel) 0 (by decide +kernel)) (λ_ _=>cK) (λ_ hc=>(nG Ji (bq pj (ao hc 1) (ao hc 0) (λ_ _=>rfl)) (bq pj (ao hc 1) (aT fB (ao hc 0) aj) (λ_ _=>rfl)) (cF _)))) ah)))),?_⟩
 repeat (walk_at "rd")
 refine⟨_,.tup ha,true,oq _ _,?_⟩
 repeat (walk_at "rd")
 refine⟨⟨_,bE ha⟩,?_⟩
 obtain⟨Pc,jl⟩:∃Pc:Addr->Nat->List V->Hp->Prop,∀Z i ys H',Pc Z i ys H'↔ys=List.map V.bl (List.replicate i true)/\bD H H'/\H' Z=some (.lst ys):=⟨_,λ_ _ _ _=>Iff.rfl⟩
 refine ie (zs:=List.map V.int x) Pc (λZ hZ=>(jl _ _ _ _).mpr ⟨rfl,aE hZ _,ai⟩) (λZ hZ i ys H' _ pv=>?_) (λZ hZ i z ys H' hz pv cb=>?_) (λZ hZ ys H' pv=>?_)
 ·obtain⟨_,s,_⟩:=(jl _ _ _ _).mp pv
  exact s _ _ ha
 ·obtain⟨rfl,s1,pA⟩:=(jl _ _ _ _).mp pv
  obtain⟨n,en,rfl⟩:=int_at hz
  have hi:i<x.length:=(List.getElem?_eq_some_iff.mp en).1
  walk_at "rc"
  repeat (walk_at "rd")
  refine⟨n,rfl,pA,by rw[List.length_replicate];exact bN (by omega),(jl _ _ _ _).mpr ⟨?_,kX s1 hZ,ai⟩⟩
  rw[List.replicate_succ',List.map_append];rfl
 ·obtain⟨rfl,s1,pA⟩:=(jl _ _ _ _).mp pv
  refine⟨Z,rfl,_,pA,?_⟩
  rw[all_true]
  repeat (walk_at "rd")
  have ha1:=s1 _ _ ha
  repeat (first | walk_at "rd" | simp only[ha1])
  refine⟨by omega,by omega,?_⟩
  obtain⟨Pd,Zz⟩:∃Pd:Addr->Nat->List V->Hp->Prop,∀Z2 i ys pQ,Pd Z2 i ys pQ↔ys=List.map V.bl (List.replicate i true)/\bD H' pQ/\pQ Z2=some (.lst ys):=⟨_,λ_ _ _ _=>Iff.rfl⟩
  refine p9 Pd (λZ2 TQ=>(Zz _ _ _ _).mpr ⟨rfl,aE TQ _,ai⟩) (λZ2 TQ i ys H2 hi pv cb=>?_) (λZ2 TQ ys H2 pv=>?_)
  ·obtain⟨rfl,s2,hZ3⟩:=(Zz _ _ _ _).mp pv
   have ha2:=s2 _ _ ha1
   have j1:i<x.length:=by omega
   have j2:i+1<x.length:=by omega
   have e1:qb (List.map V.int x) (i:Int)=some (.int x[i]):=eK (by rw[List.getElem?_map,List.getElem?_eq_getElem j1];rfl)
   have e2:qb (List.map V.int x) ((i:Int)+1)=some (.int x[i+1]):=eK (j:=i+1) (by rw[List.getElem?_map,List.getElem?_eq_getElem j2];rfl)
   walk_at "rc"
   repeat (first | walk_at "rd" | simp only[ha2,e1,e2])
   have lt:x[i]<x[i+1]:=(List.pairwise_iff_getElem.mp rise) i (i+1) j1 j2 (by omega)
   rw[decide_eq_true lt]
   refine⟨hZ3,by rw[List.length_replicate];exact bN (by omega),(Zz _ _ _ _).mpr ⟨?_,kX s2 TQ,ai⟩⟩
   rw[List.replicate_succ',List.map_append];rfl
  ·obtain⟨rfl,s2,hZ3⟩:=(Zz _ _ _ _).mp pv
   refine⟨Z2,rfl,_,hZ3,?_⟩
   rw[all_true]
   exact q _ (s1.trans s2)
end
def MJ:Sp:=λvs H Q _=>∃L,vs=[.ref L]/\∃bs ts,H L=some (.lst (List.map V.ref bs))/\aF H bs ts/\ts.length<=900/\(∀s∈ts,dF s/\s.length<=100)/\ts.Nodup/\(∀s∈ts,∀r∈ts,aA s r=true->s=r)/\∀H',bD H H'->Q (.bl true) H'
section
variable {P:Program}{w:World}{K:PySem.W.Frag}{mg:Str->Option Value}{base:Heap}{t:qK}
theorem Ju(T:Txt K mg t):bG P w K mg base eI 3 t.jz t.jr ["_law_family"] MJ:=by
 have tS:=Jr (P:=P) (w:=w) (base:=base) T
 have bT:=o6 (P:=P) (w:=w) (base:=base) T
 refine T.jB.n6 iz (λvs H Q E h=>?_) (λcB A outer s H vs Q E hr h hc hf=>?_)
 ·obtain⟨a,rfl,_⟩:=h;rfl
 obtain⟨L,rfl,bs,ts,hL,sb,l9,ri,nd,aC7,q⟩:=h
 have lb:=sb.1
 refine⟨_,(by apply aq;exact(bX (dU (bQ (aP iV (bZ hc) T.z_isinstance fh (ae (ao hc 0) (ae (jY (v:=V.ty "list") (bZ hc) T.z_list K4 rfl) ah))))) (by exact ay (aL eM)) bt);apply aq;exact(cW PassesOwn.never rfl (gF (bZ hc) T.z_range (ae (aP lu (bZ hc) T.z_len kE (ae (ao hc 0) ah)) ah)) (jW hc iz.nd hf 1 (by decide +kernel)) (by apply aq;exact(bX (dU (bQ (aB tS (hr.mono (by omega)) (bZ hc) T.tj T.lX.kp T.tO .nil aR (ae (bq gx (ao hc 0) (ao hc 1) (λ_ _=>rfl)) ah)))) (by exact ay (aL eM)) bt);exact ay (cW PassesOwn.never rfl (gF (bZ hc) T.z_range (ae (aP lu (bZ hc) T.z_len kE (ae (ao hc 0) ah)) ah)) (jW hc iz.nd hf 2 (by decide +kernel)) (by exact ay (bX (lK (nA (bA BV (ao hc 2) (ao hc 1) (cF _)) (jV (bQ (aB bT (hr.mono (by omega)) (bZ hc) T.dg T.cC.kp T.di .nil aR (ae (bq gx (ao hc 0) (ao hc 1) (λ_ _=>rfl)) (ae (bq gx (ao hc 0) (ao hc 2) (λ_ _=>rfl)) ah))))))) (by exact ay (aL eM)) bt)))));exact ay (aL eM)),?_⟩
 repeat (walk_at "rl")
 refine⟨_,.lst hL,true,oq _ _,?_⟩
 rw[if_neg (by decide)]
 repeat (first | walk_at "rl" | simp only[hL])
 have st:∀i (hi:i<ts.length),∃b,bs[i]?=some b/\H b=some (.tup (List.map V.int ts[i])):=λi hi=>by
  have e1:bs[i]?=some (bs[i]'(by omega)):=List.getElem?_eq_getElem _
  exact⟨_,e1,sb.2 i _ _ e1 (List.getElem?_eq_getElem hi)⟩
 refine⟨by omega,by omega,?_⟩
 obtain⟨Pv,cH⟩:∃Pv:Nat->St->Hp->Prop,∀i σ' H',Pv i σ' H'↔∃z1 z2:Option V,σ'=[some (.ref L),z1,z2]/\bD H H':=⟨_,λ_ _ _=>Iff.rfl⟩
 refine mX Pv ((cH _ _ _).mpr ⟨none,none,rfl,λ_ _ e=>e⟩) (λi σ' H1 hi pv=>?_) (λσ' H1 pv=>?_)
 ·obtain⟨z1,z2,rfl,s1⟩:=(cH _ _ _).mp pv
  have zY:i<ts.length:=by omega
  obtain⟨b,eb,hb⟩:=st i zY
  have yK:=s1 _ _ hL
  have at1:qb (List.map V.ref bs) (i:Int)=some (.ref b):=eK (by rw[List.getElem?_map,eb];rfl)
  obtain⟨r1,l1⟩:=ri _ (List.getElem_mem zY)
  repeat (first | walk_at "rl" | simp only[yK,at1,Int.zero_add])
  refine⟨b,rfl,_,s1 _ _ hb,by omega,r1,λH2 s2=>⟨_,rfl,?_⟩⟩
  rw[if_neg (by decide)]
  have YT:=s1.trans s2
  have Kf:=YT _ _ hL
  repeat (first | walk_at "rl" | simp only[Kf])
  refine⟨by omega,by omega,?_⟩
  obtain⟨Pw,Xm⟩:∃Pw:Nat->St->Hp->Prop,∀j σ' H',Pw j σ' H'↔∃z2:Option V,σ'=[some (.ref L),some (.int (i:Int)),z2]/\bD H H':=⟨_,λ_ _ _=>Iff.rfl⟩
  refine mX Pw ((Xm _ _ _).mpr ⟨z2,rfl,YT⟩) (λj σ' H3 hj pw=>?_) (λσ' H3 pw=>?_)
  ·obtain⟨z2,rfl,s3⟩:=(Xm _ _ _).mp pw
   have qm:j<ts.length:=by omega
   obtain⟨b2,eb2,Qz⟩:=st j qm
   have Xo:=s3 _ _ hL
   have at2:qb (List.map V.ref bs) (j:Int)=some (.ref b2):=eK (by rw[List.getElem?_map,eb2];rfl)
   repeat (first | walk_at "rl" | simp only[Xo,at1,at2,Int.zero_add])
   by_cases e:(j:Int)=(i:Int)
   ·rw[decide_eq_true e,if_neg (by decide)]
    exact(Xm _ _ _).mpr ⟨_,rfl,s3⟩
   rw[decide_eq_false e,if_pos (by decide)]
   refine⟨b,b2,rfl,_,_,s3 _ _ hb,s3 _ _ Qz,by omega,λH4 s4=>⟨_,rfl,?_⟩⟩
   rw[if_neg λz=>e (by
    have:=(List.getElem_inj nd).mp (aC7 _ (List.getElem_mem zY) _ (List.getElem_mem qm) z)
    omega)]
   exact(Xm _ _ _).mpr ⟨_,rfl,s3.trans s4⟩
  ·obtain⟨z2,rfl,s3⟩:=(Xm _ _ _).mp pw
   exact(cH _ _ _).mpr ⟨_,_,rfl,s3⟩
 ·obtain⟨z1,z2,rfl,s1⟩:=(cH _ _ _).mp pv
  repeat (walk_at "rl")
  exact q _ s1
end
local macro_rules | `(tactic| walk_at "rd") => `(tactic| walk_at "rc")
local macro_rules | `(tactic| walk_at "rl") => `(tactic| first | (refine dA fun R hR => ?_) | walk_at "ry" | (refine Nx.to (by assumption) _ _ ?_))
theorem pP.move{H H':Hp}{p:Addr}{W:List Int}{md:Md}(k:∀b o,H b=some o->(∀ps,o≠.mK ps)->(∀o',o≠cV o')->H' b=some o)(m:pP H p W md):pP H' p W md:=by
 cases md with
 | wt g most=>obtain⟨d,ks,h1,h2,h3⟩:=m;exact⟨d,ks,k _ _ h1 (by intro o z;cases z) (by intro o z;cases z),k _ _ h2 (by intro o z;cases z) (by intro o z;cases z),h3⟩
 | Td ss=>obtain⟨l,bs,h1,h2,h3,h4⟩:=m;exact⟨l,bs,k _ _ h1 (by intro o z;cases z) (by intro o z;cases z),k _ _ h2 (by intro o z;cases z) (by intro o z;cases z),h3.mono λ_ _ e=>k _ _ e (by intro o z;cases z) (by intro o z;cases z),h4⟩
 | out ss=>obtain⟨l,bs,h1,h2,h3,h4⟩:=m;exact⟨l,bs,k _ _ h1 (by intro o z;cases z) (by intro o z;cases z),k _ _ h2 (by intro o z;cases z) (by intro o z;cases z),h3.mono λ_ _ e=>k _ _ e (by intro o z;cases z) (by intro o z;cases z),h4⟩
def Hl(f c':Addr)(fo oc:Obj)(cl:List (Str×Addr))(M:Addr):Sp:=λvs H Q _=>∃p,vs=[.ref p]/\H f=some (cV fo)/\H c'=some (cV oc)/\∃C,cU C H/\CellsOk C cl bF [.ref M]/\∃(md:Md) (W S:List Int),pP H M W md/\H p=some (.tup (List.map V.int S))/\S.length<=100/\(∀z∈S,z∈W)/\
 ∀H',bD H H'->Q (.bl (md.tells S)) H'
section
variable {P:Program}{w:World}{K:PySem.W.Frag}{mg:Str->Option Value}{base:Heap}{t:qK}
theorem Pt(T:Txt K mg t){f c' M:Addr}{oc:Obj}{wL:Array Value}{tq:Tok}{qual:Str}{cl:List (Str×Addr)}{doc pm ctv:Value}(oP:oc.data=.fields wL)(hq:wL[1]?=some (.str qual tq))
  (px:∀x c,cl.lookup x=some c->x∈bF) (inj:∀x y c,cl.lookup x=some c->cl.lookup y=some c->x=y) :
  lY P w K mg base 8 f (Hl f c' (PySem.W.fnMade "_law_ask" qual (aN aX) (aH aX) (ag aX) cl doc pm c' ctv) oc cl M):=by
 have gy:=xt (P:=P) (w:=w) (base:=base) T
 refine Uc (k:=7) (fo:=PySem.W.fnMade "_law_ask" qual (aN aX) (aH aX) (ag aX) cl doc pm c' ctv) (oc:=oc) (name:="_law_ask") (qual:=qual) (params:=aN aX) (body:=aH aX) (scope:=ag aX) (cl:=cl) (doc:=doc) (pm:=pm) (ctv:=ctv) (ps:=mL) (fr:=bF) rfl oP hq rfl rfl rfl (by decide +kernel) (by decide +kernel) (by decide +kernel) (by decide +kernel) (λx hx=>?_) px inj (λus hu=>?_) λvs H Q E h=>?_
 ·have:freeOf (ag aX)=bF:=by decide +kernel
  rw[<-this]
  exact List.mem_map.mpr ⟨(x,.free),List.mem_filter.mpr ⟨PySem.mem_of_lookup hx,rfl⟩,rfl⟩
 ·match us,hu with
  | [_],_=>rfl
 obtain⟨p,rfl,hf,ja,C,pin,KC,md,W,S,ma,hp,lS,sub,q⟩:=h
 refine⟨C,[.ref M],rfl,hf,ja,pin,rfl,KC,λA outer s hr hc=>?_⟩
 refine⟨_,(by exact ay (aL (aB gy (hr.mono (by omega)) (bZ hc) T.jk T.gA.kp T.jv .nil aR (ae (ao hc 1) (ae (ao hc 0) ah))))),?_⟩
 repeat (walk_at "rl")
 have out:∀{b:Addr} {o:HO},H b=some o->(∀o',o≠cV o')->bh C H b=some o:=λe n=>by rw[aQ (pin.out e n)];exact e
 refine⟨M,p,rfl,md,W,S,ma.move λb o e _ np=>out e np,out hp (by intro o z;cases z),lS,sub,λH2 s2=>q _ λb o e=>?_⟩
 cases e1:C.lookup b with
 | some o'=>rw[pin b o' e1]at e;cases e;exact ik e1
 | none=>rw[bI e1];exact s2 _ _ (by rw[aQ e1];exact e)
end
def Yx(B:Hp)(C:List (Addr×Obj))(_:Unit)(H:Hp):Prop:=(∀b o,B b=some o->H b=some o)/\cU C H
section
variable {P:Program}{w:World}{K:PySem.W.Frag}{mg:Str->Option Value}{base:Heap}{t:qK}
theorem PB{B:Hp}{f c' M:Addr}{fo oc:Obj}{fd:FuncData}{cl:List (Str×Addr)}{C:List (Addr×Obj)}{x:List Int}{md:Md}{dom:List Int->Prop}(hfd:fo.data=.func fd)(QW:lY P w K mg base 8 f (Hl f c' fo oc cl M))(KC:CellsOk C cl bF [.ref M])(mV:∀S,dom S->S.length<=100/\∀z∈S,z∈x)
  (hf:B f=some (cV fo)) (hc:B c'=some (cV oc)) (hm:pP B M x md) :
  P6 P w K mg base 8 f (λ_=>False) (λb=>(∃o,B b=some o)\/∃o,C.lookup b=some o) (Yx B C) (λi _=>i) (λ_=>True) dom md.tells:=by
 refine⟨⟨⟨_,QW,λi H p S Q hD hn hp hS q=>?_⟩,λi H hD=>⟨fo,fd,hD.1 _ _ hf,hfd⟩,λi H H' hD s=>?_,λi H b xs hD hz e=>hz.elim⟩,λb h=>h.elim,λi H b hD h=>?_,λi H H' hD k=>?_⟩
 ·exact⟨p,rfl,hD.1 _ _ hf,hD.1 _ _ hc,C,hD.2,KC,md,x,S,hm.same (λb o e=>hD.1 b o e),hp,(mV S hS).1,(mV S hS).2,λH' s=>q H' ⟨λb o e=>s _ _ (hD.1 b o e),λb o e=>s _ _ (hD.2 b o e)⟩ λb o _ e=>s _ _ e⟩
 ·exact⟨λb o e=>s _ _ (hD.1 b o e),λb o e=>s _ _ (hD.2 b o e)⟩
 ·rcases h with ⟨o,e⟩ | ⟨o,e⟩
  ·rw[hD.1 b o e];intro z;cases z
  ·rw[hD.2 b o e];intro z;cases z
 ·exact⟨λb o e=>k b o (.inl (.inl ⟨o,e⟩)) (hD.1 b o e),λb o e=>k b _ (.inl (.inr ⟨o,e⟩)) (hD.2 b o e)⟩
end
local macro_rules | `(tactic| walk_at "rd") => `(tactic| walk_at "rc")
local macro_rules | `(tactic| walk_at "rl") => `(tactic| first | (refine dA fun R hR => ?_) | walk_at "ry" | (refine Nx.to (by assumption) _ _ ?_))
theorem Mq{g:Int->Int}(g0:∀z,0<=g z){S T:List Int}(h:S.Sublist T):(S.map g).sum<=(T.map g).sum:=by
 induction h with
 | slnil=>exact Int.le_refl _
 | cons a _ ih=>rw[List.map_cons,List.sum_cons];have:=g0 a;omega
 | cons_cons a _ ih=>rw[List.map_cons,List.map_cons,List.sum_cons,List.sum_cons];omega
theorem Jh{S T:List Int}(rS:dF S)(rT:dF T)(h:aA S T=true):S.Sublist T:=by
 have e:T.filter (λz=>decide (z∈S))=S:=nY (rT.sublist List.filter_sublist) rS λz=>by
  rw[List.mem_filter,decide_eq_true_eq]
  exact⟨λh=>h.2,λhz=>⟨bx.mp h z hz,hz⟩⟩
 rw[<-e];exact List.filter_sublist
theorem Ca{H:Hp}{p:Addr}{x:List Int}{md:Md}(rx:dF x)(m:pP H p x md):kO (cD x) md.tells:=λS hS T hT hp ht=>by
 cases md with
 | wt g most=>
  obtain⟨d,ks,_,_,_,g0⟩:=m
  have:=Mq g0 (Jh (rx.sublist (iw hS)) (rx.sublist (iw hT)) hp)
  have Ov:=of_decide_eq_true ht
  exact decide_eq_true (by omega)
 | Td ss=>
  obtain⟨s,hs,e⟩:=List.any_eq_true.mp ht
  exact List.any_eq_true.mpr ⟨s,hs,bx.mpr λz hz=>bx.mp e z (bx.mp hp z hz)⟩
 | out ss=>
  have Ov:(!(ss.any λs=>aA s T))=true:=ht
  show(!(ss.any λs=>aA s S))=true
  cases e:ss.any λs=>aA s S with
  | false=>rfl
  | true=>
   obtain⟨s,hs,e⟩:=List.any_eq_true.mp e
   have e2:(ss.any λs=>aA s T)=true:=List.any_eq_true.mpr ⟨s,hs,bx.mpr λz hz=>bx.mp hp z (bx.mp e z hz)⟩
   rw[e2]at Ov
   cases Ov
theorem rN{G:List (List Int)}(up:∀s∈G,dF s){n:Nat}(hn:∀s∈G,s.length<=n):∀(k:Nat) (s:List Int),n-s.length<=k->s∈G->∃t,(t∈G/\∀y∈G,aA t y=true->y=t)/\aA s t=true
 | k,s,hk,hs=>by
  by_cases h:∀y∈G,aA s y=true->y=s
  ·exact⟨s,⟨hs,h⟩,ia s⟩
  ·obtain⟨y,hy,hp,ne⟩:∃y,y∈G/\aA s y=true/\y≠s:=by
    refine Classical.byContradiction λz=>h λy hy hp=>Classical.byContradiction λne=>z ⟨y,hy,hp,ne⟩
   have l1:=dH (up s hs) hp
   have l2:s.length≠y.length:=λe=>ne (gu (up s hs) (up y hy) hp e).symm
   have:=hn y hy
   match k with
   | 0=>exact absurd hk (by omega)
   | k+1=>
    obtain⟨t,ht,pt⟩:=rN up hn k y (by omega) hy
    exact⟨t,ht,fD hp pt⟩
theorem KR{tells:List Int->Bool}{ps as clashes:List (List Int)}(mono:kO ps tells)(Ua:∀T∈ps,det tells as T=true)(sub:∀a∈as,a∈ps)(ri:∀a∈ps,dF a)(zA:∀x,x∈clashes↔x∈as.filter (λa=>!tells a)/\∀y∈as.filter (λa=>!tells a),aA y x=true->y=x){T:List Int}(hT:T∈ps):(clashes.any λc=>aA c T) = !tells T:=by
 cases e:tells T with
 | true=>
  cases e2:clashes.any λc=>aA c T with
  | false=>rfl
  | true=>
   obtain⟨c,hc,hp⟩:=List.any_eq_true.mp e2
   have h1:=List.mem_filter.mp ((zA c).mp hc).1
   have h2:=mono c (sub c h1.1) T hT hp e
   rw[h2]at h1
   exact absurd h1.2 (by decide)
 | false=>
  obtain⟨a,ha,hc⟩:=List.any_eq_true.mp (Ua T hT)
  unfold cov at hc
  cases ea:tells a with
  | true=>
   rw[ea]at hc
   simp at hc
   rw[mono T hT a (sub a ha) hc ea]at e;cases e
  | false=>
   rw[ea]at hc
   simp at hc
   have hG:a∈as.filter λa=>!tells a:=List.mem_filter.mpr ⟨ha,by rw[ea];rfl⟩
   obtain⟨m,hm,hs⟩:=rG (G:=as.filter λa=>!tells a) (λs hs=>ri s (sub s (List.mem_filter.mp hs).1)) a.length a (Nat.le_refl _) hG
   exact List.any_eq_true.mpr ⟨m,(zA m).mpr hm,bx.mpr λz hz=>bx.mp hc z (hs z hz)⟩
theorem IK{tells:List Int->Bool}{ps as df:List (List Int)}(mono:kO ps tells)(Ua:∀T∈ps,det tells as T=true)(sub:∀a∈as,a∈ps)(ri:∀a∈ps,dF a)(zu:∀x,x∈df↔x∈as.filter tells/\∀y∈as.filter tells,aA x y=true->y=x){n:Nat}(hn:∀a∈ps,a.length<=n){T:List Int}(hT:T∈ps):(df.any λc=>aA T c)=tells T:=by
 cases e:tells T with
 | false=>
  cases e2:df.any λc=>aA T c with
  | false=>rfl
  | true=>
   obtain⟨c,hc,hp⟩:=List.any_eq_true.mp e2
   have h1:=List.mem_filter.mp ((zu c).mp hc).1
   rw[mono T hT c (sub c h1.1) hp h1.2]at e;cases e
 | true=>
  obtain⟨a,ha,hc⟩:=List.any_eq_true.mp (Ua T hT)
  unfold cov at hc
  cases ea:tells a with
  | false=>
   rw[ea]at hc
   simp at hc
   rw[mono a (sub a ha) T hT hc e]at ea;cases ea
  | true=>
   rw[ea]at hc
   simp at hc
   obtain⟨m,hm,hs⟩:=rN (G:=as.filter tells) (λs hs=>ri s (sub s (List.mem_filter.mp hs).1)) (n:=n) (λs hs=>hn s (sub s (List.mem_filter.mp hs).1)) (n-a.length) a (Nat.le_refl _) (List.mem_filter.mpr ⟨ha,ea⟩)
   exact List.any_eq_true.mpr ⟨m,(zu m).mpr hm,fD hc hs⟩
local macro_rules | `(tactic| walk_at "rd") => `(tactic| walk_at "rc")
local macro_rules | `(tactic| walk_at "rl") => `(tactic| first | (refine dA fun R hR => ?_) | walk_at "ry" | (refine Nx.to (by assumption) _ _ ?_))
def Bj(K:PySem.W.Frag)(pT pS:Addr):Sp:=λvs H Q _=>∃(a:Addr) (ns:List Int),vs=[.ref a]/\nv K H a (List.map V.int ns)/\ns.length<=63/\H pT=some (.mK #[])/\H pS=some (.mK #[])/\pT≠pS/\∀H',Q (.bl true) H'
section
variable {P:Program}{w:World}{K:PySem.W.Frag}{mg:Str->Option Value}{base:Heap}{t:qK}
theorem Si(T:Txt K mg t){c pT c1 pS:Addr}(ib:t.CW.code=.ref c)(hC:PySem.W.CodeHd base c pT)(TF:t.iT.code=.ref c1)(hC1:PySem.W.CodeHd base c1 pS)(hB:BMain mg base):bG P w K mg base eI 20 t.Lb t.CW ["_law_script"] (Bj K pT pS):=by
 have aU:=qF (P:=P) (w:=w) (base:=base) T
 have yD:=Ob (P:=P) (w:=w) (base:=base) T
 have sA:=zk (P:=P) (w:=w) (base:=base) T
 have qc:=BW (P:=P) (w:=w) (base:=base) T
 have wD:=Jo (P:=P) (w:=w) (base:=base) T
 have gy:=xt (P:=P) (w:=w) (base:=base) T
 have wC:=Et (P:=P) (w:=w) (base:=base) T
 have oJ:=Ju (P:=P) (w:=w) (base:=base) T
 have bT:=o6 (P:=P) (w:=w) (base:=base) T
 have Gg:=zj (P:=P) (w:=w) (base:=base) T TF hC1 hB
 refine T.Yu.Wh jf (λvs H Q E h=>?_) (λcB A outer s H vs Q E hcv hr h hc hf=>?_)
 ·obtain⟨a,ns,rfl,_⟩:=h;rfl
 obtain⟨a,ns,rfl,hS,h63,hT,U3,hTS,q⟩:=h
 have tK:cB=.ref c:=by rw[<-hcv];exact ib
 have hu:=kl hr
 have Lk:=hr.fk
 refine⟨_,(by apply aq;exact(aI hc jf.nd hf 1 (by decide +kernel) (aB yD (hr.mono (by omega)) (bZ hc) T.xO T.qf.kp T.yx .nil aR (ae (ao hc 0) ah)));apply aq;exact(aI hc jf.nd hf 2 (by decide +kernel) (aB sA (hr.mono (by omega)) (bZ hc) T.rC T.kR.kp T.sd .nil aR (ae (ao hc 1) (ae aj ah))));apply aq;exact(aI hc jf.nd hf 3 (by decide +kernel) (aB wD (hr.mono (by omega)) (bZ hc) T.vT T.oM.kp T.wq .nil aR (ae (ao hc 1) (ae (ao hc 2) ah))));apply aq;exact(Gx (fr:=bF) hc jf.nd hf 4 (by decide +kernel) tK hC hB rfl (by decide +kernel) (by decide +kernel) rfl rfl rfl);apply aq;exact(aI hc jf.nd hf 5 (by decide +kernel) (tX (xs:=[(3,"_law_model_here")]) (cells:=cellsFrom (s.heap.objs.size+1) (ag j6).names []) (EH:=λ_=>E0) rfl Gg.toE (hr.mono (by omega)) (bZ hc) T.Ez T.u6.kp T.Gb JK hf (JX hc (by decide +kernel)) (ae (ao hc 2) (ae (ao hc 4) ah))));apply aq;exact(bX (lK (lZ (dU (bQ (aP iV (bZ hc) T.z_isinstance fh (ae (ao hc 5) (ae (jY (v:=V.ty "tuple") (bZ hc) T.z_tuple jt rfl) ah))))) (lZ (bA BV (aP fL (bZ hc) T.z_len kE (ae (ao hc 5) ah)) aj (cF _)) (lZ (dU (bQ (aB oJ (hr.mono (by omega)) (bZ hc) T.oo T.jB.kp T.oE .nil aR (ae (bq pj (ao hc 5) aj (λ_ _=>rfl)) ah)))) (ny (dU (bQ (aB oJ (hr.mono (by omega)) (bZ hc) T.oo T.jB.kp T.oE .nil aR (ae (bq pj (ao hc 5) aj (λ_ _=>rfl)) ah))))))))) (by exact ay (aL eM)) bt);apply aq;exact(cW PassesOwn.never rfl (cp (aB wC (hr.mono (by omega)) (bZ hc) T.vS T.oK.kp T.wo .nil aR (ae (ao hc 2) ah))) (jW hc jf.nd hf 6 (by decide +kernel)) (by apply aq;exact(aI hc jf.nd hf 7 (by decide +kernel) (aP (lz hr.hd) (bZ hc) T.z_any Di (ae (cg hc ["_law_one"] [6] rfl (by decide +kernel) (cp (bq pj (ao hc 5) aj (λ_ _=>rfl))) (λ_ hc=>jX hc (by decide +kernel) 0 (by decide +kernel)) (λ_ _=>cK) (λ_ hc=>(aB bT (hr.mono (by omega)) (bZ hc) T.dg T.cC.kp T.di .nil aR (ae (ao hc 0) (ae (ao hc 1) ah))))) ah)));apply aq;exact(aI hc jf.nd hf 8 (by decide +kernel) (aP (lz hr.hd) (bZ hc) T.z_any Di (ae (cg hc ["_law_one"] [6] rfl (by decide +kernel) (cp (bq pj (ao hc 5) aj (λ_ _=>rfl))) (λ_ hc=>jX hc (by decide +kernel) 0 (by decide +kernel)) (λ_ _=>cK) (λ_ hc=>(aB bT (hr.mono (by omega)) (bZ hc) T.dg T.cC.kp T.di .nil aR (ae (ao hc 1) (ae (ao hc 0) ah))))) ah)));exact ay (bX (lK (lZ (bA n5 (ao hc 7) (aB gy (hr.mono (by omega)) (bZ hc) T.jk T.gA.kp T.jv .nil aR (ae (ao hc 3) (ae (ao hc 6) ah))) (cF _)) (ny (bA BV (ao hc 8) (aB gy (hr.mono (by omega)) (bZ hc) T.jk T.gA.kp T.jv .nil aR (ae (ao hc 3) (ae (ao hc 6) ah))) (cF _))))) (by exact ay (aL eM)) bt)));exact ay (aL eM)),?_⟩
 repeat (walk_at "rl")
 refine⟨a,ns,rfl,hS,λh H1 s1 h0 hd=>?_⟩
 repeat (walk_at "rl")
 refine⟨h,_,rfl,6,rfl,by decide,hd,λW x H4 d14 hW Xi lx rise=>?_⟩
 have Lw:=(d14.fF hd).sV Xi
 have Y4:x.Nodup:=rise.imp λh=>Int.ne_of_lt h
 repeat (walk_at "rl")
 refine⟨h,W,rfl,d14.fF hd,x,Xi,by omega,Y4,λM md H6 d5 hM md6=>?_⟩
 have d15:=d14.trans d5
 have hTh:pT≠h:=av hT h0
 have hSh:pS≠h:=av U3 h0
 have Zv:=d15.keep _ _ hTh (s1 _ _ hT)
 have Zx:=d15.keep _ _ hSh (s1 _ _ U3)
 repeat (walk_at "rl")
 refine⟨#[],Zv,trivial,rfl,λcl f c' oc wL tq ctv doc uM px inj hf0 hc0 hfc oP hq=>?_⟩
 generalize O1:PySem.W.fnMade (Str.ofString "_law_ask") _ _ _ _ cl doc _ c' ctv=fo
 have QW:lY P w K mg base 8 f (Hl f c' fo oc cl M):=by rw[<-O1];exact Pt T oP hq px inj
 have ffo:∃fd,fo.data=.func fd:=by rw[<-O1];exact⟨_,rfl⟩
 clear O1 hq oP inj
 generalize e7:made H6 pT _ c' oc f fo=H7
 have hfT:f≠pT:=(av Zv hf0).symm
 have hcT:c'≠pT:=(av Zv hc0).symm
 have at7:∀{b:Addr} {o:HO},H6 b=some o->b≠pT->H7 b=some o:=λ{b o} e nb=>by
  rw[<-e7];unfold made
  rw[au (av e hf0),au (av e hc0),au nb];exact e
 have hf7:H7 f=some (cV fo):=by rw[<-e7];exact ai
 have hc7:H7 c'=some (cV oc):=by rw[<-e7];unfold made;rw[au hfc.symm];exact ai
 clear e7
 have nT:∀{b:Addr} {o:HO},H6 b=some o->o≠.mK #[]->b≠pT:=λe n=>aW e Zv n
 obtain⟨fd,hfd⟩:=ffo
 have Zw:H7 pS=some (.mK #[]):=at7 Zx hTS.symm
 have Xh:=d5.keep _ _ Lw Xi
 have QF:H7 W=some (.tup (List.map V.int x)):=at7 Xh (nT Xh (by intro z;cases z))
 obtain⟨B,hBd⟩:∃B:Hp,∀b,B b=if b=pS then none else H7 b:=⟨_,λ_=>rfl⟩
 have hBS:B pS=none:=by rw[hBd];exact if_pos rfl
 have toB:∀{b:Addr} {o:HO},H7 b=some o->b≠pS->B b=some o:=λ{b o} e n2=>by rw[hBd,if_neg n2];exact e
 have ofB:∀b o,B b=some o->H7 b=some o:=λb o e=>by
  rw[hBd]at e
  by_cases z:b=pS
  ·rw[if_pos z]at e;cases e
  ·rw[if_neg z]at e;exact e
 have Y7:pP B M x md:=md6.move λb o e n _=>toB (at7 e (nT e (n _))) (aW e Zx (n _))
 have hfB:B f=some (cV fo):=toB hf7 (av Zx hf0).symm
 have hcB:B c'=some (cV oc):=toB hc7 (av Zx hc0).symm
 obtain⟨dom,mV⟩:∃dom:List Int->Prop,∀s,dom s↔s.Sublist x:=⟨_,λ_=>Iff.rfl⟩
 have aCx:∀T,dom T->T.length<=100/\∀z∈T,z∈x:=λT hT=>⟨by have:=((mV T).mp hT).length_le;omega,λz hz=>((mV T).mp hT).subset hz⟩
 repeat (walk_at "rl")
 refine⟨λq hq=>?_,λC ca po=>?_⟩
 ·rw[List.mem_singleton.mp hq];exact⟨_,rfl⟩
 have KC:CellsOk C cl bF [.ref M]:=λj y hj=>by
  match j,hj with
  | 0,hj=>
   cases hj
   obtain⟨c1,o,u,v',h1,h2,h3,h4,h5⟩:=ca _ (List.mem_singleton.mpr rfl)
   obtain⟨c2,g1,g2⟩:=uM _ (List.mem_singleton.mpr rfl)
   have:c1=c2:=Option.some.inj (h1.symm.trans g1)
   subst this
   cases h4
   exact⟨c1,o,u,_,g2,h2,h3,rfl,h5⟩
  | _+1,hj=>cases hj
 have ak:=PB (P:=P) (w:=w) (base:=base) hfd QW KC aCx hfB hcB Y7
 have sC:bD H7 (dQ C H7):=u0 po
 have U5:Yx B C () (dQ C H7):=⟨λb o e=>sC _ _ (ofB b o e),cS.added⟩
 refine⟨W,f,rfl,_,_,_,_,_,_,dom,md.tells,(),x,#[],ak,U5,λ_ _=>trivial,sC _ _ QF,rise,by omega,λT hT=>(mV T).mpr hT,Ca rise Y7,sC _ _ Zw,trivial,rfl,?_,λr H8 LC LP LA cs qs bs clashes df as ps hr8 yK sc Kf sq Xo sb ZJ k8 zA zu YZ pwp aDz J1 tu wx nda Hb=>?_⟩
 ·rintro(⟨o,z⟩ | ⟨o,z⟩)
  ·rw[hBS]at z;cases z
  ·rw[po _ _ z]at Zw;cases Zw
 have pin:=ZJ.2
 have out:∀{b:Addr} {o:HO},H8 b=some o->(∀o',o≠cV o')->bh C H8 b=some o:=λe n=>by rw[aQ (pin.out e n)];exact e
 have k9:∀{b:Addr} {o:HO},H7 b=some o->(∀tb,o≠.mK tb)->(∀o',o≠cV o')->bh C H8 b=some o:=λ{b o} e n1 n2=>out (k8 b o (λz=>z) (aW e Zw (n1 _)) (sC _ _ e)) n2
 have Zu:bh C H8 W=some (.tup (List.map V.int x)):=k9 QF (by intro o z;cases z) (by intro o z;cases z)
 have md9:pP (bh C H8) M x md:=Y7.move λb o e n1 n2=>k9 (ofB b o e) n1 n2
 have UJ:=out hr8 (by intro o z;cases z)
 have T2:=out yK (by intro o z;cases z)
 have TY:=out Kf (by intro o z;cases z)
 have YH:aF (bh C H8) cs clashes:=sc.mono λb xs e=>out e (by intro o z;cases z)
 have YG:aF (bh C H8) qs df:=sq.mono λb xs e=>out e (by intro o z;cases z)
 dsimp only
 generalize bh C H8=H9 at Zu md9 UJ T2 TY YH YG ⊢
 clear sc sq sb yK Kf Xo hr8 out k8 U5 ak pin k9
 have RL:∀{S:List Int},S∈ps↔S.Sublist x:=λ{S}=>by rw[J1];exact ud
 have riP:∀a∈ps,dF a:=λa ha=>rise.sublist (RL.mp ha)
 have Y9:∀a∈ps,a.length<=6:=λa ha=>Nat.le_trans (RL.mp ha).length_le lx
 have xH:kO ps md.tells:=λS hS T' Xj=>Ca rise Y7 S ((J1 S).mp hS) T' ((J1 T').mp Xj)
 have Oi:as.length<=64:=by
  have h1:=du nda λs hs=>(J1 s).mp (Hb s hs)
  rw[gB]at h1
  have h2:2 ^ x.length<=2 ^ 6:=Nat.pow_le_pow_right (by decide) lx
  omega
 have Y5:∀{l:List (List Int)},l.Pairwise (λa b=>bU a b=true)->l.Nodup:=λh=>h.imp λe z=>by rw[z,uj]at e;cases e
 have inC:∀{s:List Int},s∈clashes->s∈as:=λhs=>(List.mem_filter.mp ((zA _).mp hs).1).1
 have inP:∀{s:List Int},s∈df->s∈as:=λhs=>(List.mem_filter.mp ((zu _).mp hs).1).1
 have lcl:clashes.length<=64:=Nat.le_trans (du (Y5 YZ) λs hs=>inC hs) Oi
 have lpe:df.length<=64:=Nat.le_trans (du (Y5 pwp) λs hs=>inP hs) Oi
 have lcs:=YH.1
 have lqs:=YG.1
 repeat (first | walk_at "rl" | simp only[UJ])
 refine⟨_,.tup UJ,true,oq _ _,?_⟩
 rw[if_neg (by decide)]
 rw[if_neg (by simp)]
 have ap:∀{fam:List (List Int)},fam.Pairwise (λa b=>bU a b=true)->(∀{s},s∈fam->s∈as)->∀s∈fam,dF s/\s.length<=100:=λpw h s hs=>⟨riP s (Hb s (h hs)),by have:=Y9 s (Hb s (h hs));omega⟩
 refine⟨LC,rfl,cs,clashes,T2,YH,by omega,ap YZ inC,Y5 YZ,λs hs r hr hp=>((zA r).mp hr).2 s ((zA s).mp hs).1 hp,λQZ Lh=>⟨_,rfl,?_⟩⟩
 rw[if_neg (by decide)]
 refine⟨_,Lh _ _ UJ,.ref LP,rfl,LP,rfl,qs,df,Lh _ _ TY,YG.mono λb xs e=>Lh _ _ e,by omega,ap pwp inP,Y5 pwp,λs hs r hr hp=>(((zu s).mp hs).2 r ((zu r).mp hr).1 hp).symm,λZ5 Ei=>⟨_,rfl,?_⟩⟩
 rw[if_neg (by decide)]
 have VM:=Lh.trans Ei
 repeat (walk_at "rl")
 refine⟨W,rfl,x,VM _ _ Zu,lx,Y4,λDP Yt Yh ts YT hDP QJ VB mts pts=>?_⟩
 have aAB:=VM.trans YT
 have aDC:=VB.1
 repeat (walk_at "rl")
 refine⟨⟨_,aV QJ⟩,?_⟩
 obtain⟨Pv,cH⟩:∃Pv:Nat->St->Hp->Prop,∀i σ' H',Pv i σ' H'↔∃z1 z2 z3:Option V,σ'=[some (.ref a),some (.ref h),some (.ref W),some (.ref M),some (.ref f),some (.ref r),z1,z2,z3]/\bD Yt H':=⟨_,λ_ _ _=>Iff.rfl⟩
 refine dN (xs:=List.map V.ref Yh) Pv ((cH _ _ _).mpr ⟨none,none,none,rfl,λ_ _ e=>e⟩) (λi σ' H' _ pv=>?_) (λi z σ' H' hz pv=>?_) (λσ' H' pv=>?_)
 ·obtain⟨_,_,_,_,s⟩:=(cH _ _ _).mp pv
  exact s _ _ QJ
 ·obtain⟨z1,z2,z3,rfl,M5⟩:=(cH _ _ _).mp pv
  obtain⟨b,eb,rfl⟩:=dG hz
  have hi:i<Yh.length:=(List.getElem?_eq_some_iff.mp eb).1
  have et:ts[i]?=some (ts[i]'(by omega)):=List.getElem?_eq_getElem _
  have hb:=M5 _ _ (VB.2 i b _ eb et)
  have J7:ts[i]'(by omega)∈ps:=(J1 _).mpr ((mts _).mp (List.getElem_mem _))
  generalize ts[i]'(by omega)=S at hb J7
  have M4:=aAB.trans M5
  have aCa:=M4 _ _ UJ
  repeat (first | walk_at "rl" | simp only[aCa])
  have Xq:=M4 _ _ T2
  refine⟨⟨_,aV Xq⟩,?_⟩
  refine dk (zs:=List.map V.ref cs) (λj=>clashes[j]?.map λc=>V.bl (aA c S)) (λ_=>Ge) (λ_ _ _ _ _ _ r=>r) (λ_ _ _ _ _ _ _ r=>r) Xq (by rw[List.length_map];omega) (λDD c H4 j z yes no hj s4 Ki Kh dv tH=>?_) (λD H14 vs Gm hD uN rl=>?_)
  ·obtain⟨b',eb,rfl⟩:=dG hj
   have Fs:j<cs.length:=(List.getElem?_eq_some_iff.mp eb).1
   have es:clashes[j]?=some (clashes[j]'(by omega)):=List.getElem?_eq_getElem _
   have TL:=s4 _ _ (M4 _ _ (YH.2 j b' _ eb es))
   have l4:=(ap YZ inC _ (List.mem_of_getElem? es)).2
   rw[es]at dv
   walk_at "rc"
   repeat (walk_at "rl")
   exact⟨b',b,rfl,_,S,TL,s4 _ _ hb,by omega,λH5 s5=>dv _ rfl _ _ s5 rfl⟩
  have ev:=nI rl
  rw[List.length_map,lcs,km (l:=clashes) (g:=λc=>V.bl (aA c S)) λk hk=>by rw[List.getElem?_eq_getElem hk];rfl]at ev
  subst ev
  refine⟨D,rfl,clashes.map λc=>aA c S,by rw[uN,List.map_map];rfl,?_⟩
  rw[show(clashes.map λc=>aA c S).any id = !md.tells S by rw[List.any_map];exact KR xH wx Hb riP zA J7]
  have M3:=M4.trans Gm
  have aB9:=M3 _ _ UJ
  have Xp:=M3 _ _ TY
  repeat (first | walk_at "rl" | simp only[aB9])
  refine⟨⟨_,aV Xp⟩,?_⟩
  refine dk (zs:=List.map V.ref qs) (λj=>df[j]?.map λc=>V.bl (aA S c)) (λ_=>Ge) (λ_ _ _ _ _ _ r=>r) (λ_ _ _ _ _ _ _ r=>r) Xp (by rw[List.length_map];omega) (λDD c H4 j z yes no hj s4 Ki Kh dv tH=>?_) (λD2 H15 vs s15 v5 Kj rl2=>?_)
  ·obtain⟨b',eb,rfl⟩:=dG hj
   have Fs:j<qs.length:=(List.getElem?_eq_some_iff.mp eb).1
   have es:df[j]?=some (df[j]'(by omega)):=List.getElem?_eq_getElem _
   have TL:=s4 _ _ (M3 _ _ (YG.2 j b' _ eb es))
   have l4:=Y9 S J7
   rw[es]at dv
   walk_at "rc"
   repeat (walk_at "rl")
   exact⟨b,b',rfl,S,_,s4 _ _ (Gm _ _ hb),TL,by omega,λH5 s5=>dv _ rfl _ _ s5 rfl⟩
  have ev:=nI rl2
  rw[List.length_map,lqs,km (l:=df) (g:=λc=>V.bl (aA S c)) λk hk=>by rw[List.getElem?_eq_getElem hk];rfl]at ev
  subst ev
  refine⟨D2,rfl,df.map λc=>aA S c,by rw[Kj,List.map_map];rfl,?_⟩
  rw[show(df.map λc=>aA S c).any id=md.tells S by rw[List.any_map];exact IK xH wx Hb riP zu Y9 J7]
  have VL:=M3.trans s15
  have l4:=Y9 S J7
  have sx:∀z∈S,z∈x:=λz hz=>(RL.mp J7).subset hz
  repeat (walk_at "rl")
  have VN:=(M5.trans Gm).trans s15
  have Xe:=s15 _ _ (Gm _ _ hb)
  refine⟨M,b,rfl,md,x,S,md9.same VL,Xe,by omega,sx,λH16 s16=>⟨rfl,?_⟩⟩
  rw[if_neg (by intro z;injection z with z;cases e:md.tells S <;> rw[e]at z <;> cases z)]
  refine⟨M,b,rfl,md,x,S,md9.same (VL.trans s16),s16 _ _ Xe,by omega,sx,λH17 s17=>⟨rfl,?_⟩⟩
  rw[if_neg (by simp)]
  exact(cH _ _ _).mpr ⟨_,_,_,rfl,(VN.trans s16).trans s17⟩
 ·obtain⟨_,_,_,rfl,s⟩:=(cH _ _ _).mp pv
  repeat (walk_at "rl")
  exact q _
end
local macro_rules | `(tactic| walk_at "rd") => `(tactic| walk_at "rc")
local macro_rules | `(tactic| walk_at "rl") => `(tactic| first | (refine dA fun R hR => ?_) | walk_at "ry" | (refine Nx.to (by assumption) _ _ ?_))
theorem all_mk{l:PySem.W.OpenLaw}{w:World}{K:PySem.W.Frag}{h:Heap}{mg:Str->Option Value}{fa f0 f1 f2 f3 f4 f5 f6 f7 f8 f9 f10 f11 f12 f13 f14 f15 f16 f17 f18 f19 f20 f21 f22 f23 f24 f25 f26 f27:Addr}(X:K.In h)(G:h.Ns mainGlobals mg)(hfa:mg "law" = some (.ref fa))
  {od0 an0 od1 an1 od2 an2 od3 an3 od4 an4 od5 an5 od6 an6 od7 an7 od8 an8 od9 an9 aBg aDo aBf aDn aBe aDm aBd aDl aBb aDk aBa aDj aA9 aDi aA8 aDh aA7 aDg aA6 aDf aA5 aDe aA4 aDd aA3 aDc aA2 aDb aA1 aDa aA0 aC9 aAZ aC8 aAY Yn:Option Addr} {sl0 sl1 Ed sl3 sl4 sl5 sl6 sl7 sl8 sl9 aAz aAy aAx aAw aAv aAu aAt aAs aAr aAq aAp aAo aAn aAm aAl aAk aAj aAi:Array (Option Value)} {oc0 kV0 dc0 pm0 cd0 ct0 oc1 kV1 dc1 pm1 cd1 ct1 oc2 kV2 dc2 pm2 cd2 ct2 oc3 kV3 dc3 pm3 cd3 ct3 oc4 kV4 dc4 pm4 cd4 ct4 oc5 kV5 dc5 pm5 cd5 ct5 oc6 kV6 dc6 pm6 cd6 ct6 oc7 kV7 dc7 pm7 cd7 ct7 oc8 kV8 dc8 pm8 cd8 ct8 oc9 kV9 dc9 pm9 cd9 ct9 aBz aBY aCO aAW Ye aC6 aBy aBX aCN aAV Yd aC5 aBx aBW aCM aAU aC4 aBw aBV aCL aAT Yc aC3 aBv aBU aCK aAS Yb aC2 aBu aBT aCJ aAR X9 aC1 aBt aBS aCI aAQ X8 aC0 aBs aBR aCH aAP X7 aCZ aBr aBQ aCG aAO X6 aCY aBq aBP aCF aAN X5 aCX aBp aBO aCE aAM X4 aCW aBo aBN aCD aAL X3 aCV aBn aBM aCC aAK X1 aCU aBm aBL aCB aAJ XZ aCT aBl aBK aCA aAI XT aCS aBk aBJ aCz aAH XS aCR aBj aBI aCy aAG XR aCQ aBi Wr XH V6 XJ:Value}
  {cC_law pT_law:Addr} (T4:PySem.W.codeHdIn K cC_law pT_law=true)
  {cC_sounded pT_sounded:Addr} (z5:PySem.W.codeHdIn K cC_sounded pT_sounded=true)
  (a0:PySem.W.nsIn K mainGlobals "each_once_in_order" = some (some (.ref f0))) (l0:K.lookup f0=some ⟨oc0,od0,.func (PySem.W.fnOf "each_once_in_order" "each_once_in_order" (aN bH) (aH bH) (ag bH) .none kV0 dc0 pm0 an0 cd0 ct0),sl0⟩) (c0:PySem.W.codeIn K cd0 "each_once_in_order" = true) (k0:PySem.W.keepIn K (.ref f0)=true)
  (a1:PySem.W.nsIn K mainGlobals "order_of" = some (some (.ref f1))) (l1:K.lookup f1=some ⟨oc1,od1,.func (PySem.W.fnOf "order_of" "order_of" (aN fw) (aH fw) (ag fw) .none kV1 dc1 pm1 an1 cd1 ct1),sl1⟩) (c1:PySem.W.codeIn K cd1 "order_of" = true) (k1:PySem.W.keepIn K (.ref f1)=true)
  (a2:PySem.W.nsIn K mainGlobals "set_of" = some (some (.ref f2))) (l2:K.lookup f2=some ⟨oc2,od2,.func (PySem.W.fnOf "set_of" "set_of" (aN iL) (aH iL) (ag iL) .none kV2 dc2 pm2 an2 cd2 ct2),Ed⟩) (c2:PySem.W.codeIn K cd2 "set_of" = true) (k2:PySem.W.keepIn K (.ref f2)=true)
  (a3:PySem.W.nsIn K mainGlobals "is_part" = some (some (.ref f3))) (l3:K.lookup f3=some ⟨oc3,od3,.func (PySem.W.fnOf "is_part" "is_part" (aN gD) (aH gD) (ag gD) .none kV3 dc3 pm3 an3 cd3 ct3),sl3⟩) (c3:PySem.W.codeIn K cd3 "is_part" = true) (k3:PySem.W.keepIn K (.ref f3)=true)
  (a4:PySem.W.nsIn K mainGlobals "in_order" = some (some (.ref f4))) (l4:K.lookup f4=some ⟨oc4,od4,.func (PySem.W.fnOf "in_order" "in_order" (aN fA) (aH fA) (ag fA) .none kV4 dc4 pm4 an4 cd4 ct4),sl4⟩) (c4:PySem.W.codeIn K cd4 "in_order" = true) (k4:PySem.W.keepIn K (.ref f4)=true)
  (a5:PySem.W.nsIn K mainGlobals "least_of" = some (some (.ref f5))) (l5:K.lookup f5=some ⟨oc5,od5,.func (PySem.W.fnOf "least_of" "least_of" (aN fz) (aH fz) (ag fz) .none kV5 dc5 pm5 an5 cd5 ct5),sl5⟩) (c5:PySem.W.codeIn K cd5 "least_of" = true) (k5:PySem.W.keepIn K (.ref f5)=true)
  (a6:PySem.W.nsIn K mainGlobals "greatest_of" = some (some (.ref f6))) (l6:K.lookup f6=some ⟨oc6,od6,.func (PySem.W.fnOf "greatest_of" "greatest_of" (aN dw) (aH dw) (ag dw) .none kV6 dc6 pm6 an6 cd6 ct6),sl6⟩) (c6:PySem.W.codeIn K cd6 "greatest_of" = true) (k6:PySem.W.keepIn K (.ref f6)=true)
  (a7:PySem.W.nsIn K mainGlobals "holds_one_of" = some (some (.ref f7))) (l7:K.lookup f7=some ⟨oc7,od7,.func (PySem.W.fnOf "holds_one_of" "holds_one_of" (aN dc) (aH dc) (ag dc) .none kV7 dc7 pm7 an7 cd7 ct7),sl7⟩) (c7:PySem.W.codeIn K cd7 "holds_one_of" = true) (k7:PySem.W.keepIn K (.ref f7)=true)
  (a8:PySem.W.nsIn K mainGlobals "lies_in_one_of" = some (some (.ref f8))) (l8:K.lookup f8=some ⟨oc8,od8,.func (PySem.W.fnOf "lies_in_one_of" "lies_in_one_of" (aN cx) (aH cx) (ag cx) .none kV8 dc8 pm8 an8 cd8 ct8),sl8⟩) (c8:PySem.W.codeIn K cd8 "lies_in_one_of" = true) (k8:PySem.W.keepIn K (.ref f8)=true)
  (a9:PySem.W.nsIn K mainGlobals "rest_of" = some (some (.ref f9))) (l9:K.lookup f9=some ⟨oc9,od9,.func (PySem.W.fnOf "rest_of" "rest_of" (aN gC) (aH gC) (ag gC) .none kV9 dc9 pm9 an9 cd9 ct9),sl9⟩) (c9:PySem.W.codeIn K cd9 "rest_of" = true) (k9:PySem.W.keepIn K (.ref f9)=true)
  (a10:PySem.W.nsIn K mainGlobals "parts_of" = some (some (.ref f10))) (l10:K.lookup f10=some ⟨aBz,aBg,.func (PySem.W.fnOf "parts_of" "parts_of" (aN fu) (aH fu) (ag fu) .none aBY aCO aAW aDo Ye aC6),aAz⟩) (c10:PySem.W.codeIn K Ye "parts_of" = true) (k10:PySem.W.keepIn K (.ref f10)=true)
  (a11:PySem.W.nsIn K mainGlobals "grown" = some (some (.ref f11))) (l11:K.lookup f11=some ⟨aBy,aBf,.func (PySem.W.fnOf "grown" "grown" (aN kY) (aH kY) (ag kY) .none aBX aCN aAV aDn Yd aC5),aAy⟩) (c11:PySem.W.codeIn K Yd "grown" = true) (k11:PySem.W.keepIn K (.ref f11)=true)
  (a12:PySem.W.nsIn K mainGlobals "sounded" = some (some (.ref f12))) (l12:K.lookup f12=some ⟨aBx,aBe,.func (PySem.W.fnOf "sounded" "sounded" (aN bB) (aH bB) (ag bB) .none aBW aCM aAU aDm (.ref cC_sounded) aC4),aAx⟩) (c12:PySem.W.codeIn K (.ref cC_sounded) "sounded" = true) (k12:PySem.W.keepIn K (.ref f12)=true)
  (a13:PySem.W.nsIn K mainGlobals "_law_hand" = some (some (.ref f13))) (l13:K.lookup f13=some ⟨aBw,aBd,.func (PySem.W.fnOf "_law_hand" "_law_hand" (aN eU) (aH eU) (ag eU) .none aBV aCL aAT aDl Yc aC3),aAw⟩) (c13:PySem.W.codeIn K Yc "_law_hand" = true) (k13:PySem.W.keepIn K (.ref f13)=true)
  (a14:PySem.W.nsIn K mainGlobals "_law_next" = some (some (.ref f14))) (l14:K.lookup f14=some ⟨aBv,aBb,.func (PySem.W.fnOf "_law_next" "_law_next" (aN eR) (aH eR) (ag eR) .none aBU aCK aAS aDk Yb aC2),aAv⟩) (c14:PySem.W.codeIn K Yb "_law_next" = true) (k14:PySem.W.keepIn K (.ref f14)=true)
  (a15:PySem.W.nsIn K mainGlobals "_law_take" = some (some (.ref f15))) (l15:K.lookup f15=some ⟨aBu,aBa,.func (PySem.W.fnOf "_law_take" "_law_take" (aN eO) (aH eO) (ag eO) .none aBT aCJ aAR aDj X9 aC1),aAu⟩) (c15:PySem.W.codeIn K X9 "_law_take" = true) (k15:PySem.W.keepIn K (.ref f15)=true)
  (a16:PySem.W.nsIn K mainGlobals "_law_draw" = some (some (.ref f16))) (l16:K.lookup f16=some ⟨aBt,aA9,.func (PySem.W.fnOf "_law_draw" "_law_draw" (aN eV) (aH eV) (ag eV) .none aBS aCI aAQ aDi X8 aC0),aAt⟩) (c16:PySem.W.codeIn K X8 "_law_draw" = true) (k16:PySem.W.keepIn K (.ref f16)=true)
  (a17:PySem.W.nsIn K mainGlobals "_law_is_within" = some (some (.ref f17))) (l17:K.lookup f17=some ⟨aBs,aA8,.func (PySem.W.fnOf "_law_is_within" "_law_is_within" (aN cy) (aH cy) (ag cy) .none aBR aCH aAP aDh X7 aCZ),aAs⟩) (c17:PySem.W.codeIn K X7 "_law_is_within" = true) (k17:PySem.W.keepIn K (.ref f17)=true)
  (a18:PySem.W.nsIn K mainGlobals "_law_is_whole" = some (some (.ref f18))) (l18:K.lookup f18=some ⟨aBr,aA7,.func (PySem.W.fnOf "_law_is_whole" "_law_is_whole" (aN cL) (aH cL) (ag cL) .none aBQ aCG aAO aDg X6 aCY),aAr⟩) (c18:PySem.W.codeIn K X6 "_law_is_whole" = true) (k18:PySem.W.keepIn K (.ref f18)=true)
  (a19:PySem.W.nsIn K mainGlobals "_law_is_set" = some (some (.ref f19))) (l19:K.lookup f19=some ⟨aBq,aA6,.func (PySem.W.fnOf "_law_is_set" "_law_is_set" (aN dy) (aH dy) (ag dy) .none aBP aCF aAN aDf X5 aCX),aAq⟩) (c19:PySem.W.codeIn K X5 "_law_is_set" = true) (k19:PySem.W.keepIn K (.ref f19)=true)
  (a20:PySem.W.nsIn K mainGlobals "_law_members" = some (some (.ref f20))) (l20:K.lookup f20=some ⟨aBp,aA5,.func (PySem.W.fnOf "_law_members" "_law_members" (aN de) (aH de) (ag de) .none aBO aCE aAM aDe X4 aCW),aAp⟩) (c20:PySem.W.codeIn K X4 "_law_members" = true) (k20:PySem.W.keepIn K (.ref f20)=true)
  (a21:PySem.W.nsIn K mainGlobals "_law_some" = some (some (.ref f21))) (l21:K.lookup f21=some ⟨aBo,aA4,.func (PySem.W.fnOf "_law_some" "_law_some" (aN eQ) (aH eQ) (ag eQ) .none aBN aCD aAL aDd X3 aCV),aAo⟩) (c21:PySem.W.codeIn K X3 "_law_some" = true) (k21:PySem.W.keepIn K (.ref f21)=true)
  (a22:PySem.W.nsIn K mainGlobals "_law_model" = some (some (.ref f22))) (l22:K.lookup f22=some ⟨aBn,aA3,.func (PySem.W.fnOf "_law_model" "_law_model" (aN er) (aH er) (ag er) .none aBM aCC aAK aDc X1 aCU),aAn⟩) (c22:PySem.W.codeIn K X1 "_law_model" = true) (k22:PySem.W.keepIn K (.ref f22)=true)
  (a23:PySem.W.nsIn K mainGlobals "_law_tells" = some (some (.ref f23))) (l23:K.lookup f23=some ⟨aBm,aA2,.func (PySem.W.fnOf "_law_tells" "_law_tells" (aN dY) (aH dY) (ag dY) .none aBL aCB aAJ aDb XZ aCT),aAm⟩) (c23:PySem.W.codeIn K XZ "_law_tells" = true) (k23:PySem.W.keepIn K (.ref f23)=true)
  (a24:PySem.W.nsIn K mainGlobals "_law_in_order" = some (some (.ref f24))) (l24:K.lookup f24=some ⟨aBl,aA1,.func (PySem.W.fnOf "_law_in_order" "_law_in_order" (aN cM) (aH cM) (ag cM) .none aBK aCA aAI aDa XT aCS),aAl⟩) (c24:PySem.W.codeIn K XT "_law_in_order" = true) (k24:PySem.W.keepIn K (.ref f24)=true)
  (a25:PySem.W.nsIn K mainGlobals "_law_parts" = some (some (.ref f25))) (l25:K.lookup f25=some ⟨aBk,aA0,.func (PySem.W.fnOf "_law_parts" "_law_parts" (aN dZ) (aH dZ) (ag dZ) .none aBJ aCz aAH aC9 XS aCR),aAk⟩) (c25:PySem.W.codeIn K XS "_law_parts" = true) (k25:PySem.W.keepIn K (.ref f25)=true)
  (a26:PySem.W.nsIn K mainGlobals "_law_apart" = some (some (.ref f26))) (l26:K.lookup f26=some ⟨aBj,aAZ,.func (PySem.W.fnOf "_law_apart" "_law_apart" (aN eB) (aH eB) (ag eB) .none aBI aCy aAG aC8 XR aCQ),aAj⟩) (c26:PySem.W.codeIn K XR "_law_apart" = true) (k26:PySem.W.keepIn K (.ref f26)=true)
  (a27:PySem.W.nsIn K mainGlobals "law" = some (some (.ref f27))) (l27:K.lookup f27=some ⟨aBi,aAY,.func (PySem.W.fnOf "law" "law" (aN j6) (aH j6) (ag j6) .none Wr XH V6 Yn (.ref cC_law) XJ),aAi⟩) (c27:PySem.W.codeIn K (.ref cC_law) "law" = true) (k27:PySem.W.keepIn K (.ref f27)=true)
  (z_abs:PySem.W.nsIn K mainGlobals "abs" = some none)
  (z_all:PySem.W.nsIn K mainGlobals "all" = some none)
  (z_any:PySem.W.nsIn K mainGlobals "any" = some none)
  (z_bool:PySem.W.nsIn K mainGlobals "bool" = some none)
  (z_int:PySem.W.nsIn K mainGlobals "int" = some none)
  (z_isinstance:PySem.W.nsIn K mainGlobals "isinstance" = some none)
  (z_len:PySem.W.nsIn K mainGlobals "len" = some none)
  (z_list:PySem.W.nsIn K mainGlobals "list" = some none)
  (z_range:PySem.W.nsIn K mainGlobals "range" = some none)
  (z_reversed:PySem.W.nsIn K mainGlobals "reversed" = some none)
  (z_set:PySem.W.nsIn K mainGlobals "set" = some none)
  (z_sorted:PySem.W.nsIn K mainGlobals "sorted" = some none)
  (z_sum:PySem.W.nsIn K mainGlobals "sum" = some none)
  (z_tuple:PySem.W.nsIn K mainGlobals "tuple" = some none)
  (cx7:PySem.W.specialIn K (.builtin "object.__class__") "__get__" = some (some (.builtin "getset_descriptor.__get__"))) (cx8:PySem.W.takesIn K (.builtin "object.__class__")=some true)
  {aK aS:Addr}
  {aZ:Addr} {xW yb:Option Addr} {xT:Array (Option Value)} {xX x6 x8 xV p5 x9:Value}
  (am_TruceError:PySem.W.nsIn K mainGlobals "TruceError" = some (some (.ref aK))) (x1_TruceError:qM K aK=true) (x2_TruceError:PySem.W.hasDictIn K aK=true) (x3_TruceError:PySem.W.findIn K (.ref aK) "__setattr__" = some (some (.builtin "object.__setattr__"))) (x4_TruceError:PySem.W.findIn K (.ref aK) "__getattribute__" = some (some (.builtin "BaseException.__getattribute__"))) (x5_TruceError:PySem.W.findIn K (.ref aK) "__getattr__" = some none) (x6_TruceError:PySem.W.findIn K (.ref aK) "__class__" = some (some (.builtin "object.__class__"))) (x9_TruceError:PySem.W.mroIn K aK (.type "object")=some true)
  (am_NoPeace:PySem.W.nsIn K mainGlobals "NoPeace" = some (some (.ref aS))) (x1_NoPeace:qM K aS=true) (x2_NoPeace:PySem.W.hasDictIn K aS=true) (x3_NoPeace:PySem.W.findIn K (.ref aS) "__setattr__" = some (some (.builtin "object.__setattr__"))) (x4_NoPeace:PySem.W.findIn K (.ref aS) "__getattribute__" = some (some (.builtin "BaseException.__getattribute__"))) (x5_NoPeace:PySem.W.findIn K (.ref aS) "__getattr__" = some none) (x6_NoPeace:PySem.W.findIn K (.ref aS) "__class__" = some (some (.builtin "object.__class__"))) (x9_NoPeace:PySem.W.mroIn K aS (.type "object")=some true)
  (kc_TruceError:PySem.W.keepIn K (.ref aK)=true)
  (ii_TruceError:PySem.W.findIn K (.ref aK) "__init__" = some (some (.builtin "ValueError.__init__")))
  (rd_TruceError:PySem.W.readsIn K aK (.type "type")=true)
  (fc_TruceError:PySem.W.findCls K (.ref aK) (.type "type") "__init__" = some (.val (.builtin "ValueError.__init__")))
  (sg_TruceError:PySem.W.specialIn K (.ref aK) "__getattribute__" = some (some (.builtin "type.__getattribute__")))
  (kc_NoPeace:PySem.W.keepIn K (.ref aS)=true)
  (il_NoPeace:K.lookup aZ=some ⟨xX,xW,.func (PySem.W.fnOf "__init__" "NoPeace.__init__" (aN bS) (aH bS) (ag bS) .none x6 x8 xV yb p5 x9),xT⟩) (ic_NoPeace:PySem.W.codeIn K p5 "NoPeace.__init__" = true) (ik_NoPeace:PySem.W.keepIn K (.ref aZ)=true)
  (ii_NoPeace:PySem.W.findIn K (.ref aS) "__init__" = some (some (.ref aZ)))
  (if_NoPeace:PySem.W.typeIn K (.ref aZ)=some (.type "function"))
  (tk_NoPeace:PySem.W.takerIn K aS "part" = some none)
  (nf_NoPeace:PySem.W.findIn K (.ref aS) "part" = some none)
  {az:Addr} {bj:Addr} {bJ:Addr} {bK:Addr}
  (pm_Sounding:PySem.W.nsIn K mainGlobals "Sounding" = some (some (.ref az)))
  (p1_Sounding:PySem.W.plainGet K az Str.empty=true)
  (p2_Sounding:PySem.W.hasDictIn K az=true)
  (p3_Sounding:PySem.W.plainOver K az=true)
  (p4_Sounding:PySem.W.findIn K (.ref az) "__setattr__" = some (some (.builtin "object.__setattr__")))
  (pn_Sounding_ask:PySem.W.findIn K (.ref az) "ask" = some none)
  (pn_Sounding_askings:PySem.W.findIn K (.ref az) "askings" = some none)
  (pn_Sounding_known:PySem.W.findIn K (.ref az) "known" = some none)
  (pn_Sounding_unknown:PySem.W.findIn K (.ref az) "unknown" = some none)
  (q1_Sounding:PySem.W.makesIn K az=true)
  (q2_Sounding:PySem.W.findIn K (.ref az) "__init__" = some (some (.ref bj)))
  (q3_Sounding:PySem.W.isFn K (.ref bj)=true)
  (q4_Sounding:PySem.W.keepIn K (.ref az)=true)
  {jL jQ:Option Addr} {jJ:Array (Option Value)} {jM jN jO jK fj jP:Value}
  (pl_Sounding___init__:K.lookup bj=some ⟨jM,jL,.func (PySem.W.fnOf "__init__" "Sounding.__init__" (aN bO) (aH bO) (ag bO) .none jN jO jK jQ fj jP),jJ⟩)
  (pc_Sounding___init__:PySem.W.codeIn K fj "Sounding.__init__" = true)
  (pk_Sounding___init__:PySem.W.keepIn K (.ref bj)=true)
  (r1_Sounding_tells:PySem.W.findIn K (.ref az) "tells" = some (some (.ref bJ)))
  (r2_Sounding_tells:PySem.W.isFn K (.ref bJ)=true)
  {mq mH:Option Addr} {mh:Array (Option Value)} {my mB mD ml gH mF:Value}
  (pl_Sounding_tells:K.lookup bJ=some ⟨my,mq,.func (PySem.W.fnOf "tells" "Sounding.tells" (aN cz) (aH cz) (ag cz) .none mB mD ml mH gH mF),mh⟩)
  (pc_Sounding_tells:PySem.W.codeIn K gH "Sounding.tells" = true)
  (pk_Sounding_tells:PySem.W.keepIn K (.ref bJ)=true)
  (r1_Sounding_learn:PySem.W.findIn K (.ref az) "learn" = some (some (.ref bK)))
  (r2_Sounding_learn:PySem.W.isFn K (.ref bK)=true)
  {mw mJ:Option Addr} {mj:Array (Option Value)} {mz mC mE mn gI mG:Value}
  (pl_Sounding_learn:K.lookup bK=some ⟨mz,mw,.func (PySem.W.fnOf "learn" "Sounding.learn" (aN cA) (aH cA) (ag cA) .none mC mE mn mJ gI mG),mj⟩)
  (pc_Sounding_learn:PySem.W.codeIn K gI "Sounding.learn" = true)
  (pk_Sounding_learn:PySem.W.keepIn K (.ref bK)=true)
  : ∃fd:FuncData,(∀(s:Shared) (v:Value),BindsTo s fd ⟨[v],[]⟩ [("_law_script",v)])/\∀base:Heap,K.In base->base.Ns mainGlobals mg->BMain mg base->bG l.prog w K mg base eI 20 fa fd ["_law_script"] (Bj K pT_law pT_sounded):=by
 have e:=hfa.symm.trans (PySem.W.mg_of X G a27)
 cases e
 have F0:=bC (st:=bH) l0 c0 k0
 have b0:=F0.binds (ps:=["tuples"]) λ_ _ _ _ _ _=>yG λ_=>rfl
 have F1:=bC (st:=fw) l1 c1 k1
 have b1:=F1.binds (ps:=["one"]) λ_ _ _ _ _ _=>yG λ_=>rfl
 have F2:=bC (st:=iL) l2 c2 k2
 have b2:=F2.binds (ps:=["numbers"]) λ_ _ _ _ _ _=>yG λ_=>rfl
 have F3:=bC (st:=gD) l3 c3 k3
 have b3:=F3.binds (ps:=["one","other"]) λ_ _ _ _ _ _=>of2 λ_ _=>rfl
 have F4:=bC (st:=fA) l4 c4 k4
 have b4:=F4.binds (ps:=["family"]) λ_ _ _ _ _ _=>yG λ_=>rfl
 have F5:=bC (st:=fz) l5 c5 k5
 have b5:=F5.binds (ps:=["family"]) λ_ _ _ _ _ _=>yG λ_=>rfl
 have F6:=bC (st:=dw) l6 c6 k6
 have b6:=F6.binds (ps:=["family"]) λ_ _ _ _ _ _=>yG λ_=>rfl
 have F7:=bC (st:=dc) l7 c7 k7
 have b7:=F7.binds (ps:=["part","family"]) λ_ _ _ _ _ _=>of2 λ_ _=>rfl
 have F8:=bC (st:=cx) l8 c8 k8
 have b8:=F8.binds (ps:=["part","family"]) λ_ _ _ _ _ _=>of2 λ_ _=>rfl
 have F9:=bC (st:=gC) l9 c9 k9
 have b9:=F9.binds (ps:=["whole","part"]) λ_ _ _ _ _ _=>of2 λ_ _=>rfl
 have F10:=bC (st:=fu) l10 c10 k10
 have b10:=F10.binds (ps:=["whole"]) λ_ _ _ _ _ _=>yG λ_=>rfl
 have F11:=bC (st:=kY) l11 c11 k11
 have b11:=F11.binds (ps:=["whole","ask","part"]) λ_ _ _ _ _ _=>of3 λ_ _ _=>rfl
 have F12:=bC (st:=bB) l12 c12 k12
 have b12:=F12.binds (ps:=["whole","ask"]) λ_ _ _ _ _ _=>of2 λ_ _=>rfl
 have F13:=bC (st:=eU) l13 c13 k13
 have b13:=F13.binds (ps:=["_law_script"]) λ_ _ _ _ _ _=>yG λ_=>rfl
 have F14:=bC (st:=eR) l14 c14 k14
 have b14:=F14.binds (ps:=["_law_hand_here"]) λ_ _ _ _ _ _=>yG λ_=>rfl
 have F15:=bC (st:=eO) l15 c15 k15
 have b15:=F15.binds (ps:=["_law_hand_here"]) λ_ _ _ _ _ _=>yG λ_=>rfl
 have F16:=bC (st:=eV) l16 c16 k16
 have b16:=F16.binds (ps:=["_law_hand_here","_law_many"]) λ_ _ _ _ _ _=>of2 λ_ _=>rfl
 have F17:=bC (st:=cy) l17 c17 k17
 have b17:=F17.binds (ps:=["_law_one","_law_other"]) λ_ _ _ _ _ _=>of2 λ_ _=>rfl
 have F18:=bC (st:=cL) l18 c18 k18
 have b18:=F18.binds (ps:=["_law_thing"]) λ_ _ _ _ _ _=>yG λ_=>rfl
 have F19:=bC (st:=dy) l19 c19 k19
 have b19:=F19.binds (ps:=["_law_thing"]) λ_ _ _ _ _ _=>yG λ_=>rfl
 have F20:=bC (st:=de) l20 c20 k20
 have b20:=F20.binds (ps:=["_law_hand_here","_law_most"]) λ_ _ _ _ _ _=>of2 λ_ _=>rfl
 have F21:=bC (st:=eQ) l21 c21 k21
 have b21:=F21.binds (ps:=["_law_hand_here","_law_whole"]) λ_ _ _ _ _ _=>of2 λ_ _=>rfl
 have F22:=bC (st:=er) l22 c22 k22
 have b22:=F22.binds (ps:=["_law_hand_here","_law_whole"]) λ_ _ _ _ _ _=>of2 λ_ _=>rfl
 have F23:=bC (st:=dY) l23 c23 k23
 have b23:=F23.binds (ps:=["_law_model_here","_law_part"]) λ_ _ _ _ _ _=>of2 λ_ _=>rfl
 have F24:=bC (st:=cM) l24 c24 k24
 have b24:=F24.binds (ps:=["_law_sets"]) λ_ _ _ _ _ _=>yG λ_=>rfl
 have F25:=bC (st:=dZ) l25 c25 k25
 have b25:=F25.binds (ps:=["_law_whole"]) λ_ _ _ _ _ _=>yG λ_=>rfl
 have F26:=bC (st:=eB) l26 c26 k26
 have b26:=F26.binds (ps:=["_law_family"]) λ_ _ _ _ _ _=>yG λ_=>rfl
 have F27:=bC (st:=j6) l27 c27 k27
 have b27:=F27.binds (ps:=["_law_script"]) λ_ _ _ _ _ _=>yG λ_=>rfl
 have si:=bC (st:=bS) il_NoPeace ic_NoPeace ik_NoPeace
 have Aw:=si.binds (ps:=cq) λ_ _ _ _ _ _=>of2 λ_ _=>rfl
 have fY:=bC (st:=bO) pl_Sounding___init__ pc_Sounding___init__ pk_Sounding___init__
 have kM:=fY.binds (ps:=["self","ask","parts"]) λ_ _ _ _ _ _=>of3 λ_ _ _=>rfl
 have ip:=bC (st:=cz) pl_Sounding_tells pc_Sounding_tells pk_Sounding_tells
 have oH:=ip.binds (ps:=["self","part"]) λ_ _ _ _ _ _=>of2 λ_ _=>rfl
 have iq:=bC (st:=cA) pl_Sounding_learn pc_Sounding_learn pk_Sounding_learn
 have oI:=iq.binds (ps:=["self","part","peaceful"]) λ_ _ _ _ _ _=>of3 λ_ _ _=>rfl
 have T:Txt K mg ⟨_,_,_,_,_,_,_,_,_,_,_,_,_,_,_,_,_,_,_,_,_,_,_,_,_,_,_,_,_,_,_,_,_,_,_,_,_,_,_,_,_,_,_,_,_,_,_,_,_,_,_,_,_,_,_,_,_,_,_,_,_,_,_,_,_,_,_⟩:=⟨F0,b0,PySem.W.mg_of X G a0,F1,b1,PySem.W.mg_of X G a1,F2,b2,PySem.W.mg_of X G a2,F3,b3,PySem.W.mg_of X G a3,F4,b4,PySem.W.mg_of X G a4,F5,b5,PySem.W.mg_of X G a5,F6,b6,PySem.W.mg_of X G a6,F7,b7,PySem.W.mg_of X G a7,F8,b8,PySem.W.mg_of X G a8,F9,b9,PySem.W.mg_of X G a9,F10,b10,PySem.W.mg_of X G a10,F11,b11,PySem.W.mg_of X G a11,F12,b12,PySem.W.mg_of X G a12,F13,b13,PySem.W.mg_of X G a13,F14,b14,PySem.W.mg_of X G a14,F15,b15,PySem.W.mg_of X G a15,F16,b16,PySem.W.mg_of X G a16,F17,b17,PySem.W.mg_of X G a17,F18,b18,PySem.W.mg_of X G a18,F19,b19,PySem.W.mg_of X G a19,F20,b20,PySem.W.mg_of X G a20,F21,b21,PySem.W.mg_of X G a21,F22,b22,PySem.W.mg_of X G a22,F23,b23,PySem.W.mg_of X G a23,F24,b24,PySem.W.mg_of X G a24,F25,b25,PySem.W.mg_of X G a25,F26,b26,PySem.W.mg_of X G a26,F27,b27,PySem.W.mg_of X G a27,PySem.W.mg_none_of X G z_abs,PySem.W.mg_none_of X G z_all,PySem.W.mg_none_of X G z_any,PySem.W.mg_none_of X G z_bool,PySem.W.mg_none_of X G z_int,PySem.W.mg_none_of X G z_isinstance,PySem.W.mg_none_of X G z_len,PySem.W.mg_none_of X G z_list,PySem.W.mg_none_of X G z_range,PySem.W.mg_none_of X G z_reversed,PySem.W.mg_none_of X G z_set,PySem.W.mg_none_of X G z_sorted,PySem.W.mg_none_of X G z_sum,PySem.W.mg_none_of X G z_tuple,PySem.W.mg_of X G am_TruceError,⟨x1_TruceError,x2_TruceError,x3_TruceError,x4_TruceError,x5_TruceError,x6_TruceError,cx7,cx8,x9_TruceError⟩,kc_TruceError,ii_TruceError,rd_TruceError,fc_TruceError,sg_TruceError,PySem.W.mg_of X G am_NoPeace,⟨x1_NoPeace,x2_NoPeace,x3_NoPeace,x4_NoPeace,x5_NoPeace,x6_NoPeace,cx7,cx8,x9_NoPeace⟩,kc_NoPeace,si,Aw,ii_NoPeace,if_NoPeace,tk_NoPeace,nf_NoPeace,PySem.W.mg_of X G pm_Sounding,⟨p1_Sounding,p2_Sounding,p3_Sounding,p4_Sounding⟩,pn_Sounding_ask,pn_Sounding_askings,pn_Sounding_known,pn_Sounding_unknown,⟨q1_Sounding,q2_Sounding,q3_Sounding,q4_Sounding⟩,fY,kM,ip,oH,⟨r1_Sounding_tells,r2_Sounding_tells,pk_Sounding_tells⟩,iq,oI,⟨r1_Sounding_learn,r2_Sounding_learn,pk_Sounding_learn⟩⟩
 exact⟨PySem.W.fnOf "law" "law" (aN j6) (aH j6) (ag j6) .none Wr XH V6 Yn (.ref cC_law) XJ,λs v=>.of_eq rfl,λbase kb _ hB=>Si (P:=l.prog) (w:=w) (base:=base) T rfl (PySem.W.codeHd_of_K kb T4) rfl (PySem.W.codeHd_of_K kb z5) hB⟩
theorem walk{l:PySem.W.OpenLaw}{q:Program}{loose:List Str}{XP:(Str->Option Value)->Heap->Prop}{YP:World->Heap->Prop}{d:DefRec}{K:Params->PySem.W.Frag}{cC_law pT_law cC_sounded pT_sounded:Addr}(hn:l.most=some 63)(hNE:pT_law≠pT_sounded)(W9:d.params.defaults=[])
  (hY:∀(w:World) (h:Heap),YP w h->(K w.params).In h/\∀q∈[(cC_law,pT_law),(cC_sounded,pT_sounded)],h.get? q.2=some (PySem.W.tabObj #[]))
  (ZK:∀w:World,∀q∈[(cC_law,pT_law),(cC_sounded,pT_sounded)],PySem.W.codeHdIn (K w.params) q.1 q.2=true/\(K w.params).lookup q.2=none)
  (F:∀(w:World) (mg:Str->Option Value) (fa:Addr) (h:Heap),(K w.params).In h->h.Ns mainGlobals mg->mg d.name=some (.ref fa)->
   ∃fd:FuncData,(∀(s:Shared) (u:Value),BindsTo s fd ⟨[u],[]⟩ [("_law_script",u)])/\∀base:Heap,(K w.params).In base->base.Ns mainGlobals mg->BMain mg base->bG l.prog w (K w.params) mg base eI 20 fa fd ["_law_script"] (Bj (K w.params) pT_law pT_sounded)) :
  PySem.W.WalkO q loose XP YP l.row.toRowW d [] (λf vs=>PySem.call f vs):=
 L2.GP (n:=63) (k:=20) (x:="_law_script") (ts:=[(cC_law,pT_law),(cC_sounded,pT_sounded)]) (CX:=λ_=>eI) (sp:=λw=>Bj (K w.params) pT_law pT_sounded) hn (by decide) W9 ⟨rfl,by decide,by decide⟩ hY ZK F (λ_ _ a ns hl hT hS=>⟨a,ns,rfl,hS,hl,hT (cC_law,pT_law) (by simp),hT (cC_sounded,pT_sounded) (by simp),hNE,λ_=>rfl⟩) λ_ _ _ _ _ z=>z
def view:Program:={ PySem.Challenge.pw_truceroll_k57_whole_every_part_settled with main:={ PySem.Challenge.pw_truceroll_k57_whole_every_part_settled.main with body:=[top 1,top 2,top 4,top 5,top 7,top 8,top 9,top 10,top 11,top 12,top 13,top 14,top 15,top 17,top 19,top 20,top 22,top 23,top 24,top 25,top 26,top 27,top 28,top 29,top 30,top 31,top 32,top 33,top 34,top 35,top 36] } }
end My
open PySem PySem.W PyProof.Rows
local macro_rules | `(tactic| o_head $H:term) => `(tactic| (
  refine holds_open (q := My.view) (loose := []) (Xt := fun s => xlAt My.view [] s && recOk (RowW.records (OpenRow.toRowW PySem.Challenge.rw_truceroll_k57_whole_every_part_settled.row)) s) (XP := XL My.view []) (Yf := Hook.obs $H) (Ya := Hook.val $H) (YP := Hook.says $H) (N := 40000) ?hl (Hook.of $H) (Hook.keeps $H) (fun s e => xl_of s (Bool.and_eq_true_iff.mp e).1) XL.keeps (by rfl) (by rfl) (by rfl) (fun s e => recFacts_of (Bool.and_eq_true_iff.mp e).2) (by rfl) (by first | assumption | decide +kernel) (by decide +kernel) ⟨rfl, rfl, rfl, rfl, rfl, by decide +kernel⟩ ?hw ?hc
  case hl => intro w; kernel_rfl))
theorem PySem.Challenge.cw_truceroll_k57_whole_every_part_settled_holds : PySem.Challenge.rw_truceroll_k57_whole_every_part_settled.Holds := by
 w_on;o_law;k_head;(case hw=>w_witness2)
 k_fill
 refine My.walk (l:=PySem.Challenge.rw_truceroll_k57_whole_every_part_settled) (cC_law:=254) (pT_law:=252) (cC_sounded:=130) (pT_sounded:=128) rfl (by decide) rfl (λw h Y=>⟨PySem.W.km_in_of Y,λq hq=>PySem.W.km_tabs_of Y _ (by simp only[List.mem_cons,List.not_mem_nil,or_false]at hq ⊢;rcases hq with rfl | rfl <;> simp)⟩) (λw q hq=>by simp only[List.mem_cons,List.not_mem_nil,or_false]at hq;rcases hq with rfl | rfl <;> exact⟨by kernel_rfl,by kernel_rfl⟩) ?F
 case F=>
  intro w mg fa h KX G WW
  refine' My.all_mk KX G WW (by kernel_rfl) (by kernel_rfl) ?a0 ?l0 ?c0 ?k0 ?a1 ?l1 ?c1 ?k1 ?a2 ?l2 ?c2 ?k2 ?a3 ?l3 ?c3 ?k3 ?a4 ?l4 ?c4 ?k4 ?a5 ?l5 ?c5 ?k5 ?a6 ?l6 ?c6 ?k6 ?a7 ?l7 ?c7 ?k7 ?a8 ?l8 ?c8 ?k8 ?a9 ?l9 ?c9 ?k9 ?a10 ?l10 ?c10 ?k10 ?a11 ?l11 ?c11 ?k11 ?a12 ?l12 ?c12 ?k12 ?a13 ?l13 ?c13 ?k13 ?a14 ?l14 ?c14 ?k14 ?a15 ?l15 ?c15 ?k15 ?a16 ?l16 ?c16 ?k16 ?a17 ?l17 ?c17 ?k17 ?a18 ?l18 ?c18 ?k18 ?a19 ?l19 ?c19 ?k19 ?a20 ?l20 ?c20 ?k20 ?a21 ?l21 ?c21 ?k21 ?a22 ?l22 ?c22 ?k22 ?a23 ?l23 ?c23 ?k23 ?a24 ?l24 ?c24 ?k24 ?a25 ?l25 ?c25 ?k25 ?a26 ?l26 ?c26 ?k26 ?a27 ?l27 ?c27 ?k27 ?z_abs ?z_all ?z_any ?z_bool ?z_int ?z_isinstance ?z_len ?z_list ?z_range ?z_reversed ?z_set ?z_sorted ?z_sum ?z_tuple ?cx7 ?cx8 ?am_TruceError ?x1_TruceError ?x2_TruceError ?x3_TruceError ?x4_TruceError ?x5_TruceError ?x6_TruceError ?x9_TruceError ?am_NoPeace ?x1_NoPeace ?x2_NoPeace ?x3_NoPeace ?x4_NoPeace ?x5_NoPeace ?x6_NoPeace ?x9_NoPeace ?kc_TruceError ?ii_TruceError ?rd_TruceError ?fc_TruceError ?sg_TruceError ?kc_NoPeace ?il_NoPeace ?ic_NoPeace ?ik_NoPeace ?ii_NoPeace ?if_NoPeace ?tk_NoPeace ?nf_NoPeace ?pm_Sounding ?p1_Sounding ?p2_Sounding ?p3_Sounding ?p4_Sounding ?pn_Sounding_ask ?pn_Sounding_askings ?pn_Sounding_known ?pn_Sounding_unknown ?q1_Sounding ?q2_Sounding ?q3_Sounding ?q4_Sounding ?pl_Sounding___init__ ?pc_Sounding___init__ ?pk_Sounding___init__ ?r1_Sounding_tells ?r2_Sounding_tells ?pl_Sounding_tells ?pc_Sounding_tells ?pk_Sounding_tells ?r1_Sounding_learn ?r2_Sounding_learn ?pl_Sounding_learn ?pc_Sounding_learn ?pk_Sounding_learn
  (case a0=>k_is)
  (case l0=>k_is)
  (case c0=>k_is)
  (case k0=>k_is)
  (case a1=>k_is)
  (case l1=>k_is)
  (case c1=>k_is)
  (case k1=>k_is)
  (case a2=>k_is)
  (case l2=>k_is)
  (case c2=>k_is)
  (case k2=>k_is)
  (case a3=>k_is)
  (case l3=>k_is)
  (case c3=>k_is)
  (case k3=>k_is)
  (case a4=>k_is)
  (case l4=>k_is)
  (case c4=>k_is)
  (case k4=>k_is)
  (case a5=>k_is)
  (case l5=>k_is)
  (case c5=>k_is)
  (case k5=>k_is)
  (case a6=>k_is)
  (case l6=>k_is)
  (case c6=>k_is)
  (case k6=>k_is)
  (case a7=>k_is)
  (case l7=>k_is)
  (case c7=>k_is)
  (case k7=>k_is)
  (case a8=>k_is)
  (case l8=>k_is)
  (case c8=>k_is)
  (case k8=>k_is)
  (case a9=>k_is)
  (case l9=>k_is)
  (case c9=>k_is)
  (case k9=>k_is)
  (case a10=>k_is)
  (case l10=>k_is)
  (case c10=>k_is)
  (case k10=>k_is)
  (case a11=>k_is)
  (case l11=>k_is)
  (case c11=>k_is)
  (case k11=>k_is)
  (case a12=>k_is)
  (case l12=>k_is)
  (case c12=>k_is)
  (case k12=>k_is)
  (case a13=>k_is)
  (case l13=>k_is)
  (case c13=>k_is)
  (case k13=>k_is)
  (case a14=>k_is)
  (case l14=>k_is)
  (case c14=>k_is)
  (case k14=>k_is)
  (case a15=>k_is)
  (case l15=>k_is)
  (case c15=>k_is)
  (case k15=>k_is)
  (case a16=>k_is)
  (case l16=>k_is)
  (case c16=>k_is)
  (case k16=>k_is)
  (case a17=>k_is)
  (case l17=>k_is)
  (case c17=>k_is)
  (case k17=>k_is)
  (case a18=>k_is)
  (case l18=>k_is)
  (case c18=>k_is)
  (case k18=>k_is)
  (case a19=>k_is)
  (case l19=>k_is)
  (case c19=>k_is)
  (case k19=>k_is)
  (case a20=>k_is)
  (case l20=>k_is)
  (case c20=>k_is)
  (case k20=>k_is)
  (case a21=>k_is)
  (case l21=>k_is)
  (case c21=>k_is)
  (case k21=>k_is)
  (case a22=>k_is)
  (case l22=>k_is)
  (case c22=>k_is)
  (case k22=>k_is)
  (case a23=>k_is)
  (case l23=>k_is)
  (case c23=>k_is)
  (case k23=>k_is)
  (case a24=>k_is)
  (case l24=>k_is)
  (case c24=>k_is)
  (case k24=>k_is)
  (case a25=>k_is)
  (case l25=>k_is)
  (case c25=>k_is)
  (case k25=>k_is)
  (case a26=>k_is)
  (case l26=>k_is)
  (case c26=>k_is)
  (case k26=>k_is)
  (case a27=>k_is)
  (case l27=>k_is)
  (case c27=>k_is)
  (case k27=>k_is)
  (case z_abs=>k_is)
  (case z_all=>k_is)
  (case z_any=>k_is)
  (case z_bool=>k_is)
  (case z_int=>k_is)
  (case z_isinstance=>k_is)
  (case z_len=>k_is)
  (case z_list=>k_is)
  (case z_range=>k_is)
  (case z_reversed=>k_is)
  (case z_set=>k_is)
  (case z_sorted=>k_is)
  (case z_sum=>k_is)
  (case z_tuple=>k_is)
  (case cx7=>first | k_is | rfl)
  (case cx8=>first | k_is | rfl)
  (case am_TruceError=>first | k_is | rfl)
  (case x1_TruceError=>first | k_is | rfl)
  (case x2_TruceError=>first | k_is | rfl)
  (case x3_TruceError=>first | k_is | rfl)
  (case x4_TruceError=>first | k_is | rfl)
  (case x5_TruceError=>first | k_is | rfl)
  (case x6_TruceError=>first | k_is | rfl)
  (case x9_TruceError=>first | k_is | rfl)
  (case ii_TruceError=>first | k_is | rfl)
  (case am_NoPeace=>first | k_is | rfl)
  (case x1_NoPeace=>first | k_is | rfl)
  (case x2_NoPeace=>first | k_is | rfl)
  (case x3_NoPeace=>first | k_is | rfl)
  (case x4_NoPeace=>first | k_is | rfl)
  (case x5_NoPeace=>first | k_is | rfl)
  (case x6_NoPeace=>first | k_is | rfl)
  (case x9_NoPeace=>first | k_is | rfl)
  (case ii_NoPeace=>first | k_is | rfl)
  (case kc_TruceError=>first | k_is | rfl)
  (case rd_TruceError=>first | k_is | rfl)
  (case fc_TruceError=>first | k_is | rfl)
  (case sg_TruceError=>first | k_is | rfl)
  (case kc_NoPeace=>first | k_is | rfl)
  (case il_NoPeace=>first | k_is | rfl)
  (case ic_NoPeace=>first | k_is | rfl)
  (case ik_NoPeace=>first | k_is | rfl)
  (case if_NoPeace=>first | k_is | rfl)
  (case tk_NoPeace=>first | k_is | rfl)
  (case nf_NoPeace=>first | k_is | rfl)
  (case pm_Sounding=>first | k_is | rfl)
  (case p1_Sounding=>first | k_is | rfl)
  (case p2_Sounding=>first | k_is | rfl)
  (case p3_Sounding=>first | k_is | rfl)
  (case p4_Sounding=>first | k_is | rfl)
  (case pn_Sounding_ask=>first | k_is | rfl)
  (case pn_Sounding_askings=>first | k_is | rfl)
  (case pn_Sounding_known=>first | k_is | rfl)
  (case pn_Sounding_unknown=>first | k_is | rfl)
  (case q1_Sounding=>first | k_is | rfl)
  (case q2_Sounding=>first | k_is | rfl)
  (case q3_Sounding=>first | k_is | rfl)
  (case q4_Sounding=>first | k_is | rfl)
  (case pl_Sounding___init__=>first | k_is | rfl)
  (case pc_Sounding___init__=>first | k_is | rfl)
  (case pk_Sounding___init__=>first | k_is | rfl)
  (case r1_Sounding_tells=>first | k_is | rfl)
  (case r2_Sounding_tells=>first | k_is | rfl)
  (case pl_Sounding_tells=>first | k_is | rfl)
  (case pc_Sounding_tells=>first | k_is | rfl)
  (case pk_Sounding_tells=>first | k_is | rfl)
  (case r1_Sounding_learn=>first | k_is | rfl)
  (case r2_Sounding_learn=>first | k_is | rfl)
  (case pl_Sounding_learn=>first | k_is | rfl)
  (case pc_Sounding_learn=>first | k_is | rfl)
  (case pk_Sounding_learn=>first | k_is | rfl)
