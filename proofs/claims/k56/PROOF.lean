import PyProof.Rows.All
import Wide.All
import OpenK.AllK
import Wide.FinOn
import Lean
import PyProof.EqAt
import PyProof.EqKinds
import PyProof.TupleCall
import PySem.Challenge.RW_truceroll_k56_whole_few_askings
set_option Elab.async false
set_option linter.all false
set_option maxRecDepth 100000
set_option maxHeartbeats 0
section
namespace L2
open PySem PySem.Spec PyProof.Rows
abbrev Key:=Sum Int Str
def sX:Key->Value->Bool
 | .inl k,v=>Value.isInt k v
 | .inr x,v=>Value.isStrOf x v
def aAd (w:World):Key->Int
 | .inl k=>hashInt k
 | .inr x=>hashStr w x
theorem cH:∀{k:Key} {v:Value},sX k v=true->(∃i t,k=Sum.inl i/\v=Value.int i t)\/(∃x t,k=Sum.inr x/\v=Value.str x t)
 | .inl i,v,h=>by
  obtain ⟨t,e⟩:=Value.isInt_shape (k:=i) (v:=v) h
  exact .inl ⟨i,t,rfl,e⟩
 | .inr x,v,h=>by
  obtain ⟨t,e⟩:=Value.isStrOf_shape (x:=x) (v:=v) h
  exact .inr ⟨x,t,rfl,e⟩
theorem Dd (i:Int) (t:Tok):sX (.inl i) (.int i t)=true:=by simp [sX,Value.isInt]
theorem Dc (x:Str) (t:Tok):sX (.inr x) (.str x t)=true:=by simp [sX,Value.isStrOf]
theorem Q6 (a b:Int):decide ((Sum.inl a:Key)=Sum.inl b)=(a == b):=by
 by_cases e:a=b
 ·subst e;simp
 ·have h:¬(Sum.inl a:Key)=Sum.inl b:=fun q=>e (Sum.inl.inj q)
  rw [decide_eq_false h]
  exact (beq_eq_false_iff_ne.mpr e).symm
theorem QZ (a b:Str):decide ((Sum.inr a:Key)=Sum.inr b)=decide (a=b):=by
 by_cases e:a=b
 ·subst e;simp
 ·have h:¬(Sum.inr a:Key)=Sum.inr b:=fun q=>e (Sum.inr.inj q)
  rw [decide_eq_false h,decide_eq_false e]
theorem Q5 (a:Int) (b:Str):decide ((Sum.inl a:Key)=Sum.inr b)=false:=decide_eq_false (fun q=>nomatch q)
theorem Q0 (a:Str) (b:Int):decide ((Sum.inr a:Key)=Sum.inl b)=false:=decide_eq_false (fun q=>nomatch q)
def cM (prog:Program) (w:World):PySem.KeyKind prog w Key where
 is:=sX
 hash:=aAd w
 inj:=fun v a b ha hb=>by
  rcases cH ha with ⟨i,t,rfl,rfl⟩ | ⟨x,t,rfl,rfl⟩
  ·rcases cH hb with ⟨j,u,rfl,e⟩ | ⟨y,u,rfl,e⟩
   ·injection e with e1 _;rw [e1]
   ·exact nomatch e
  ·rcases cH hb with ⟨j,u,rfl,e⟩ | ⟨y,u,rfl,e⟩
   ·exact nomatch e
   ·injection e with e1 _;rw [e1]
 byValue:=fun k v h=>by
  rcases cH h with ⟨i,t,rfl,rfl⟩ | ⟨x,t,rfl,rfl⟩ <;> rfl
 pyHash:=fun hv h=>by
  rcases cH hv with ⟨i,t,rfl,rfl⟩ | ⟨x,t,rfl,rfl⟩
  ·exact wpAny_pyHash_int h
  ·exact wpAny_pyHash_str h
 eqBool:=fun hu hv h=>by
  rcases cH hu with ⟨i,t,rfl,rfl⟩ | ⟨x,t,rfl,rfl⟩
  ·rcases cH hv with ⟨j,u,rfl,rfl⟩ | ⟨y,u,rfl,rfl⟩
   ·rw [Q6] at h;exact wpAny_eqBool_int h
   ·rw [Q5] at h;exact SeqAt.EqAt.int_str i t y u _ _ _ _ h
  ·rcases cH hv with ⟨j,u,rfl,rfl⟩ | ⟨y,u,rfl,rfl⟩
   ·rw [Q0] at h;exact SeqAt.EqAt.str_int x t j u _ _ _ _ h
   ·rw [QZ] at h;exact wpAny_eqBool_str h
 «strs»:=fun k x t v h=>by
  rcases cH h with ⟨i,u,rfl,e⟩ | ⟨y,u,rfl,e⟩
  ·exact nomatch e
  ·injection e with e1 _
   subst e1
   cases v <;> rfl
theorem wq (prog:Program) (w:World) (i:Int) (t:Tok):(cM prog w).is (.inl i) (.int i t)=true:=Dd i t
theorem wo (prog:Program) (w:World) (x:Str) (t:Tok):(cM prog w).is (.inr x) (.str x t)=true:=Dc x t
end L2
namespace L2
open PySem PySem.Spec PyProof.Rows
inductive V where
 | non | bl (b:Bool) | int (i:Int) | str (x:Str) | Ep (b:Array UInt8) | RV (b:UInt64) | ref (a:Addr) | ty (n:String)
 deriving DecidableEq
def RelV:V->Value->Prop
 | .non,u=>u=Value.none
 | .bl b,u=>u=Value.bool b
 | .int i,u=>∃t,u=Value.int i t
 | .str x,u=>∃t,u=Value.str x t
 | .Ep b,u=>∃t,u=Value.bytes b t
 | .RV b,u=>∃t,u=Value.float b t
 | .ref a,u=>u=Value.ref a
 | .ty n,u=>u=Value.type n
abbrev Vals:List V->List Value->Prop:=Paired RelV
theorem Vals.length {xs:List V} {us:List Value} (r:Vals xs us):xs.length=us.length:=Paired.length r
theorem Vals.get:∀{xs:List V} {us:List Value} {i:Nat} {x:V},Vals xs us->xs[i]? = some x->∃u,us[i]? = some u/\RelV x u
 | _,_,_,_,.nil,e=>by simp at e
 | _,_,0,_,.cons r _,e=>by simp at e;subst e;exact ⟨_,rfl,r⟩
 | _,_,i+1,x,.cons _ t,e=>by
  obtain ⟨u,h1,h2⟩:=Vals.get (i:=i) (x:=x) t (by simpa using e)
  exact ⟨u,by simpa using h1,h2⟩
theorem Vals.set {x:V} {u:Value} (r:RelV x u):∀{xs:List V} {us:List Value} (i:Nat),Vals xs us->Vals (xs.set i x) (us.set i u)
 | _,_,_,.nil=>.nil
 | _,_,0,.cons _ t=>.cons r t
 | _,_,i+1,.cons q t=>.cons q (Vals.set r i t)
theorem Vals.append:∀{xs ys:List V} {us ws:List Value},Vals xs us->Vals ys ws->Vals (xs++ys) (us++ws)
 | _,_,_,_,.nil,s=>s
 | _,_,_,_,.cons r t,s=>.cons r (Vals.append t s)
theorem Vals.take:∀{xs:List V} {us:List Value} (n:Nat),Vals xs us->Vals (xs.take n) (us.take n)
 | _,_,0,_=>.nil
 | _,_,_+1,.nil=>.nil
 | _,_,n+1,.cons r t=>.cons r (Vals.take n t)
theorem Vals.drop:∀{xs:List V} {us:List Value} (n:Nat),Vals xs us->Vals (xs.drop n) (us.drop n)
 | _,_,0,r=>r
 | _,_,_+1,.nil=>.nil
 | _,_,n+1,.cons _ t=>Vals.drop n t
def kB:Option V->Option Value->Prop
 | some v,some u=>RelV v u
 | none,none=>True
 | _,_=>False
def KV {κ:Type}:List (κ×V)->List (κ×Value)->Prop:=Paired fun (p:κ×V) (q:κ×Value)=>p.1=q.1/\RelV p.2 q.2
def kV:Key->V
 | .inl i=>.int i
 | .inr x=>.str x
inductive HO where
 | lst (xs:List V)
 | tup (xs:List V)
 | dK (aE:List (Key×V)) | dT (aE:List (List Key×V))
 | set (S:Int->Bool) (n:Nat)
 | ins (C dx:Addr) (fs:List (Str×V))
 | own (x:Addr)
 | xd (fs:List (Str×V))
 | met (f x:Addr)
 | YM (lo hi:Int)
 | tI (o:Obj) (u:HO)
 | mD (ps:Array Value)
 | ext (φ:Heap->Prop)
abbrev Hp:=Addr->Option HO
def upd (H:Hp) (a:Addr) (o:HO):Hp:=fun b=>if b=a then some o else H b
theorem ah {H:Hp} {a:Addr} {o:HO}:upd H a o a=some o:=by unfold upd;rw [if_pos rfl]
theorem aq {H:Hp} {a b:Addr} {o:HO} (h:b≠a):upd H a o b=H b:=by unfold upd;rw [if_neg h]
theorem pj {H:Hp} {a:Addr} {o u:HO}:upd (upd H a o) a u=upd H a u:=by
 funext b;unfold upd;split <;> rfl
theorem aY {H:Hp} {a b:Addr} {o u:HO} (h:H a=some o) (h':H b=some u) (d:o≠u):a≠b:=by
 intro e;subst e;rw [h] at h';exact d (Option.some.inj h')
theorem aj {H:Hp} {a b:Addr} {o:HO} (h:H a=some o) (h':H b=none):a≠b:=by
 intro e;subst e;rw [h] at h';cases h'
section
variable (P:Program) (w:World)
def cD (H:Hp) (h:Heap) (a:Addr):HO->Prop
 | .lst xs=>xs.length<=sizeLine/\∃(its:List Value) (n:Nat),Vals xs its/\h.get? a=some { cls:=.type "list",data:=.seq its.toArray n }
 | .tup xs=>xs.length<=sizeLine/\∃its:List Value,Vals xs its/\IsTup h a its.toArray
 | .dK aE=>aE.length<=sizeLine/\(a == sysModules)=false/\∃vs,KV aE vs/\h.DictOf (cM P w) a vs
 | .dT aE=>aE.length<=sizeLine/\(a == sysModules)=false/\∃xs:List (List Key×Addr×Value),
   Paired (fun (p:List Key×V) (q:List Key×Addr×Value)=>p.1=q.1/\H q.2.1=some (.tup (p.1.map kV))/\RelV p.2 q.2.2) aE xs/\
   ∃o es ep,h.get? a=some o/\o.ExactDict/\o.data=.dict es ep/\es.toList=xs.map (entryOfKey (tupleKind (cM P w)))/\(xs.map (·.1)).Nodup
 | .set S n=>h.SetOf (intKind P w) a S n
 | .ins C dx fs=>H dx=some (.own a)/\fs.length<=1000/\dx≠a/\h.get? a=some (PySem.W.instObj C dx)/\
   ∃mA,h.Ns1 dx mA/\(∀f,kB (fs.lookup f) (mA f))/\PySem.Within mA (fs.map (·.1))
 | .own _=>∃o,h.get? a=some o
 | .xd fs=>∃mA,h.Ns1 a mA/\∀f,kB (fs.lookup f) (mA f)
 | .YM lo hi=>∃t u v,h.get? a=some { cls:=.type "range",data:=.fields #[.int lo t,.int hi u,.int 1 v] }
 | .tI o u=>h.get? a=some o/\cD H h a u
 | .mD ps=>h.get? a=some { cls:=.none,data:=.fields ps }
 | .met f x=>h.get? a=some (PySem.W.methodObj (.ref f) (.ref x))
 | .ext φ=>φ h/\(∃o,h.get? a=some o)/\∀h1 h2:Heap,φ h1->(∀o,h1.get? a=some o->h2.get? a=some o)->φ h2
def fA (H:Hp) (h:Heap):Prop:=∀a o,H a=some o->cD P w H h a o
end
section
variable {P:Program} {w:World} {H H':Hp} {h h':Heap} {a:Addr} {o:HO}
theorem cD.lt (x:cD P w H h a o):a < h.objs.size:=by
 cases o with
 | lst xs=>obtain ⟨_,_,_,_,e⟩:=x;exact Heap.lt_size e
 | tup xs=>obtain ⟨_,_,_,p⟩:=x;exact p.lt
 | dK aE=>obtain ⟨_,_,_,_,o,_,_,e,_⟩:=x;exact Heap.lt_size e
 | dT aE=>obtain ⟨_,_,_,_,o,_,_,e,_⟩:=x;exact Heap.lt_size e
 | set S n=>obtain ⟨o,_,_,_,e,_⟩:=x;exact Heap.lt_size e
 | ins C dx fs=>obtain ⟨_,_,_,e,_⟩:=x;exact Heap.lt_size e
 | own y=>obtain ⟨_,e⟩:=x;exact Heap.lt_size e
 | xd fs=>obtain ⟨_,⟨_,_,_,e,_⟩,_⟩:=x;exact Heap.lt_size e
 | YM lo hi=>obtain ⟨_,_,_,e⟩:=x;exact Heap.lt_size e
 | tI ob u=>obtain ⟨e,_⟩:=x;exact Heap.lt_size e
 | mD ps=>exact Heap.lt_size (show h.get? a=some _ from x)
 | met f y=>exact Heap.lt_size (show h.get? a=some _ from x)
 | ext φ=>obtain ⟨_,⟨_,e⟩,_⟩:=x;exact Heap.lt_size e
theorem Paired.QK {α β:Type} {F G:α->β->Prop}:∀{l₁:List α} {l₂:List β},Paired F l₁ l₂->(∀a b,F a b->G a b)->Paired G l₁ l₂
 | _,_,.nil,_=>.nil
 | _,_,.cons r t,f=>.cons (f _ _ r) (Paired.QK t f)
theorem cD.stay (x:cD P w H h a o) (k:∀b u,(b=a\/H b=some (.own a))->h.get? b=some u->h'.get? b=some u)
  (ho:∀b,H b=some (.own a)->H' b=some (.own a)) (ht:∀b xs,H b=some (.tup xs)->H' b=some (.tup xs)):cD P w H' h' a o:=by
 induction o with
 | lst xs=>obtain ⟨z,its,n,r,e⟩:=x;exact ⟨z,its,n,r,k _ _ (.inl rfl) e⟩
 | tup xs=>obtain ⟨z,its,r,ob,e,c⟩:=x;exact ⟨z,its,r,ob,k _ _ (.inl rfl) e,c⟩
 | dK aE=>obtain ⟨z,y,vs,r,ob,es,ep,e,c⟩:=x;exact ⟨z,y,vs,r,ob,es,ep,k _ _ (.inl rfl) e,c⟩
 | dT aE=>
  obtain ⟨z,y,xs,r,ob,es,ep,e,c⟩:=x
  exact ⟨z,y,xs,Paired.QK r fun p q z=>⟨z.1,ht _ _ z.2.1,z.2.2⟩,ob,es,ep,k _ _ (.inl rfl) e,c⟩
 | set S n=>obtain ⟨ob,es,ep,t,e,c⟩:=x;exact ⟨ob,es,ep,t,k _ _ (.inl rfl) e,c⟩
 | ins C dx fs=>
  obtain ⟨d,z,ne,e,mA,⟨od,es,ep,e2,c⟩,r⟩:=x
  exact ⟨ho _ d,z,ne,k _ _ (.inl rfl) e,mA,⟨od,es,ep,k _ _ (.inr d) e2,c⟩,r⟩
 | own y=>obtain ⟨ob,e⟩:=x;exact ⟨ob,k _ _ (.inl rfl) e⟩
 | xd fs=>obtain ⟨mA,⟨od,es,ep,e,c⟩,r⟩:=x;exact ⟨mA,⟨od,es,ep,k _ _ (.inl rfl) e,c⟩,r⟩
 | YM lo hi=>obtain ⟨t,u,v,e⟩:=x;exact ⟨t,u,v,k _ _ (.inl rfl) e⟩
 | tI ob u ih=>obtain ⟨e,q⟩:=x;exact ⟨k _ _ (.inl rfl) e,ih q⟩
 | mD ps=>
  have e:h.get? a=some { cls:=.none,data:=.fields ps }:=x
  show h'.get? a=some { cls:=.none,data:=.fields ps }
  exact k a _ (.inl rfl) e
 | met f y=>
  have e:h.get? a=some (PySem.W.methodObj (.ref f) (.ref y)):=x
  show h'.get? a=some (PySem.W.methodObj (.ref f) (.ref y))
  exact k a _ (.inl rfl) e
 | ext φ=>obtain ⟨p,⟨o,e⟩,st⟩:=x;exact ⟨st _ _ p fun o q=>k _ _ (.inl rfl) q,⟨o,k _ _ (.inl rfl) e⟩,st⟩
theorem fA.lt (x:fA P w H h) (e:H a=some o):a < h.objs.size:=(x a o e).lt
theorem fA.fresh (x:fA P w H h) (e:h.objs.size<=a):H a=none:=by
 cases q:H a with
 | none=>rfl
 | some u=>exact absurd (Nat.lt_of_lt_of_le (x.lt q) e) (Nat.lt_irrefl _)
theorem fA.kept (x:fA P w H h) (k:∀b u,h.get? b=some u->h'.get? b=some u):fA P w H h':=fun a o e=>
 (x a o e).stay (fun b u _ q=>k b u q) (fun _ q=>q) fun _ _ q=>q
theorem fA.laid (x:fA P w H h) (k:∀b u,h.get? b=some u->h'.get? b=some u) (hp:h.objs.size<=a) (new:cD P w (upd H a o) h' a o):fA P w (upd H a o) h':=fun b u e=>by
 have hn:=x.fresh hp
 by_cases hb:b=a
 ·subst hb;rw [ah] at e;cases e;exact new
 ·rw [aq hb] at e
  exact (x b u e).stay (fun c v _ q=>k c v q) (fun c q=>by rw [aq (aj q hn)];exact q) fun c xs q=>by rw [aq (aj q hn)];exact q
end
def Rd (H:Hp) (a:Addr) (u:HO):Prop:=H a=some u\/∃o,H a=some (.tI o u)
theorem Rd.ok {P:Program} {w:World} {H:Hp} {h:Heap} {a:Addr} {u:HO} (r:Rd H a u) (x:fA P w H h):cD P w H h a u:=by
 rcases r with r | ⟨o,r⟩
 ·exact x a u r
 ·obtain ⟨_,q⟩:=x a _ r
  exact q
def Wv:Option HO->Prop
 | some (.lst _)=>True
 | some (.dK _)=>True
 | some (.dT _)=>True
 | some (.set _ _)=>True
 | some (.ins _ _ _)=>True
 | some (.ext _)=>True
 | _=>False
section
variable {P:Program} {w:World} {H:Hp} {h h':Heap} {x e:Addr} {o':HO}
theorem fA.write (ok:fA P w H h) (mu:Wv (H x)) (he:e=x\/H e=some (.own x)) (k:∀b u,b≠e->h.get? b=some u->h'.get? b=some u) (Sx:∃u,h'.get? e=some u)
  (new:cD P w (upd H x o') h' x o'):fA P w (upd H x o') h':=fun b u q=>by
 have Cz:∀c y,H c=some (.own y)->c≠x:=fun c y r z=>by subst z;rw [r] at mu;exact mu
 have lN:∀c xs,H c=some (.tup xs)->c≠x:=fun c xs r z=>by subst z;rw [r] at mu;exact mu
 by_cases hb:b=x
 ·subst hb;rw [ah] at q;cases q;exact new
 ·rw [aq hb] at q
  by_cases RB:b=e
  ·have q':H b=some (.own x):=by
    rcases he with z | z
    ·exact absurd (RB.trans z) hb
    ·rw [RB];exact z
   rw [q] at q';cases q'
   obtain ⟨v,hv⟩:=Sx
   exact ⟨v,by rw [RB];exact hv⟩
  ·refine (ok b u q).stay (fun c v hc r=>k c v ?_ r) (fun c r=>by rw [aq (Cz c b r)];exact r) fun c xs r=>by rw [aq (lN c xs r)];exact r
   rcases hc with rfl | hc
   ·exact RB
   ·rintro rfl
    rcases he with z | z
    ·exact Cz c b hc z
    ·rw [hc] at z;cases z;exact hb rfl
end
structure Un (fs ex:List Addr) (H H':Hp) (h h':Heap):Prop where
 keep:∀b o,h.get? b=some o->H b=none->b∉fs->b∉ex->h'.get? b=some o
 slot:∀b o,h.get? b=some o->H b=none->b∈fs->b∉ex->∃sl,h'.get? b=some { o with slots:=sl }
 free:∀b o,h.get? b=some o->H b=none->b∉ex->H' b=none
 there:∀b o,h.get? b=some o->b∉ex->∃o',h'.get? b=some o'
 tups:∀b xs,H b=some (.tup xs)->H' b=some (.tup xs)
 frzs:∀b o u,H b=some (.tI o u)->H' b=some (.tI o u)
 tbls:∀b ps,H b=some (.mD ps)->∃more,H' b=some (.mD (ps++more))
section
variable {fs fs' ex ex':List Addr} {H H1 H2:Hp} {h h1 h2 h':Heap} {a x e:Addr} {o:HO}
theorem Un.any (u:Un fs ex H H1 h h1) {b:Addr} {ob:Obj} (q:h.get? b=some ob) (n:H b=none) (hx:b∉ex):∃sl,h1.get? b=some { ob with slots:=sl }:=by
 by_cases hb:b∈fs
 ·exact u.slot b ob q n hb hx
 ·exact ⟨ob.slots,u.keep b ob q n hb hx⟩
theorem Un.trans (a:Un fs ex H H1 h h1) (b:Un fs ex H1 H2 h1 h2):Un fs ex H H2 h h2 where
 keep:=fun c ob q n hc hx=>b.keep c ob (a.keep c ob q n hc hx) (a.free c ob q n hx) hc hx
 slot:=fun c ob q n hc hx=>by
  obtain ⟨sl,e1⟩:=a.slot c ob q n hc hx
  obtain ⟨TK,e2⟩:=b.slot c _ e1 (a.free c ob q n hx) hc hx
  exact ⟨TK,e2⟩
 free:=fun c ob q n hx=>by
  obtain ⟨o',e1⟩:=a.there c ob q hx
  exact b.free c o' e1 (a.free c ob q n hx) hx
 there:=fun c ob q hx=>by
  obtain ⟨o',e1⟩:=a.there c ob q hx
  exact b.there c o' e1 hx
 tups:=fun c xs q=>b.tups c xs (a.tups c xs q)
 frzs:=fun c ob xs q=>b.frzs c ob xs (a.frzs c ob xs q)
 tbls:=fun c ps q=>by
  obtain ⟨m1,e1⟩:=a.tbls c ps q
  obtain ⟨m2,e2⟩:=b.tbls c _ e1
  exact ⟨m1++m2,by rw [e2,Array.append_assoc]⟩
theorem Un.kept (k:∀b u,h.get? b=some u->h'.get? b=some u):Un fs ex H H h h':=
 ⟨fun b ob q _ _ _=>k b ob q,fun b ob q _ _ _=>⟨ob.slots,k b ob q⟩,fun _ _ _ n _=>n,fun b ob q _=>⟨ob,k b ob q⟩,fun _ _ q=>q,fun _ _ _ q=>q,fun _ ps q=>⟨#[],by rw [q];simp⟩⟩
theorem Un.refl:Un fs ex H H h h:=Un.kept fun _ _ q=>q
theorem Un.laid (k:∀b u,h.get? b=some u->h'.get? b=some u) (hp:h.objs.size<=a) (hn:H a=none):Un fs ex H (upd H a o) h h' where
 keep:=fun b u q _ _ _=>k b u q
 slot:=fun b u q _ _ _=>⟨u.slots,k b u q⟩
 free:=fun b u q n _=>by rw [aq (Nat.ne_of_lt (Nat.lt_of_lt_of_le (Heap.lt_size q) hp))];exact n
 there:=fun b u q _=>⟨u,k b u q⟩
 tups:=fun b xs q=>by rw [aq (aj q hn)];exact q
 frzs:=fun b u xs q=>by rw [aq (aj q hn)];exact q
 tbls:=fun b ps q=>⟨#[],by rw [aq (aj q hn),q];simp⟩
theorem Un.write (mu:Wv (H x)) (he:e=x\/H e=some (.own x)) (k:∀b u,b≠e->h.get? b=some u->h'.get? b=some u) (Sx:∃u,h'.get? e=some u):Un fs ex H (upd H x o) h h':=by
 have hx:∀b,H b=none->b≠x:=fun b n z=>by subst z;rw [n] at mu;exact mu
 have hb:∀b,H b=none->b≠e:=fun b n z=>by
  subst z
  rcases he with r | r
  ·exact hx b n r
  ·rw [n] at r;cases r
 have hm:∀b u,H b=some u->¬Wv (some u)->b≠x:=fun b u q nm z=>by subst z;rw [q] at mu;exact nm mu
 refine ⟨fun b u q n _ _=>k b u (hb b n) q,fun b u q n _ _=>⟨u.slots,k b u (hb b n) q⟩,fun b u q n _=>by rw [aq (hx b n)];exact n,fun b u q _=>?_,
  fun b xs q=>by rw [aq (hm b _ q fun z=>z)];exact q,fun b u xs q=>by rw [aq (hm b _ q fun z=>z)];exact q,fun b ps q=>⟨#[],by rw [aq (hm b _ q fun z=>z),q];simp⟩⟩
 by_cases RB:b=e
 ·subst RB;exact Sx
 ·exact ⟨u,k b u RB q⟩
end
def WN (h:Heap) (H:Hp):List Addr:=(List.range h.objs.size).filter fun a=>(H a).isSome
def rz (h:Heap) (H:Hp):Heap:=PySem.W.hideAll h (WN h H)
theorem Dk (h:Heap) (H:Hp):(rz h H).objs.size=h.objs.size:=PySem.W.hideAll_size _ _
theorem Ip {h:Heap} {H:Hp} {b:Addr} {o:Obj} (e:h.get? b=some o) (n:H b=none):(rz h H).get? b=some o:=
 PySem.W.hideAll_get _ e fun hm=>by
  have q:(H b).isSome=true:=(List.mem_filter.mp hm).2
  rw [n] at q;simp at q
theorem Ly {h:Heap} {H:Hp} {b:Addr} {o:Obj} (e:(rz h H).get? b=some o):h.get? b=some o/\H b=none:=by
 have e':h.get? b=some o:=PySem.W.of_hideAll (WN h H) e
 refine ⟨e',?_⟩
 cases q:H b with
 | none=>rfl
 | some x=>
  have hm:b∈WN h H:=List.mem_filter.mpr ⟨List.mem_range.mpr (Heap.lt_size e'),by simp [q]⟩
  have z:(rz h H).get? b=none:=PySem.W.hideAll_none (WN h H) hm
  rw [z] at e;cases e
def Nq (g h:Heap) (L:Addr):List (Addr×Obj):=(List.range h.objs.size).filterMap fun a=>if a=L\/(g.get? a).isSome=true then none else (h.get? a).map fun o=>(a,o)
def rest (g h:Heap) (L d:Addr):List (Addr×Obj):=(Nq g h L).filter fun p=>decide (p.1≠d)
end L2
namespace L2
open PySem PySem.Spec PyProof.Rows
structure Mod (K:PySem.W.Frag) (mg:Str->Option Value) (base:Heap):Prop where
 QX:K.In base
 glob:base.Ns mainGlobals mg
 blt:∃mb,base.Ns builtinsNs mb/\∀x:Str,x≠"__name__"->mb x=bootBuiltins x
 nolimit:base.NoLimit
structure Cx where
 prog:Program
 w:World
 K:PySem.W.Frag
 mg:Str->Option Value
 base:Heap
 A:Around
 N:List Str
 s₀:Shared
 H₀:Hp
 env:Env
 outer:List Env
 stack:List Env
 ex:List Addr
 fn:Str->Bool
 calm:Bool
 pn:List (Addr×Obj)
 xe:Value->Shared->Prop
def kO (l:List Env):List Addr:=l.filterMap (·.frame)
abbrev Cx.fs (X:Cx):List Addr:=kO X.outer
def S9 (sc:Scope) (x:Str):Prop:=sc.names.lookup x=some .local\/sc.names.lookup x=some .cell\/sc.names.lookup x=some .free
def Loc (sc:Scope) (x:Str):Prop:=sc.names.lookup x=some .local\/sc.names.lookup x=some .cell
def Look (env:Env) (h:Heap) (m:Str->Option Value) (x:Str) (u:Value):Prop:=
 (env.kindOf x=some .local/\m x=some u)\/((env.kindOf x=some .cell\/env.kindOf x=some .free)/\∃c,env.cells.lookup x=some c/\h.IsCell c (some u))
structure Cx.Ok (X:Cx):Prop where
 mod:Mod X.K X.mg X.base
 kind:X.env.scope.kind=.function
 glob:X.env.globals=mainGlobals
 blt:X.env.builtins=builtinsNs
 above:X.s₀.heap.objs.size<=X.env.locals
 inj:∀x y c,X.env.cells.lookup x=some c->X.env.cells.lookup y=some c->x=y
 has:∀x,(X.env.kindOf x=some .cell\/X.env.kindOf x=some .free)->∃c,X.env.cells.lookup x=some c
 S8:∀x c,X.fn x=true->X.env.cells.lookup x=some c->X.s₀.heap.objs.size<=c
 hd:X.calm=true->X.A.handled=none
 frames:X.A.frames=some X.stack
 WT:X.stack=X.outer\/(X.stack=X.env::X.outer/\X.env.frame=some X.env.locals)
 exf:∀b∈X.ex,b≠X.env.locals/\∀x c,X.env.cells.lookup x=some c->c≠b
 bs:∀b o,X.base.get? b=some o->X.s₀.heap.get? b=some o/\X.H₀ b=none
 DR:X.base.objs.size<=X.s₀.heap.objs.size
 Ht:∀b o,X.base.get? b=some o->b∉X.ex
 M4:∀b∈X.ex,b∉X.fs
 kx:X.s₀.heap.FunFrames X.base X.outer
 En:∀b∈X.fs,X.H₀ b=none
structure Inv (X:Cx) (pins:List (Addr×Obj)) (σ:List (Option V)) (H:Hp) (s:Shared):Prop where
 ok:X.Ok
 os:s.os=X.s₀.os
 bare:AllBare s.gens
 base:Un X.fs X.ex X.H₀ H X.s₀.heap s.heap
 loc:∃m,s.heap.Ns X.env.locals m/\∀(i:Nat) (x:Str) (v:V),X.N[i]? = some x->σ[i]? = some (some v)->S9 X.env.scope x->∃u,RelV v u/\Look X.env s.heap m x u
 cell:∀x c,X.env.cells.lookup x=some c->∃v,s.heap.IsCell c v
 free:H X.env.locals=none
 iz:∀x c,X.env.cells.lookup x=some c->H c=none
 pin:∀p∈X.pn++pins,s.heap.get? p.1=some p.2/\H p.1=none/\p.1≠X.env.locals/\p.1∉X.fs/\∀v,p.2.data≠.cell v
 bh:fA X.prog X.w H s.heap
 len:σ.length=X.N.length
section
variable {X:Cx} {pins:List (Addr×Obj)} {σ:List (Option V)} {H H':Hp} {s:Shared} {h':Heap}
theorem Cx.Ok.Z4 (ok:X.Ok) {b:Addr} {o:Obj} (e:X.base.get? b=some o):b∉X.fs:=fun hb=>by
 have:=(ok.kx.mem hb).1
 rw [e] at this;cases this
theorem Inv.bs (I:Inv X pins σ H s):∀b o,X.base.get? b=some o->s.heap.get? b=some o/\H b=none:=fun b o e=>
 ⟨I.base.keep b o (I.ok.bs b o e).1 (I.ok.bs b o e).2 (I.ok.Z4 e) (I.ok.Ht b o e),I.base.free b o (I.ok.bs b o e).1 (I.ok.bs b o e).2 (I.ok.Ht b o e)⟩
theorem Inv.bk (I:Inv X pins σ H s):∀b o,X.base.get? b=some o->s.heap.get? b=some o:=fun b o e=>(I.bs b o e).1
theorem Inv.mod (I:Inv X pins σ H s):Mod X.K X.mg X.base:=I.ok.mod
theorem Inv.jr (I:Inv X pins σ H s):X.K.In s.heap:=I.ok.mod.QX.keeps I.bk
theorem Inv.lt (I:Inv X pins σ H s):X.env.locals < s.heap.objs.size:=let ⟨_,hn,_⟩:=I.loc;hn.lt
theorem Inv.sz (I:Inv X pins σ H s):X.s₀.heap.objs.size<=s.heap.objs.size:=Nat.le_trans I.ok.above (Nat.le_of_lt I.lt)
theorem Inv.Ut (I:Inv X pins σ H s) {a:Addr} (h:s.heap.objs.size<=a):a∉X.fs:=fun hb=>by
 obtain ⟨_,o,ho,_⟩:=I.ok.kx.mem hb
 exact absurd (Nat.lt_of_lt_of_le (Heap.lt_size ho) (Nat.le_trans I.sz h)) (Nat.lt_irrefl _)
theorem Inv.Pg (I:Inv X pins σ H s):∀x c,X.env.cells.lookup x=some c->c≠X.env.locals:=fun x c e z=>by
 obtain ⟨v,o,ho,hd⟩:=I.cell x c e
 obtain ⟨m,⟨o',es,ep,Il,Vs,_⟩,_⟩:=I.loc
 rw [z,Il] at ho;cases ho;rw [Vs] at hd;cases hd
theorem Inv.kx (I:Inv X pins σ H s):s.heap.FunFrames X.base X.outer:=by
 have all:∀(l:List Env),(∀b∈kO l,b∈X.fs)->X.s₀.heap.FunFrames X.base l->s.heap.FunFrames X.base l:=by
  intro l
  induction l with
  | nil=>intro _ _;trivial
  | cons env r ih=>
   intro hs hl
   obtain ⟨hk,⟨L,o,hf,hn,ho,hd⟩,hr⟩:=hl
   have hL:L∈X.fs:=hs L (by unfold kO;rw [List.filterMap_cons,hf];exact List.mem_cons_self)
   obtain ⟨sl,e⟩:=I.base.slot L o ho (I.ok.En L hL) hL fun z=>I.ok.M4 L z hL
   exact ⟨hk,⟨L,_,hf,hn,e,hd⟩,ih (fun b hb=>hs b (by unfold kO;rw [List.filterMap_cons,hf];exact List.mem_cons_of_mem _ hb)) hr⟩
 exact all X.outer (fun _ hb=>hb) I.ok.kx
theorem Inv.stack (I:Inv X pins σ H s):s.heap.FunFrames X.base X.stack:=by
 rcases I.ok.WT with e | ⟨e,hf⟩
 ·rw [e];exact I.kx
 ·rw [e]
  obtain ⟨m,hn,_⟩:=I.loc
  refine .cons (by rw [I.ok.kind];decide) hf hn ?_ I.kx
  exact Heap.get?_none_of_le (Nat.le_trans I.ok.DR I.ok.above)
theorem Inv.nR (I:Inv X pins σ H s):∀b∈kO X.stack,b∈X.env.locals::X.fs:=fun b hb=>by
 rcases I.ok.WT with e | ⟨e,hf⟩
 ·rw [e] at hb;exact List.mem_cons_of_mem _ hb
 ·rw [e] at hb
  unfold kO at hb
  rw [List.filterMap_cons,hf] at hb
  exact hb
theorem Inv.ug (I:Inv X pins σ H s):∀b∈kO X.stack,H b=none:=fun b hb=>by
 rcases List.mem_cons.mp (I.nR b hb) with e | hb
 ·rw [e];exact I.free
 ·obtain ⟨_,o,ho,_⟩:=I.ok.kx.mem hb
  exact I.base.free b o ho (I.ok.En b hb) fun z=>I.ok.M4 b z hb
theorem Inv.step {g':Array GenState} {t':Nat} {d':Drawn} {ch:List Addr} (I:Inv X pins σ H s)
  (xH:∀b∈ch,(b∈X.ex\/X.s₀.heap.objs.size<=b)/\b≠X.env.locals/\(∀x c,X.env.cells.lookup x=some c->c≠b)/\∀p∈X.pn++pins,p.1≠b)
  (keep:∀b o,b≠X.env.locals->b∉X.fs->b∉ch->s.heap.get? b=some o->H b=none->h'.get? b=some o)
  (slot:∀b o,b≠X.env.locals->b∈X.fs->b∉ch->s.heap.get? b=some o->H b=none->∃sl,h'.get? b=some { o with slots:=sl }) (free:∀b o,b∉ch->s.heap.get? b=some o->H b=none->H' b=none)
  (there:∀b o,b∉ch->s.heap.get? b=some o->∃o',h'.get? b=some o')
  (tups:∀b xs,H b=some (.tup xs)->H' b=some (.tup xs)) (frzs:∀b o u,H b=some (.tI o u)->H' b=some (.tI o u)) (tbls:∀b ps,H b=some (.mD ps)->∃more,H' b=some (.mD (ps++more)))
  (ns:∀m,s.heap.Ns X.env.locals m->h'.Ns X.env.locals m) (bh:fA X.prog X.w H' h') (hg:AllBare g') :
  Inv X pins σ H' { s with heap:=h',gens:=g',drawn:=d',toks:=t' }:=by
 have neL:∀b o,X.s₀.heap.get? b=some o->b≠X.env.locals:=fun b o e=>Nat.ne_of_lt (Nat.lt_of_lt_of_le (Heap.lt_size e) I.ok.above)
 have W6:∀b o,X.s₀.heap.get? b=some o->b∉X.ex->b∉ch:=fun b o e hx hb=>by
  rcases (xH b hb).1 with z | z
  ·exact hx z
  ·exact absurd (Nat.lt_of_lt_of_le (Heap.lt_size e) z) (Nat.lt_irrefl _)
 have cellK:∀x c,X.env.cells.lookup x=some c->∀v,s.heap.IsCell c v->h'.IsCell c v:=fun x c e v ⟨o,ho,hd⟩=>by
  have Uu:c∉ch:=fun z=>(xH c z).2.2.1 x c e rfl
  by_cases hc:c∈X.fs
  ·obtain ⟨sl,q⟩:=slot c o (I.Pg x c e) hc Uu ho (I.iz x c e)
   exact ⟨_,q,hd⟩
  ·exact ⟨o,keep c o (I.Pg x c e) hc Uu ho (I.iz x c e),hd⟩
 refine ⟨I.ok,I.os,hg,⟨fun b o e n hb hx=>?_,fun b o e n hb hx=>?_,fun b o e n hx=>?_,fun b o e hx=>?_,fun b xs e=>tups b xs (I.base.tups b xs e),fun b o xs e=>frzs b o xs (I.base.frzs b o xs e),fun b ps e=>?_⟩,?_,fun x c e=>?_,?_,fun x c e=>?_,fun p hp=>?_,bh,I.len⟩
 ·exact keep b o (neL b o e) hb (W6 b o e hx) (I.base.keep b o e n hb hx) (I.base.free b o e n hx)
 ·obtain ⟨sl,e1⟩:=I.base.slot b o e n hb hx
  obtain ⟨TK,e2⟩:=slot b _ (neL b o e) hb (W6 b o e hx) e1 (I.base.free b o e n hx)
  exact ⟨TK,e2⟩
 ·obtain ⟨o',e1⟩:=I.base.there b o e hx
  exact free b o' (W6 b o e hx) e1 (I.base.free b o e n hx)
 ·obtain ⟨o',e1⟩:=I.base.there b o e hx
  exact there b o' (W6 b o e hx) e1
 ·obtain ⟨m1,e1⟩:=I.base.tbls b ps e
  obtain ⟨m2,e2⟩:=tbls b _ e1
  exact ⟨m1++m2,by rw [e2,Array.append_assoc]⟩
 ·obtain ⟨m,hn,hl⟩:=I.loc
  refine ⟨m,ns m hn,fun i x v e1 e2 e3=>?_⟩
  obtain ⟨u,r,l⟩:=hl i x v e1 e2 e3
  refine ⟨u,r,?_⟩
  rcases l with l | ⟨k,c,e,z⟩
  ·exact .inl l
  ·exact .inr ⟨k,c,e,cellK x c e _ z⟩
 ·obtain ⟨v,z⟩:=I.cell x c e
  exact ⟨v,cellK x c e v z⟩
 ·obtain ⟨m,⟨o,_,_,ho,_⟩,_⟩:=I.loc
  exact free _ o (fun z=>(xH _ z).2.1 rfl) ho I.free
 ·obtain ⟨v,o,ho,hd⟩:=I.cell x c e
  exact free c o (fun z=>(xH c z).2.2.1 x c e rfl) ho (I.iz x c e)
 ·obtain ⟨e,n,ne,nf,d⟩:=I.pin p hp
  have Uu:p.1∉ch:=fun z=>(xH p.1 z).2.2.2 p hp rfl
  exact ⟨keep p.1 p.2 ne nf Uu e n,free p.1 p.2 Uu e n,ne,nf,d⟩
theorem Inv.un {t':Nat} (I:Inv X pins σ H s) (u:Un X.fs [] H H' s.heap h') (bh:fA X.prog X.w H' h'):Inv X pins σ H' { s with heap:=h',toks:=t' }:=by
 obtain ⟨m,⟨o,es,ep,ho,r⟩,_⟩:=id I.loc
 obtain ⟨sl,hL⟩:=u.any ho I.free (by simp)
 exact I.step (g':=s.gens) (d':=s.drawn) (ch:=[]) (fun _ z=>nomatch z) (fun b o _ hb _ e n=>u.keep b o e n hb (by simp)) (fun b o _ hb _ e n=>u.slot b o e n hb (by simp)) (fun b o _ e n=>u.free b o e n (by simp)) (fun b o _ e=>u.there b o e (by simp)) u.tups u.frzs u.tbls (fun m' hm=>by
  obtain ⟨o',es',ep',Il,r'⟩:=hm
  rw [ho] at Il;cases Il
  exact ⟨_,es',ep',hL,r'⟩) bh I.bare
theorem Inv.call {g':Array GenState} {t':Nat} {d':Drawn} {ch:List Addr} (I:Inv X pins σ H s) (u:Un (kO X.stack) ch H H' s.heap h') (bh:fA X.prog X.w H' h') (hg:AllBare g')
  (xH:∀b∈ch,(b∈X.ex\/X.s₀.heap.objs.size<=b)/\b≠X.env.locals/\(∀x c,X.env.cells.lookup x=some c->c≠b)/\∀p∈X.pn++pins,p.1≠b) :
  Inv X pins σ H' { s with heap:=h',gens:=g',drawn:=d',toks:=t' }:=by
 obtain ⟨m,⟨o,es,ep,ho,r⟩,_⟩:=id I.loc
 obtain ⟨sl,hL⟩:=u.any ho I.free fun z=>(xH _ z).2.1 rfl
 exact I.step (ch:=ch) xH (fun b o hL hb hc e n=>u.keep b o e n (fun z=>(List.mem_cons.mp (I.nR b z)).elim hL hb) hc) (fun b o _ _ hc e n=>u.any e n hc) (fun b o hc e n=>u.free b o e n hc) (fun b o hc e=>u.there b o e hc) u.tups u.frzs u.tbls (fun m' hm=>by
  obtain ⟨o',es',ep',Il,r'⟩:=hm
  rw [ho] at Il;cases Il
  exact ⟨_,es',ep',hL,r'⟩) bh hg
theorem Inv.turned {t':Nat} {it:Addr} (I:Inv X pins σ H s) (k:∀b o,b≠it->s.heap.get? b=some o->h'.get? b=some o) (hn:H it=none) (hL:it≠X.env.locals)
  (h1:it∈X.ex\/X.s₀.heap.objs.size<=it) (h2:∀x c,X.env.cells.lookup x=some c->c≠it) (h3:∀p∈X.pn++pins,p.1≠it):Inv X pins σ H { s with heap:=h',toks:=t' }:=by
 have nit:∀b u,H b=some u->b≠it:=fun b u e z=>by rw [z,hn] at e;cases e
 refine I.step (g':=s.gens) (d':=s.drawn) (ch:=[it]) (fun b hb=>?_) (fun b o _ _ hc e _=>k b o (fun z=>hc (by simp [z])) e) (fun b o _ _ hc e _=>⟨o.slots,k b o (fun z=>hc (by simp [z])) e⟩) (fun _ _ _ _ n=>n)
  (fun b o hc e=>⟨o,k b o (fun z=>hc (by simp [z])) e⟩) (fun _ _ e=>e) (fun _ _ _ e=>e) (fun b ps e=>⟨#[],by rw [e];simp⟩) (fun m hm=>?_) (fun b u e=>?_) I.bare
 ·have e:b=it:=by simpa using hb
  subst e
  exact ⟨h1,hL,h2,h3⟩
 ·obtain ⟨o,es,ep,ho,r⟩:=hm
  exact ⟨o,es,ep,k _ o (Ne.symm hL) ho,r⟩
 ·refine (I.bh b u e).stay (fun c v hc q=>k c v ?_ q) (fun _ q=>q) fun _ _ q=>q
  rcases hc with z | z
  ·rw [z];exact nit b u e
  ·exact nit c _ z
theorem Inv.tok (I:Inv X pins σ H s) (t:Nat):Inv X pins σ H { s with toks:=t }:=I.un (h':=s.heap) (t':=t) Un.refl I.bh
theorem Inv.kept {t':Nat} (I:Inv X pins σ H s) (k:∀b u,s.heap.get? b=some u->h'.get? b=some u):Inv X pins σ H { s with heap:=h',toks:=t' }:=I.un (Un.kept k) (I.bh.kept k)
theorem Inv.laid {a:Addr} {o:HO} {t':Nat} (I:Inv X pins σ H s) (k:∀b u,s.heap.get? b=some u->h'.get? b=some u) (hp:s.heap.objs.size<=a) (new:cD X.prog X.w (upd H a o) h' a o) :
  Inv X pins σ (upd H a o) { s with heap:=h',toks:=t' }:=I.un (Un.laid k hp (I.bh.fresh hp)) (I.bh.laid k hp new)
theorem Inv.write {x e:Addr} {o:HO} {t':Nat} (I:Inv X pins σ H s) (mu:Wv (H x)) (he:e=x\/H e=some (.own x)) (k:∀b u,b≠e->s.heap.get? b=some u->h'.get? b=some u) (Sx:∃u,h'.get? e=some u)
  (new:cD X.prog X.w (upd H x o) h' x o):Inv X pins σ (upd H x o) { s with heap:=h',toks:=t' }:=I.un (Un.write mu he k Sx) (I.bh.write mu he k Sx new)
theorem Inv.zW {GZ:List (Addr×Obj)} (I:Inv X pins σ H s) (h:∀p∈GZ,s.heap.get? p.1=some p.2/\H p.1=none/\p.1≠X.env.locals/\p.1∉X.fs/\∀v,p.2.data≠.cell v):Inv X GZ σ H s:=
 ⟨I.ok,I.os,I.bare,I.base,I.loc,I.cell,I.free,I.iz,fun p hp=>(List.mem_append.mp hp).elim (fun z=>I.pin p (List.mem_append_left _ z)) (h p),I.bh,I.len⟩
theorem p8 {N:List Str} (hN:N.Nodup) {i j:Nat} {x:Str} (a:N[i]? = some x) (b:N[j]? = some x):i=j:=by
 obtain ⟨h1,e1⟩:=List.getElem?_eq_some_iff.mp a
 obtain ⟨h2,e2⟩:=List.getElem?_eq_some_iff.mp b
 exact (List.getElem_inj hN).mp (e1.trans e2.symm)
theorem rY {M:Model} {A:Around} {E:Value->Shared->Prop} {i:Nat} {x:Str} {v:V} {u:Value} {Q:Unit->Shared->Prop} (I:Inv X pins σ H s) (hN:X.N.Nodup) (hi:X.N[i]? = some x) (hx:Loc X.env.scope x) (r:RelV v u)
  (h:∀s',Inv X pins (σ.set i (some v)) H s'->(∃a,Heap.SameBut a s.heap s'.heap/\(a=X.env.locals\/X.env.cells.lookup x=some a))->Q () s') (hf:X.fn x=true\/X.env.scope.names.lookup x=some .local:=by first | exact .inl rfl | exact .inr rfl | assumption):wpAny M A (storeName X.env x u) Q E s:=by
 obtain ⟨m,hn,hl⟩:=id I.loc
 have aAL:(X.env.scope.kind == .class || (X.env.scope.kind == .module && X.env.locals != X.env.globals))=false:=by rw [I.ok.kind];rfl
 have hiσ:i < σ.length:=by rw [I.len];exact (List.getElem?_eq_some_iff.mp hi).1
 have Pg:=I.Pg
 have tracked:∀{a:Addr} {h':Heap},(∃o,s.heap.get? a=some o/\H a=none)->Heap.SameBut a s.heap h'->fA X.prog X.w H h':=fun {a h'} ha hs b ob e=>by
  obtain ⟨_,_,wX⟩:=ha
  refine (I.bh b ob e).stay (fun c w' hc q=>(hs.2 c ?_).trans q) (fun _ q=>q) fun _ _ q=>q
  rintro rfl
  rcases hc with rfl | hc
  ·rw [wX] at e;cases e
  ·rw [wX] at hc;cases hc
 rcases hx with hk | hk
 ·refine wpAny_storeName_local hk hn (fun h' tf hs=>?_) aAL
  obtain ⟨oL,_,_,J0,_⟩:=id hn
  refine h _ ⟨I.ok,I.os,I.bare,⟨fun b o e n hb hx=>?_,fun b o e n hb hx=>?_,I.base.free,fun b o e hx=>?_,I.base.tups,I.base.frzs,I.base.tbls⟩,⟨_,tf,fun j y v' e1 e2 e3=>?_⟩,fun y c e=>?_,I.free,I.iz,fun p hp=>?_,tracked ⟨oL,J0,I.free⟩ hs,by simpa using I.len⟩ ⟨_,hs,.inl rfl⟩
  ·exact (hs.2 b (Nat.ne_of_lt (Nat.lt_of_lt_of_le (Heap.lt_size e) I.ok.above))).trans (I.base.keep b o e n hb hx)
  ·obtain ⟨sl,e1⟩:=I.base.slot b o e n hb hx
   exact ⟨sl,(hs.2 b (Nat.ne_of_lt (Nat.lt_of_lt_of_le (Heap.lt_size e) I.ok.above))).trans e1⟩
  ·obtain ⟨o',e1⟩:=I.base.there b o e hx
   exact ⟨o',(hs.2 b (Nat.ne_of_lt (Nat.lt_of_lt_of_le (Heap.lt_size e) I.ok.above))).trans e1⟩
  ·by_cases hj:j=i
   ·subst hj
    rw [hi] at e1;cases e1
    rw [List.getElem?_set_self hiσ] at e2
    cases e2
    exact ⟨u,r,.inl ⟨hk,by simp⟩⟩
   ·rw [List.getElem?_set_ne (Ne.symm hj)] at e2
    obtain ⟨u',r',q⟩:=hl j y v' e1 e2 e3
    refine ⟨u',r',?_⟩
    rcases q with ⟨k,e⟩ | ⟨k,c,e,z⟩
    ·refine .inl ⟨k,?_⟩
     have:y≠x:=fun e=>hj (p8 hN e1 (e ▸ hi))
     simp [this,e]
    ·exact .inr ⟨k,c,e,z.sameBut hs (Pg y c e)⟩
  ·obtain ⟨w',z⟩:=I.cell y c e
   exact ⟨w',z.sameBut hs (Pg y c e)⟩
  ·obtain ⟨e,n,ne,nf,d⟩:=I.pin p hp
   exact ⟨(hs.2 p.1 ne).trans e,n,ne,nf,d⟩
 ·have Ir:X.fn x=true:=by
   rcases hf with z | z
   ·exact z
   ·rw [z] at hk;cases hk
  obtain ⟨c,hc⟩:=I.ok.has x (.inl hk)
  obtain ⟨w',z⟩:=I.cell x c hc
  refine wpAny_storeName_cell I.ok.kind hk hc z (fun h' hV hs=>?_)
  obtain ⟨oc,nG,aAE⟩:=id z
  refine h { s with heap:=h' } ⟨I.ok,I.os,I.bare,⟨fun b o e n hb hx=>?_,fun b o e n hb hx=>?_,I.base.free,fun b o e hx=>?_,I.base.tups,I.base.frzs,I.base.tbls⟩,⟨m,hn.sameBut hs (Ne.symm (Pg x c hc)),fun j y v' e1 e2 e3=>?_⟩,fun y c' e=>?_,I.free,I.iz,fun p hp=>?_,tracked ⟨oc,nG,I.iz x c hc⟩ hs,by simpa using I.len⟩ ⟨c,hs,.inr hc⟩
  ·exact (hs.2 b (Nat.ne_of_lt (Nat.lt_of_lt_of_le (Heap.lt_size e) (I.ok.S8 x c Ir hc)))).trans (I.base.keep b o e n hb hx)
  ·obtain ⟨sl,e1⟩:=I.base.slot b o e n hb hx
   exact ⟨sl,(hs.2 b (Nat.ne_of_lt (Nat.lt_of_lt_of_le (Heap.lt_size e) (I.ok.S8 x c Ir hc)))).trans e1⟩
  ·obtain ⟨o',e1⟩:=I.base.there b o e hx
   exact ⟨o',(hs.2 b (Nat.ne_of_lt (Nat.lt_of_lt_of_le (Heap.lt_size e) (I.ok.S8 x c Ir hc)))).trans e1⟩
  ·by_cases hj:j=i
   ·subst hj
    rw [hi] at e1;cases e1
    rw [List.getElem?_set_self hiσ] at e2
    cases e2
    exact ⟨u,r,.inr ⟨.inl hk,c,hc,hV⟩⟩
   ·rw [List.getElem?_set_ne (Ne.symm hj)] at e2
    obtain ⟨u',r',q⟩:=hl j y v' e1 e2 e3
    refine ⟨u',r',?_⟩
    rcases q with q | ⟨k,c',e,z'⟩
    ·exact .inl q
    ·refine .inr ⟨k,c',e,z'.sameBut hs ?_⟩
     rintro rfl
     exact hj (p8 hN e1 (I.ok.inj _ _ _ e hc ▸ hi))
  ·by_cases hcc:c'=c
   ·subst hcc;exact ⟨_,hV⟩
   ·obtain ⟨w2,z2⟩:=I.cell y c' e
    exact ⟨w2,z2.sameBut hs hcc⟩
  ·obtain ⟨e,n,ne,nf,d⟩:=I.pin p hp
   refine ⟨(hs.2 p.1 ?_).trans e,n,ne,nf,d⟩
   intro q
   rw [q,nG] at e
   have q':oc=p.2:=Option.some.inj e
   exact d w' (by rw [<-q'];exact aAE)
theorem mS {M:Model} {A:Around} {E:Value->Shared->Prop} {i:Nat} {x:Str} {v:V} {u:Value} {Q:Unit->Shared->Prop} (I:Inv X pins σ H s) (hN:X.N.Nodup) (hi:X.N[i]? = some x) (hx:Loc X.env.scope x) (r:RelV v u)
  (h:∀s',Inv X pins (σ.set i (some v)) H s'->Q () s') (hf:X.fn x=true\/X.env.scope.names.lookup x=some .local:=by first | exact .inl rfl | exact .inr rfl | assumption):wpAny M A (storeName X.env x u) Q E s:=
 rY I hN hi hx r (fun s' I' _=>h s' I') hf
theorem Inv.call' {s':Shared} {ch:List Addr} (I:Inv X pins σ H s) (ho:s'.os=s.os) (u:Un (kO X.stack) ch H H' s.heap s'.heap) (bh:fA X.prog X.w H' s'.heap) (hg:AllBare s'.gens)
  (xH:∀b∈ch,(b∈X.ex\/X.s₀.heap.objs.size<=b)/\b≠X.env.locals/\(∀x c,X.env.cells.lookup x=some c->c≠b)/\∀p∈X.pn++pins,p.1≠b):Inv X pins σ H' s':=by
 obtain ⟨h',g',d',t',o'⟩:=s'
 have e:o'=s.os:=ho
 subst e
 exact I.call (g':=g') (t':=t') (d':=d') u bh hg xH
end
abbrev XK:=Value->Option Addr->Hp->Prop
abbrev St:=List (Option V)
abbrev VK:=V->Hp->Prop
abbrev TE:=St->Hp->VK->Prop
abbrev TT:=St->Hp->(Bool->Hp->Prop)->Prop
abbrev TA:=St->Hp->(List V->Hp->Prop)->Prop
structure Ends where
 nx:St->Hp->Prop
 rt:VK
 bk:St->Hp->Prop:=fun _ _=>False
 ct:St->Hp->Prop:=fun _ _=>False
abbrev TS:=Ends->St->Hp->Prop
def EP (X:Cx) (pins:List (Addr×Obj)) (σ:St) (Q:VK) (u:Value) (s':Shared):Prop:=∃v H',Inv X pins σ H' s'/\RelV v u/\Q v H'
def TP (X:Cx) (pins:List (Addr×Obj)) (σ:St) (Q:Bool->Hp->Prop) (b:Bool) (s':Shared):Prop:=∃H',Inv X pins σ H' s'/\Q b H'
def AP (X:Cx) (pins:List (Addr×Obj)) (σ:St) (Q:List V->Hp->Prop) (us:List Value) (s':Shared):Prop:=∃vs H',Inv X pins σ H' s'/\Vals vs us/\Q vs H'
def SP (X:Cx) (pins:List (Addr×Obj)) (D:Ends) (f:Flow) (s':Shared):Prop:=
 match f with
 | .next=>∃σ' H',Inv X pins σ' H' s'/\D.nx σ' H'
 | .brk=>∃σ' H',Inv X pins σ' H' s'/\D.bk σ' H'
 | .cont=>∃σ' H',Inv X pins σ' H' s'/\D.ct σ' H'
 | .ret u=>∃v σ' H',Inv X pins σ' H' s'/\RelV v u/\D.rt v H'
def PE (X:Cx) (e:Expr) (t:TE):Prop:=
 ∀(pins:List (Addr×Obj)) (s:Shared) (σ:St) (H:Hp) (Q:VK),Inv X pins σ H s->t σ H Q->wpAny (model X.prog X.w) X.A (eval e X.env) (EP X pins σ Q) X.xe s
def PT (X:Cx) (e:Expr) (t:TT):Prop:=
 ∀(pins:List (Addr×Obj)) (s:Shared) (σ:St) (H:Hp) (Q:Bool->Hp->Prop),Inv X pins σ H s->t σ H Q->wpAny (model X.prog X.w) X.A (isTrue e X.env (eval e X.env)) (TP X pins σ Q) X.xe s
def PW (X:Cx) (e:Expr) (t:TT):Prop:=
 ∀(whole:Sem Value) (pins:List (Addr×Obj)) (s:Shared) (σ:St) (H:Hp) (Q:Bool->Hp->Prop),Inv X pins σ H s->t σ H Q->wpAny (model X.prog X.w) X.A (isTrue e X.env whole) (TP X pins σ Q) X.xe s
theorem PW.pt {X:Cx} {e:Expr} {t:TT} (h:PW X e t):PT X e t:=h _
def PA (X:Cx) (es:List Expr) (t:TA):Prop:=
 ∀(pos:Pos) (pins:List (Addr×Obj)) (s:Shared) (σ:St) (H:Hp) (Q:List V->Hp->Prop),Inv X pins σ H s->t σ H Q->wpAny (model X.prog X.w) X.A (spliced (backTo pos (starEach es X.env))) (AP X pins σ Q) X.xe s
def PS (X:Cx) (st:Stmt) (t:TS):Prop:=
 ∀(pins:List (Addr×Obj)) (s:Shared) (σ:St) (H:Hp) (D:Ends),Inv X pins σ H s->t D σ H->wpAny (model X.prog X.w) X.A (exec st X.env) (SP X pins D) X.xe s
def vr (X:Cx) (st:List Stmt) (t:TS):Prop:=
 ∀(pins:List (Addr×Obj)) (s:Shared) (σ:St) (H:Hp) (D:Ends),Inv X pins σ H s->t D σ H->wpAny (model X.prog X.w) X.A (execs st X.env) (SP X pins D) X.xe s
theorem cy {α:Type} {t:Sem α} {Q Q':α->Shared->Prop} {M:Model} {A:Around} {E:Value->Shared->Prop} {s:Shared} (h:wpAny M A t Q E s) (hQ:∀a s,Q a s->Q' a s):wpAny M A t Q' E s:=wpAny_mono h hQ fun _ _ x=>x
end L2
namespace L2
open PySem PySem.Spec PyProof.Rows
section
variable {X:Cx}
theorem bin {a b:Expr} {ta tb:TE} (ha:PE X a ta) (hb:PE X b tb) {pins:List (Addr×Obj)} {s:Shared} {σ:St} {H:Hp} {R:V->V->Hp->Prop} (I:Inv X pins σ H s) (h:ta σ H fun x H1=>tb σ H1 fun y H2=>R x y H2)
  {α:Type} {Q:α->Shared->Prop} {f:Value->Value->Sem α}
  (hf:∀v u s2 x y H2,Inv X pins σ H2 s2->RelV x v->RelV y u->R x y H2->wpAny (model X.prog X.w) X.A (f v u) Q X.xe s2) :
  wpAny (model X.prog X.w) X.A (eval a X.env) (fun v s₁=>wpAny (model X.prog X.w) X.A (eval b X.env) (fun u s₂=>wpAny (model X.prog X.w) X.A (f v u) Q X.xe s₂) X.xe s₁) X.xe s:=by
 refine cy (ha pins s σ H _ I h) fun v s1 ⟨x,H1,I1,r1,q1⟩=>?_
 refine cy (hb pins s1 σ H1 _ I1 q1) fun u s2 ⟨y,H2,I2,r2,q2⟩=>?_
 exact hf v u s2 x y H2 I2 r1 r2 q2
def vI (i:Nat):TE:=fun σ H Q=>∃v,σ[i]? = some (some v)/\Q v H
def tC (v:V):TE:=fun _ H Q=>Q v H
theorem G7 {i:Nat} {x:Str} {pos:Pos} (hN:X.N[i]? = some x) (hv:S9 X.env.scope x) (hd:(x == ("__debug__" : Str))=false:=by decide) (rA:(x == ("__classdict__" : Str))=false:=by decide):PE X (.Name x pos) (vI i):=by
 intro pins s σ H Q I h
 obtain ⟨v,e,h⟩:=h
 obtain ⟨m,hn,hl⟩:=I.loc
 obtain ⟨u,r,l⟩:=hl i x v hN e hv
 have fin:EP X pins σ Q u s:=⟨v,H,I,r,h⟩
 rcases l with ⟨hk,hm⟩ | ⟨hk,c,hc,kM⟩
 ·exact wpAny_Name (wpAny_loadName_local I.ok.kind hk hn hm fin) hd
 ·rcases hk with hk | hk
  ·exact wpAny_Name (wpAny_loadName_cell I.ok.kind hk hc kM fin) hd
  ·exact wpAny_Name (wpAny_loadName_free I.ok.kind hk hc kM fin rA) hd
theorem Qt {i j pos}:PE X (.Constant (.int i) j pos) (tC (.int i)):=fun _ _ _ H _ I h=>wpAny_Constant_int ⟨.int i,H,I.tok _,⟨_,rfl⟩,h⟩
theorem Uj {b j pos}:PE X (.Constant (.bool b) j pos) (tC (.bl b)):=fun _ _ _ H _ I h=>Constant_bool ⟨.bl b,H,I,rfl,h⟩
theorem Qq {x j pos}:PE X (.Constant (.str x) j pos) (tC (.str x)):=fun _ _ _ H _ I h=>Calls.Constant_str ⟨.str x,H,I.tok _,⟨_,rfl⟩,h⟩
def Gl (X:Cx) (x:Str):Prop:=X.env.kindOf x=some .globalImplicit
theorem kg {E:Value->Shared->Prop} {pins:List (Addr×Obj)} {s:Shared} {σ:St} {H:Hp} {x:Str} {u:Value} {pos:Pos} {Q:Value->Shared->Prop} (I:Inv X pins σ H s) (hg:Gl X x) (hm:X.mg x=some u) (h:Q u s)
  (hd:(x == ("__debug__" : Str))=false:=by decide):wpAny (model X.prog X.w) X.A (eval (.Name x pos) X.env) Q E s:=
 Calls.Name_function_global I.ok.kind hg (Calls.loadGlobal_global (by rw [I.ok.glob];exact I.mod.glob.keeps I.bk) hm h) hd
theorem nW {E:Value->Shared->Prop} {pins:List (Addr×Obj)} {s:Shared} {σ:St} {H:Hp} {x:Str} {u:Value} {pos:Pos} {Q:Value->Shared->Prop} (I:Inv X pins σ H s) (hg:Gl X x) (hm:X.mg x=none) (hv:bootBuiltins x=some u) (h:Q u s)
  (hn:x≠"__name__":=by decide) (hd:(x == ("__debug__" : Str))=false:=by decide):wpAny (model X.prog X.w) X.A (eval (.Name x pos) X.env) Q E s:=by
 obtain ⟨mb,h1,h2⟩:=I.mod.blt
 exact Calls.Name_function_global I.ok.kind hg (Calls.loadGlobal_builtin (by rw [I.ok.glob];exact I.mod.glob.keeps I.bk) hm (by rw [I.ok.blt];exact h1.keeps I.bk) ((h2 x hn).trans hv) h) hd
theorem uG {x:Str} {v:V} {u:Value} {pos:Pos} (hg:Gl X x) (hm:X.mg x=none) (hv:bootBuiltins x=some u) (r:RelV v u) (hn:x≠"__name__":=by decide) (hd:(x == ("__debug__" : Str))=false:=by decide):PE X (.Name x pos) (tC v):=
 fun _ _ _ H _ I h=>nW I hg hm hv ⟨v,H,I,r,h⟩ hn hd
variable {a b:Expr} {ta tb:TE} {pos:Pos}
def PC (X:Cx) (op:CmpOp) (a b:Expr) (t:TE):Prop:=
 ∀(pins:List (Addr×Obj)) (s:Shared) (σ:St) (H:Hp) (Q:VK),Inv X pins σ H s->t σ H Q->
  wpAny (model X.prog X.w) X.A (eval a X.env) (fun v s₁=>wpAny (model X.prog X.w) X.A (eval b X.env) (fun u s₂=>wpAny (model X.prog X.w) X.A (compareOp op v u) (EP X pins σ Q) X.xe s₂) X.xe s₁) X.xe s
theorem Hu (b:Expr) {op:CmpOp} (h:op≠.In) (h2:op≠.NotIn):behindInMarks op b=false:=by
 have e1:(op == CmpOp.In)=false:=by cases op <;> first | rfl | exact absurd rfl h
 have e2:(op == CmpOp.NotIn)=false:=by cases op <;> first | rfl | exact absurd rfl h2
 cases b <;> simp [behindInMarks,e1,e2]
def tB (t:TE):TT:=fun σ H Q=>t σ H fun x H1=>∃c,x=.bl c/\Q c H1
theorem GQ {op:CmpOp} {t:TE} (h:PC X op a b t) (h1:behindInMarks op b=false:=by first | exact Hu _ (by decide) (by decide) | rfl):PT X (.Compare a [op] [b] pos) (tB t):=by
 intro pins s σ H Q I hw
 refine wpAny_isTrue_Compare1 (cy (h pins s σ H _ I hw) fun v s1 h1=>cy h1 fun u s2 h2=>cy h2 fun c s3 ⟨x,H1,I1,r1,q1⟩=>?_) h1
 obtain ⟨d,rfl,q⟩:=q1
 cases r1
 exact wpAny_truthy_bool ⟨H1,I1,q⟩
theorem GP {e:Expr} {t:TE} (h:PE X e t) (he:∀whole,isTrue e X.env whole=(do let v <-whole;standAt e.pos;holding [v] (truthy v)):=by intro _;rfl):PT X e (tB t):=by
 intro pins s σ H Q I hw
 refine isTrue_plain (cy (h pins s σ H _ I hw) fun v s1 ⟨x,H1,I1,r1,q1⟩=>?_) (he _)
 obtain ⟨d,rfl,q⟩:=q1
 cases r1
 exact wpAny_truthy_bool ⟨H1,I1,q⟩
variable {tA JV:TT} {rest:List Expr}
def Fs (t u:TT):TT:=fun σ H Q=>t σ H fun c H1=>if c=true then u σ H1 Q else Q false H1
def Tr (t u:TT):TT:=fun σ H Q=>t σ H fun c H1=>if c=true then Q true H1 else u σ H1 Q
def Fm (t:TT):TT:=fun σ H Q=>t σ H fun c H1=>Q (!c) H1
theorem KZ (ha:PT X a tA):PW X (.BoolOp .And [a] pos) tA:=by
 intro wh pins s σ H Q I h
 refine isTrue_and (cy (ha pins s σ H Q I h) fun c s1 e=>?_)
 cases c with
 | true=>exact isTrue_and_nil e
 | false=>exact e
theorem Qd (ha:PT X a tA):PW X (.BoolOp .Or [a] pos) tA:=by
 intro wh pins s σ H Q I h
 refine isTrue_or (cy (ha pins s σ H Q I h) fun c s1 e=>?_)
 cases c with
 | false=>exact isTrue_or_nil e
 | true=>exact e
theorem Qe (ha:PT X a tA) (hb:PW X (.BoolOp .And (b::rest) pos) JV):PW X (.BoolOp .And (a::b::rest) pos) (Fs tA JV):=by
 intro wh pins s σ H Q I h
 refine isTrue_and (cy (ha pins s σ H _ I h) fun c s1 ⟨H1,I1,q1⟩=>?_)
 cases c with
 | true=>exact hb wh pins s1 σ H1 Q I1 q1
 | false=>exact ⟨H1,I1,q1⟩
theorem Ub (ha:PT X a tA) (hb:PW X (.BoolOp .Or (b::rest) pos) JV):PW X (.BoolOp .Or (a::b::rest) pos) (Tr tA JV):=by
 intro wh pins s σ H Q I h
 refine isTrue_or (cy (ha pins s σ H _ I h) fun c s1 ⟨H1,I1,q1⟩=>?_)
 cases c with
 | true=>exact ⟨H1,I1,q1⟩
 | false=>exact hb wh pins s1 σ H1 Q I1 q1
theorem Qf (ha:PT X a tA):PT X (.UnaryOp .Not a pos) (Fm tA):=by
 intro pins s σ H Q I h
 exact isTrue_not (ha pins s σ H (fun c H1=>Q (!c) H1) I h)
def Fq (ta tb:TE):TE:=fun σ H Q=>ta σ H fun x H1=>∃c,x=.bl c/\if c=true then tb σ H1 Q else Q (.bl false) H1
def Px (ta tb:TE):TE:=fun σ H Q=>ta σ H fun x H1=>∃c,x=.bl c/\if c=true then Q (.bl true) H1 else tb σ H1 Q
def vL (ta:TE):TE:=fun σ H Q=>ta σ H fun x H1=>∃c,x=.bl c/\Q (.bl (!c)) H1
theorem Qr (ha:PE X a ta):PE X (.UnaryOp .Not a pos) (vL ta):=by
 intro pins s σ H Q I h
 refine UnaryOp_ (cy (ha pins s σ H _ I h) fun v s1 ⟨x,H1,I1,r1,q1⟩=>?_)
 obtain ⟨c,rfl,q1⟩:=q1
 cases r1
 exact not_of (wpAny_truthy_bool ⟨.bl (!c),H1,I1,rfl,q1⟩)
def X5 (t:TT) (ta tb:TE):TE:=fun σ H Q=>t σ H fun c H1=>if c=true then ta σ H1 Q else tb σ H1 Q
end
end L2
namespace L2
open PySem PySem.Spec PyProof.Rows
def mG (K:PySem.W.Frag) (H:Hp) (a:Addr) (xs:List V):Prop:=
 Rd H a (.lst xs)\/
  ∃(o:Obj) (its:Array Value) (n:Nat),K.lookup a=some o/\o.cls=.type "list"/\o.dict=none/\o.data=.seq its n/\its.size<=sizeLine/\Vals xs its.toList
def rE (K:PySem.W.Frag) (H:Hp) (a:Addr) (xs:List V):Prop:=
 Rd H a (.tup xs)\/
  ∃(o:Obj) (its:Array Value) (n:Nat),K.lookup a=some o/\o.cls=.type "tuple"/\o.data=.seq its n/\its.size<=sizeLine/\Vals xs its.toList
def aBx:Value->Option V
 | .none=>some .non
 | .bool b=>some (.bl b)
 | .int i _=>some (.int i)
 | .str x _=>some (.str x)
 | .bytes b _=>some (.Ep b)
 | .float b _=>some (.RV b)
 | .ref a=>some (.ref a)
 | .type n=>some (.ty n)
 | _=>none
theorem RelV.abs {x:V} {u:Value} (r:RelV x u):aBx u=some x:=by
 cases x with
 | non=>cases r;rfl
 | bl _=>cases r;rfl
 | int _=>obtain ⟨t,rfl⟩:=r;rfl
 | str _=>obtain ⟨t,rfl⟩:=r;rfl
 | Ep _=>obtain ⟨t,rfl⟩:=r;rfl
 | RV _=>obtain ⟨t,rfl⟩:=r;rfl
 | ref _=>cases r;rfl
 | ty _=>cases r;rfl
theorem RelV.inj {x y:V} {u:Value} (r:RelV x u) (q:RelV y u):x=y:=Option.some.inj (r.abs.symm.trans q.abs)
theorem Vals.inj:∀{xs ys:List V} {us:List Value},Vals xs us->Vals ys us->xs=ys
 | _,_,_,.nil,.nil=>rfl
 | _,_,_,.cons r t,.cons r' t'=>by rw [r.inj r',Vals.inj t t']
section
variable {X:Cx} {pins:List (Addr×Obj)} {σ:St} {H:Hp} {s:Shared} {a:Addr} {xs ys:List V}
theorem mG.of {K:PySem.W.Frag} (h:H a=some (.lst xs)):mG K H a xs:=.inl (.inl h)
theorem rE.of {K:PySem.W.Frag} (h:H a=some (.tup xs)):rE K H a xs:=.inl (.inl h)
theorem Inv.list (I:Inv X pins σ H s) (h:mG X.K H a xs):∃its:List Value,Vals xs its/\PlainL s.heap a its.toArray/\xs.length<=sizeLine:=by
 rcases h with h | ⟨o,its,n,hk,hc,hd,hs,hz,r⟩
 ·obtain ⟨z,its,n,r,e⟩:=h.ok I.bh
  exact ⟨its,r,⟨_,n,e,rfl,rfl,rfl⟩,z⟩
 ·refine ⟨its.toList,r,⟨o,n,I.jr a o hk,hc,hd,by simpa using hs⟩,?_⟩
  have e:=r.length
  simp only [Array.length_toList] at e
  lia
theorem Inv.tuple (I:Inv X pins σ H s) (h:rE X.K H a xs):∃its:List Value,Vals xs its/\IsTup s.heap a its.toArray/\xs.length<=sizeLine:=by
 rcases h with h | ⟨o,its,n,hk,hc,hs,hz,r⟩
 ·obtain ⟨z,its,r,p⟩:=h.ok I.bh
  exact ⟨its,r,p,z⟩
 ·refine ⟨its.toList,r,⟨o,I.jr a o hk,hc,n,by simpa using hs⟩,?_⟩
  have e:=r.length
  simp only [Array.length_toList] at e
  lia
theorem Inv.wA (I:Inv X pins σ H s) (h:mG X.K H a xs) (h':mG X.K H a ys):xs=ys:=by
 obtain ⟨its,r,⟨o,n,e,_,_,d⟩,_⟩:=I.list h
 obtain ⟨its',r',⟨o',n',e',_,_,d'⟩,_⟩:=I.list h'
 rw [e] at e';cases e'
 rw [d] at d'
 injection d' with d1 _
 have:its=its':=by simpa using congrArg Array.toList d1
 subst this
 exact r.inj r'
theorem Inv.BJ (I:Inv X pins σ H s) (h:rE X.K H a xs) (h':rE X.K H a ys):xs=ys:=by
 obtain ⟨its,r,⟨o,e,_,n,d⟩,_⟩:=I.tuple h
 obtain ⟨its',r',⟨o',e',_,n',d'⟩,_⟩:=I.tuple h'
 rw [e] at e';cases e'
 rw [d] at d'
 injection d' with d1 _
 have:its=its':=by simpa using congrArg Array.toList d1
 subst this
 exact r.inj r'
end
abbrev Cx.wish (X:Cx) (E:Value->Shared->Prop):Cx:={ X with xe:=E }
abbrev Cx.qP (X:Cx):Cx:=X.wish fun _ _=>False
theorem Cx.Ok.wish {X:Cx} (ok:X.Ok) (E:Value->Shared->Prop):(X.wish E).Ok:=
 ⟨ok.mod,ok.kind,ok.glob,ok.blt,ok.above,ok.inj,ok.has,ok.S8,ok.hd,ok.frames,ok.WT,ok.exf,ok.bs,ok.DR,ok.Ht,ok.M4,ok.kx,ok.En⟩
theorem Cx.Ok.jt {X:Cx} {E:Value->Shared->Prop} (ok:(X.wish E).Ok):X.Ok:=
 ⟨ok.mod,ok.kind,ok.glob,ok.blt,ok.above,ok.inj,ok.has,ok.S8,ok.hd,ok.frames,ok.WT,ok.exf,ok.bs,ok.DR,ok.Ht,ok.M4,ok.kx,ok.En⟩
section
variable {X:Cx} {pins:List (Addr×Obj)} {σ:St} {H:Hp} {s:Shared} {E:Value->Shared->Prop}
theorem Inv.wish (I:Inv X pins σ H s) (E:Value->Shared->Prop):Inv (X.wish E) pins σ H s:=⟨I.ok.wish E,I.os,I.bare,I.base,I.loc,I.cell,I.free,I.iz,I.pin,I.bh,I.len⟩
theorem Inv.jt (I:Inv (X.wish E) pins σ H s):Inv X pins σ H s:=⟨I.ok.jt,I.os,I.bare,I.base,I.loc,I.cell,I.free,I.iz,I.pin,I.bh,I.len⟩
theorem SP.jt {D:Ends} {f:Flow} {s':Shared} (h:SP (X.wish E) pins D f s'):SP X pins D f s':=by
 cases f with
 | next=>obtain ⟨σ',H',I,q⟩:=h;exact ⟨σ',H',I.jt,q⟩
 | brk=>obtain ⟨σ',H',I,q⟩:=h;exact ⟨σ',H',I.jt,q⟩
 | cont=>obtain ⟨σ',H',I,q⟩:=h;exact ⟨σ',H',I.jt,q⟩
 | ret u=>obtain ⟨v,σ',H',I,r,q⟩:=h;exact ⟨v,σ',H',I.jt,r,q⟩
theorem vr.qP {st:List Stmt} {t:TS} (h:vr X.qP st t):vr X st t:=fun pins s σ H D I hw=>
 wpAny_mono (h pins s σ H D (I.wish _) hw) (fun _ _ q=>q.jt) fun _ _ z=>False.elim z
end
section
variable {X:Cx} {st:Stmt} {rest:List Stmt} {t u:TS} {e:Expr} {te:TE} {pos:Pos}
def rR:TS:=fun D σ H=>D.nx σ H
def BK (t u:TS):TS:=fun D σ H=>t { D with nx:=u D } σ H
theorem K3:vr X [] rR:=fun _ _ σ H _ I h=>wpAny_execs_nil ⟨σ,H,I,h⟩
theorem GR (h1:PS X st t) (h2:vr X rest u):vr X (st::rest) (BK t u):=by
 intro pins s σ H D I h
 refine wpAny_execs_cons (cy (h1 pins s σ H { D with nx:=u D } I h) fun f s1 q=>?_)
 cases f with
 | next=>
  obtain ⟨σ',H',I',q⟩:=q
  exact h2 pins s1 σ' H' D I' q
 | ret v=>exact q
 | brk=>exact q
 | cont=>exact q
theorem K1 (h1:PS X st t):vr X [st] t:=by
 intro pins s σ H D I h
 refine wpAny_execs_cons (cy (h1 pins s σ H D I h) fun f s1 q=>?_)
 cases f with
 | next=>exact wpAny_execs_nil q
 | ret v=>exact q
 | brk=>exact q
 | cont=>exact q
theorem Inv.quiet {pins:List (Addr×Obj)} {σ:St} {H:Hp} {s:Shared} (I:Inv X pins σ H s):interactive X.env=false:=by simp [interactive,I.ok.kind]
def vM (te:TE):TS:=fun D σ H=>te σ H fun _ H1=>D.nx σ H1
theorem zU (he:PE X e te) (hs:swapsWith e none pos.line X.env=pure false:=by rfl):PS X (.Expr e pos) (vM te):=by
 intro pins s σ H D I h
 exact wpAny_Expr_any (cy (he pins s σ H _ I h) fun v s1 ⟨x,H1,I1,r1,q1⟩=>⟨σ,H1,I1,q1⟩) I.quiet hs
def Fj (te:TE):TS:=fun D σ H=>te σ H D.rt
theorem Qh (he:PE X e te):PS X (.Return (some e) pos) (Fj te):=by
 intro pins s σ H D I h
 exact wpAny_Return_some (cy (he pins s σ H _ I h) fun v s1 ⟨x,H1,I1,r1,q1⟩=>⟨x,σ,H1,I1,r1,q1⟩)
def Fi:TS:=fun D _ H=>D.rt .non H
def BM (c:TT) (t u:TS):TS:=fun D σ H=>c σ H fun b H1=>if b=true then t D σ H1 else u D σ H1
theorem Ue {c:Expr} {a b:List Stmt} {tc:TT} (hc:PT X c tc) (ha:vr X a t) (hb:vr X b u):PS X (.If c a b pos) (BM tc t u):=by
 intro pins s σ H D I h
 refine wpAny_If (cy (hc pins s σ H _ I h) fun d s1 ⟨H1,I1,q1⟩=>?_)
 cases d with
 | true=>exact ha pins s1 σ H1 D I1 q1
 | false=>exact hb pins s1 σ H1 D I1 q1
def xS:TS:=fun _ _ _=>False
end
abbrev TG:=V->St->Hp->(St->Hp->Prop)->Prop
abbrev XS:=List V->St->Hp->(St->Hp->Prop)->Prop
def PG (X:Cx) (target:Expr) (t:TG):Prop:=
 ∀(pins:List (Addr×Obj)) (s:Shared) (σ:St) (H:Hp) (v:V) (u:Value) (Q:St->Hp->Prop),Inv X pins σ H s->RelV v u->t v σ H Q->
  wpAny (model X.prog X.w) X.A (assign target X.env u) (fun _ s'=>∃σ' H',Inv X pins σ' H' s'/\Q σ' H') X.xe s
abbrev zf:=V->V->V->Hp->(Hp->Prop)->Prop
def Ea (X:Cx) (t:zf):Prop:=
 ∀(pins:List (Addr×Obj)) (s:Shared) (σ:St) (H:Hp) (o i v:V) (ov iv u:Value) (Q:Hp->Prop),Inv X pins σ H s->RelV o ov->RelV i iv->RelV v u->t o i v H Q->
  wpAny (model X.prog X.w) X.A (setItem ov iv u) (fun _ s'=>∃H',Inv X pins σ H' s'/\Q H') X.xe s
abbrev Nu:=V->V->Hp->VK->Prop
def R' (X:Cx) (op:Operator) (t:Nu):Prop:=
 ∀(pins:List (Addr×Obj)) (s:Shared) (σ:St) (H:Hp) (x y:V) (v u:Value) (Q:VK),Inv X pins σ H s->RelV x v->RelV y u->t x y H Q->
  wpAny (model X.prog X.w) X.A (inplaceOp op v u) (EP X pins σ Q) X.xe s
section
variable {X:Cx} {pos:Pos}
def cV (i:Nat):TG:=fun v σ H Q=>Q (σ.set i (some v)) H
theorem zZ {i:Nat} {x:Str} (hN:X.N.Nodup) (hi:X.N[i]? = some x) (hx:Loc X.env.scope x) (hf:X.fn x=true\/X.env.scope.names.lookup x=some .local:=by first | exact .inl rfl | exact .inr rfl | assumption):PG X (.Name x pos) (cV i):=by
 intro pins s σ H v u Q I r h
 exact wpAny_assign_Name (mS I hN hi hx r (fun s' I'=>⟨_,H,I',h⟩) hf)
def VP:XS:=fun vs σ H Q=>vs=[]/\Q σ H
def O7 (t:TG) (u:XS):XS:=fun vs σ H Q=>∃v r,vs=v::r/\t v σ H fun σ' H'=>u r σ' H' Q
def VN (K:PySem.W.Frag) (n:Nat) (t:XS):TG:=fun v σ H Q=>∃a xs,v=.ref a/\rE K H a xs/\xs.length=n/\t xs σ H Q
def Jd (to ti:TE) (t:zf):TG:=fun v σ H Q=>to σ H fun o H1=>ti σ H1 fun i H2=>t o i v H2 fun H3=>Q σ H3
theorem G5 {o i:Expr} {to ti:TE} {t:zf} (ho:PE X o to) (hi:PE X i ti) (hs:Ea X t)
  (ha:∀v,assign (.Subscript o i pos) X.env v=(do
   let ov <-holding [v] (eval o X.env)
   let iv <-holding [v,ov] (eval i X.env)
   standAt pos
   holding [v,ov,iv] (setItem ov iv v)
   release [v,ov,iv] []):=by intro _;rfl):PG X (.Subscript o i pos) (Jd to ti t):=by
 intro pins s σ H v u Q I r h
 rw [ha]
 refine wpAny_bind (wpAny_holding (cy (ho pins s σ H _ I h) fun ov s1 ⟨x,H1,I1,r1,q1⟩=>?_))
 refine wpAny_bind (wpAny_holding (cy (hi pins s1 σ H1 _ I1 q1) fun iv s2 ⟨y,H2,I2,r2,q2⟩=>?_))
 refine wpAny_bind (wpAny_standAt (wpAny_bind (wpAny_holding (cy (hs pins s2 σ H2 x y v ov iv u _ I2 r1 r2 r q2) fun _ s3 ⟨H3,I3,q3⟩=>?_))))
 exact wpAny_release ⟨σ,H3,I3,q3⟩
def pV (te:TE) (g:TG):TS:=fun D σ H=>te σ H fun x H1=>g x σ H1 D.nx
theorem uF {tg e:Expr} {te:TE} {g:TG} (he:PE X e te) (hg:PG X tg g) (hs:swapsWithSole [tg] e pos.line X.env=pure false:=by rfl) (hw:swappedStores [tg] e X.env=pure none:=by rfl)
  (h1:(assignEach [tg] X.env).map (·.2)=[assign tg X.env]:=by rfl):PS X (.Assign [tg] e pos) (pV te g):=by
 intro pins s σ H D I h
 refine wpAny_Assign_stores (cy (he pins s σ H _ I h) fun v s1 ⟨x,H1,I1,r1,q1⟩=>?_) hs hw
 rw [h1]
 exact cy (hg pins s1 σ H1 x v _ I1 r1 q1) fun _ s2 q=>q
theorem Qg {i:Nat} {x:Str} {e:Expr} {te:TE} {pos':Pos} (hN:X.N.Nodup) (hi:X.N[i]? = some x) (hx:Loc X.env.scope x) (he:PE X e te) (hs:swapsWith e (some (.Name x pos')) pos.line X.env=pure false:=by rfl) (hf:X.fn x=true\/X.env.scope.names.lookup x=some .local:=by first | exact .inl rfl | exact .inr rfl | assumption) :
  PS X (.Assign [.Name x pos'] e pos) (pV te (cV i)):=by
 intro pins s σ H D I h
 refine wpAny_Assign_Name (cy (he pins s σ H _ I h) fun v s1 ⟨y,H1,I1,r1,q1⟩=>?_) hs
 exact mS I1 hN hi hx r1 (fun s2 I2=>⟨_,H1,I2,q1⟩) hf
def Tq (i j:Nat) (ta:TA):TS:=fun D σ H=>ta σ H fun vs H1=>∃v w,vs=[v,w]/\D.nx ((σ.set i (some v)).set j (some w)) H1
def Kg (i:Nat) (te:TE) (ti:Nu):TS:=fun D σ H=>∃x,σ[i]? = some (some x)/\te σ H fun y H1=>ti x y H1 fun z H2=>D.nx (σ.set i (some z)) H2
theorem Ql {i:Nat} {x:Str} {e:Expr} {te:TE} {op:Operator} {ti:Nu} {pos':Pos} (hN:X.N.Nodup) (hi:X.N[i]? = some x) (hx:Loc X.env.scope x) (he:PE X e te) (ho:R' X op ti) (hf:X.fn x=true\/X.env.scope.names.lookup x=some .local:=by first | exact .inl rfl | exact .inr rfl | assumption) :
  PS X (.AugAssign (.Name x pos') op e pos) (Kg i te ti):=by
 intro pins s σ H D I h
 obtain ⟨v,e1,h⟩:=h
 obtain ⟨m,hn,hl⟩:=I.loc
 have X1:S9 X.env.scope x:=by rcases hx with k | k;exact .inl k;exact .inr (.inl k)
 obtain ⟨u,r,l⟩:=hl i x v hi e1 X1
 refine wpAny_AugAssign_Name ?_
 have go:wpAny (model X.prog X.w) X.A (eval e X.env) (fun w s₂=>wpAny (model X.prog X.w) X.A (inplaceOp op u w) (fun r s₃=>wpAny (model X.prog X.w) X.A (storeName X.env x r) (fun _=>SP X pins D .next) X.xe s₃) X.xe s₂) X.xe s:=by
  refine cy (he pins s σ H _ I h) fun w s1 ⟨y,H1,I1,r1,q1⟩=>?_
  refine cy (ho pins s1 σ H1 v y u w _ I1 r r1 q1) fun z s2 ⟨zv,H2,I2,r2,q2⟩=>?_
  exact mS I2 hN hi hx r2 (fun s3 I3=>⟨_,H2,I3,q2⟩) hf
 rcases l with ⟨hk,hm⟩ | ⟨hk,c,hc,kM⟩
 ·exact wpAny_loadName_local I.ok.kind hk hn hm go
 ·rcases hk with hk | hk
  ·exact wpAny_loadName_cell I.ok.kind hk hc kM go
  ·rcases hx with k | k
   ·have:X.env.scope.names.lookup x=some .free:=hk
    rw [k] at this;cases this
   ·have:X.env.scope.names.lookup x=some .free:=hk
    rw [k] at this;cases this
def vO (to ti te:TE) (xP:V->V->Hp->VK->Prop) (Pt:Nu) (xO:zf):TS:=fun D σ H=>to σ H fun o H1=>ti σ H1 fun i H2=>xP o i H2 fun x H3=>te σ H3 fun y H4=>Pt x y H4 fun z H5=>xO o i z H5 fun H6=>D.nx σ H6
def Sb (X:Cx) (t:V->V->Hp->VK->Prop):Prop:=
 ∀(pins:List (Addr×Obj)) (s:Shared) (σ:St) (H:Hp) (o i:V) (ov iv:Value) (Q:VK),Inv X pins σ H s->RelV o ov->RelV i iv->t o i H Q->
  wpAny (model X.prog X.w) X.A (getItem ov iv) (EP X pins σ Q) X.xe s
theorem zV {o i e:Expr} {to ti te:TE} {xP:V->V->Hp->VK->Prop} {Pt:Nu} {xO:zf} {op:Operator} {Ff:Pos} (ho:PE X o to) (hi:PE X i ti) (hg:Sb X xP) (he:PE X e te) (hp:R' X op Pt) (hs:Ea X xO)
  (ha:∀ov iv new,augStore i ov iv new=(do holding [new,ov,iv] (setItem ov iv new);release [new,ov,iv] [];pure .next):=by intros;rfl):PS X (.AugAssign (.Subscript o i Ff) op e pos) (vO to ti te xP Pt xO):=by
 intro pins s σ H D I h
 refine wpAny_AugAssign_SubscriptAny (cy (ho pins s σ H _ I h) fun ov s1 ⟨x1,H1,I1,r1,q1⟩=>?_) ha
 refine cy (hi pins s1 σ H1 _ I1 q1) fun iv s2 ⟨x2,H2,I2,r2,q2⟩=>?_
 refine cy (hg pins s2 σ H2 x1 x2 ov iv _ I2 r1 r2 q2) fun old s3 ⟨x3,H3,I3,r3,q3⟩=>?_
 refine cy (he pins s3 σ H3 _ I3 q3) fun v s4 ⟨x4,H4,I4,r4,q4⟩=>?_
 refine cy (hp pins s4 σ H4 x3 x4 old v _ I4 r3 r4 q4) fun new s5 ⟨x5,H5,I5,r5,q5⟩=>?_
 exact cy (hs pins s5 σ H5 x1 x2 x5 ov iv new _ I5 r1 r2 r5 q5) fun _ s6 ⟨H6,I6,q6⟩=>⟨σ,H6,I6,q6⟩
def Sn (f:Int->Int->Int):Nu:=fun x y H Q=>∃i j,x=.int i/\y=.int j/\Q (.int (f i j)) H
theorem HW:R' X .Add (Sn fun i j=>i+j):=by
 intro pins s σ H x y v u Q I r1 r2 h
 obtain ⟨i,j,e1,e2,q⟩:=h
 subst e1;subst e2
 obtain ⟨t,rfl⟩:=r1
 obtain ⟨t',rfl⟩:=r2
 exact iadd_int ⟨.int _,H,I.tok _,⟨_,rfl⟩,q⟩
theorem Q9:R' X .Sub (Sn fun i j=>i - j):=by
 intro pins s σ H x y v u Q I r1 r2 h
 obtain ⟨i,j,e1,e2,q⟩:=h
 subst e1;subst e2
 obtain ⟨t,rfl⟩:=r1
 obtain ⟨t',rfl⟩:=r2
 exact isub_int ⟨.int _,H,I.tok _,⟨_,rfl⟩,q⟩
end
section
variable {X:Cx} {pos:Pos}
def xQ (c:TT) (tb:TS):TS:=fun D σ H=>∃W:Nat->St->Hp->Prop,(∃m,W m σ H)/\∀m σ H,W m σ H->
 c σ H fun b H1=>if b=true then ∃N:St->Hp->Prop,(∀σ' H',N σ' H'->∃m',m' < m/\W m' σ' H')/\tb { D with nx:=N,ct:=N,bk:=D.nx } σ H1 else D.nx σ H1
theorem GX {c:Expr} {body:List Stmt} {tc:TT} {tb:TS} (hp:PassesOwn (model X.prog X.w) X.A X.env X.xe) (hc:PT X c tc) (hb:vr X body tb):PS X (.While c body [] pos) (xQ tc tb):=by
 intro pins s σ H D I h
 obtain ⟨W,⟨m0,w0⟩,turn⟩:=h
 refine wpAny_While (codeAny_whileLoop (fun n s'=>∃σ' H',Inv X pins σ' H' s'/\W n σ' H') ?_ m0 ⟨σ,H,I,w0⟩)
 rintro n s1 ⟨σ1,H1,I1,w1⟩
 refine wpAny_passesOwn hp (cy (hc pins s1 σ1 H1 _ I1 (turn n σ1 H1 w1)) fun b s2 ⟨H2,I2,q2⟩=>?_)
 cases b with
 | true=>
  obtain ⟨N,hN,q2⟩:=q2
  rw [if_pos rfl]
  refine wpAny_passesOwn hp (cy (hb pins s2 σ1 H2 _ I2 q2) fun f s3 q3=>?_)
  cases f with
  | next=>
   obtain ⟨σ3,H3,I3,n3⟩:=q3
   obtain ⟨m',hm,w3⟩:=hN σ3 H3 n3
   exact ⟨m',hm,σ3,H3,I3,w3⟩
  | cont=>
   obtain ⟨σ3,H3,I3,n3⟩:=q3
   obtain ⟨m',hm,w3⟩:=hN σ3 H3 n3
   exact ⟨m',hm,σ3,H3,I3,w3⟩
  | brk=>exact q3
  | ret v=>exact q3
 | false=>
  rw [if_neg Bool.false_ne_true]
  exact wpAny_execs_nil ⟨σ1,H2,I2,q2⟩
end
structure It where
 go:Nat->Hp->Prop
 Bv:Nat->Hp->V->Hp->Prop
 stop:Nat->Hp->Prop
def vx (X:Cx) (pins:List (Addr×Obj)) (H:Hp) (b:Addr):Prop:=
 H b=none/\b≠X.env.locals/\b∉X.fs/\(b∈X.ex\/X.s₀.heap.objs.size<=b)/\(∀x c,X.env.cells.lookup x=some c->c≠b)/\∀p∈X.pn++pins,p.1≠b
theorem Inv.MN {X:Cx} {pins:List (Addr×Obj)} {σ:St} {H H':Hp} {s:Shared} {b:Addr} (I:Inv X pins σ H s) (hb:s.heap.objs.size<=b) (hn:H' b=none):vx X pins H' b:=by
 refine ⟨hn,Nat.ne_of_gt (Nat.lt_of_lt_of_le I.lt hb),I.Ut hb,.inr (Nat.le_trans I.sz hb),fun x c e z=>?_,fun p hp z=>?_⟩
 ·obtain ⟨v,q⟩:=I.cell x c e
  exact absurd (Nat.lt_of_lt_of_le q.lt (by rw [z];exact hb)) (Nat.lt_irrefl _)
 ·exact absurd (Nat.lt_of_lt_of_le (Heap.lt_size (I.pin p hp).1) (by rw [z];exact hb)) (Nat.lt_irrefl _)
structure Turn (P:Program) (w:World) (K:PySem.W.Frag) (tg:Expr) (J:It) (fp:List Addr) (it:Addr) (tn:Nat->Heap->Prop):Prop where
 mem:it∈fp
 obj:∀i h,tn i h->∀b∈fp,∃o,h.get? b=some o/\∀v,o.data≠.cell v
 keep:∀i h h',tn i h->(∀b∈fp,∀o,h.get? b=some o->h'.get? b=some o)->tn i h'
 item:∀(X:Cx),X.prog=P->X.w=w->X.K=K->X.calm=true->∀(i:Nat) (pins:List (Addr×Obj)) (s:Shared) (σ:St) (H:Hp) (E:Value->Shared->Prop),Inv X pins σ H s->(∀b∈fp,vx X pins H b)->tn i s.heap->J.go i H->
  wpAny (model P w) X.A (pyNext (.ref it)) (fun r s1=>∃u,r=some u/\
   wpAny (model P w) X.A (letOwnedTupleGo tg (.ref it) u) (fun _ s2=>∃x H',Inv X pins σ H' s2/\RelV x u/\J.Bv i H x H'/\tn (i+1) s2.heap/\∀b∈fp,H' b=none) E s1) E s
 done:∀(X:Cx),X.prog=P->X.w=w->X.K=K->X.calm=true->∀(i:Nat) (pins:List (Addr×Obj)) (s:Shared) (σ:St) (H:Hp) (E:Value->Shared->Prop),Inv X pins σ H s->(∀b∈fp,vx X pins H b)->tn i s.heap->J.stop i H->
  wpAny (model P w) X.A (pyNext (.ref it)) (fun r s1=>r=none/\Inv X pins σ H s1) E s
 self:∀(A:Around) (i:Nat) (s:Shared) (Q:Value->Shared->Prop) (E:Value->Shared->Prop),tn i s.heap->Q (.ref it) s->wpAny (model P w) A (pyIter (.ref it)) Q E s
abbrev TI:=St->Hp->(It->Hp->Prop)->Prop
def PIE (X:Cx) (pins:List (Addr×Obj)) (σ:St) (tg:Expr) (R:It->Hp->Prop) (Xa:Value) (s2:Shared):Prop:=
 ∃(it:Addr) (fp:List Addr) (tn:Nat->Heap->Prop) (J:It) (H':Hp),Xa=.ref it/\Inv X pins σ H' s2/\Turn X.prog X.w X.K tg J fp it tn/\tn 0 s2.heap/\(∀b∈fp,vx X pins H' b)/\R J H'
def PI (X:Cx) (tg iter:Expr) (wi:TI):Prop:=
 ∀(pins:List (Addr×Obj)) (s:Shared) (σ:St) (H:Hp) (R:It->Hp->Prop),Inv X pins σ H s->wi σ H R->
  wpAny (model X.prog X.w) X.A (eval iter X.env) (fun v s1=>wpAny (model X.prog X.w) X.A (pyIter v) (PIE X pins σ tg R) X.xe s1) X.xe s
theorem Am {M : Model} {A : Around} {E : Value → Shared → Prop} {s : Shared} {tg : Expr} {it : Addr} {u : Value} {o : Obj} {n : String} {vs : Array Value} {Q : Unit → Shared → Prop} (ho : s.heap.get? it = some o) (hc : o.cls = .type n) (hd : o.data = .fields vs)
    (hn : ["enumerate", "zip", "dict_itemiterator", "dict_reverseitemiterator", "odict_iterator", "itertools.zip_longest", "itertools.pairwise"].contains n = false) (hQ : Q () s) : wpAny M A (letOwnedTupleGo tg (.ref it) u) Q E s := by
  unfold letOwnedTupleGo
  cases tg <;> first
    | exact wpAny_pure hQ
    | (cases u <;> first
        | exact wpAny_pure hQ
        | (refine wpAny_bind (wpAny_load ho ?_)
           rw [hc, hd]
           show wpAny M A (if (["enumerate", "zip", "dict_itemiterator", "dict_reverseitemiterator", "odict_iterator", "itertools.zip_longest", "itertools.pairwise"].contains n && vs[0]? == some (rawInt _)) = true then _ else _) Q E s
           rw [if_neg (by intro h; rw [hn, Bool.false_and] at h; cases h)]
           exact wpAny_pure hQ))
def zi (K:PySem.W.Frag) (a:Addr):It:=
 ⟨fun i H=>∃xs x,mG K H a xs/\xs[i]? = some x,fun i H x H'=>H'=H/\∀xs,mG K H a xs->xs[i]? = some x,fun i H=>∃xs,mG K H a xs/\xs.length<=i⟩
def Ny (K:PySem.W.Frag) (a:Addr):It:=
 ⟨fun i H=>∃xs x,rE K H a xs/\xs[i]? = some x,fun i H x H'=>H'=H/\∀xs,rE K H a xs->xs[i]? = some x,fun i H=>∃xs,rE K H a xs/\xs.length<=i⟩
def zh (lo:Int) (n:Nat):It:=⟨fun i _=>i < n,fun i H x H'=>H'=H/\x=.int (lo+i),fun i _=>n<=i⟩
theorem Bz {P:Program} {w:World} {K:PySem.W.Frag} {tg:Expr} (a it:Addr):Turn P w K tg (zi K a) [it] it (fun i h=>h.IsListIter it a i) where
 mem:=by simp
 obj:=fun i h st b hb=>by
  have e:b=it:=by simpa using hb
  subst e
  obtain ⟨o,e,c,d⟩:=st
  exact ⟨o,e,fun v z=>by rw [d] at z;cases z⟩
 keep:=fun i h h' st k=>st.at fun o e=>k it (by simp) o e
 item:=by
  intro X hP hw hK hc i pins s σ H E I hf st hg
  subst hP hw hK
  obtain ⟨xs,x,hq,hx⟩:=hg
  obtain ⟨its,rv,p,hz⟩:=I.list hq
  obtain ⟨u,hu,ru⟩:=rv.get hx
  obtain ⟨f0,f1,f2,f3,f4,f5⟩:=hf it (by simp)
  refine wpAny_pyNext_list_item st p.isList (x:=u) (by simpa using hu) fun h' bf sb=>?_
  have I1:Inv X pins σ H { s with heap:=h' }:=I.turned (t':=s.toks) (fun b o hb e=>(sb.2 b hb).trans e) f0 f1 f3 f4 f5
  obtain ⟨o,e,c,d⟩:=id bf
  exact ⟨u,rfl,Am (s:={ s with heap:=h' }) e c d (by decide) ⟨x,H,I1,ru,⟨rfl,fun ys hy=>by rw [I.wA hy hq];exact hx⟩,bf,fun b hb=>(hf b hb).1⟩⟩
 done:=by
  intro X hP hw hK hc i pins s σ H E I hf st hg
  subst hP hw hK
  obtain ⟨xs,hq,hx⟩:=hg
  obtain ⟨its,rv,p,hz⟩:=I.list hq
  obtain ⟨f0,f1,f2,f3,f4,f5⟩:=hf it (by simp)
  have hl:=rv.length
  exact wpAny_pyNext_list_end (I.ok.hd hc) st p.isList (by simp;lia) fun h' eb=>⟨rfl,I.turned (t':=s.toks) (fun b o hb e=>eb b o hb e) f0 f1 f3 f4 f5⟩
 self:=fun _ _ _ _ _ st h=>wpAny_pyIter_listiter st h
theorem xM {P:Program} {w:World} {K:PySem.W.Frag} {tg:Expr} (a it:Addr):Turn P w K tg (Ny K a) [it] it (fun i h=>h.IsTupleIter it a i) where
 mem:=by simp
 obj:=fun i h st b hb=>by
  have e:b=it:=by simpa using hb
  subst e
  obtain ⟨o,e,c,d⟩:=st
  exact ⟨o,e,fun v z=>by rw [d] at z;cases z⟩
 keep:=fun i h h' st k=>st.at fun o e=>k it (by simp) o e
 item:=by
  intro X hP hw hK hc i pins s σ H E I hf st hg
  subst hP hw hK
  obtain ⟨xs,x,hq,hx⟩:=hg
  obtain ⟨its,rv,p,hz⟩:=I.tuple hq
  obtain ⟨u,hu,ru⟩:=rv.get hx
  obtain ⟨f0,f1,f2,f3,f4,f5⟩:=hf it (by simp)
  refine wpAny_pyNext_tuple_item st (show s.heap.IsTuple a its.toArray from p) (x:=u) (by simpa using hu) fun h' bf sb=>?_
  have I1:Inv X pins σ H { s with heap:=h' }:=I.turned (t':=s.toks) (fun b o hb e=>(sb.2 b hb).trans e) f0 f1 f3 f4 f5
  obtain ⟨o,e,c,d⟩:=id bf
  exact ⟨u,rfl,Am (s:={ s with heap:=h' }) e c d (by decide) ⟨x,H,I1,ru,⟨rfl,fun ys hy=>by rw [I.BJ hy hq];exact hx⟩,bf,fun b hb=>(hf b hb).1⟩⟩
 done:=by
  intro X hP hw hK hc i pins s σ H E I hf st hg
  subst hP hw hK
  obtain ⟨xs,hq,hx⟩:=hg
  obtain ⟨its,rv,p,hz⟩:=I.tuple hq
  obtain ⟨f0,f1,f2,f3,f4,f5⟩:=hf it (by simp)
  have hl:=rv.length
  exact wpAny_pyNext_tuple_end (I.ok.hd hc) st (show s.heap.IsTuple a its.toArray from p) (by simp;lia) fun h' eb=>⟨rfl,I.turned (t':=s.toks) (fun b o hb e=>eb b o hb e) f0 f1 f3 f4 f5⟩
 self:=fun _ _ _ _ _ st h=>wpAny_pyIter_tupleiter st h
theorem xN {P:Program} {w:World} {K:PySem.W.Frag} {tg:Expr} (it:Addr) (lo:Int) (n:Nat):Turn P w K tg (zh lo n) [it] it (fun i h=>IsRangeIter h it (lo+(i:Nat) * 1) ((n:Int) - (i:Nat)) 1) where
 mem:=by simp
 obj:=fun i h st b hb=>by
  have e:b=it:=by simpa using hb
  subst e
  exact ⟨_,st,fun v z=>by
   have z':Data.fields _=Data.cell v:=z
   cases z'⟩
 keep:=fun i h h' st k=>k it (by simp) _ st
 item:=by
  intro X hP hw hK hc i pins s σ H E I hf st hg
  subst hP hw hK
  obtain ⟨f0,f1,f2,f3,f4,f5⟩:=hf it (by simp)
  have W:=Walks.range (prog:=X.prog) (w:=X.w) (I.ok.hd hc) it lo 1 n
  refine W.item i s _ _ hg st fun v h' tk hv bf kk=>?_
  obtain ⟨t,rfl⟩:=hv
  have I1:Inv X pins σ H { s with heap:=h',toks:=tk }:=I.turned (fun b o hb e=>kk b o (by simpa using hb) e) f0 f1 f3 f4 f5
  refine ⟨_,rfl,Am (s:={ s with heap:=h',toks:=tk }) (n:="range_iterator") bf rfl rfl (by decide) ⟨.int (lo+i),H,I1,⟨t,?_⟩,⟨rfl,rfl⟩,bf,fun b hb=>(hf b hb).1⟩⟩
  rw [Int.mul_one]
 done:=by
  intro X hP hw hK hc i pins s σ H E I hf st hg
  subst hP hw hK
  obtain ⟨f0,f1,f2,f3,f4,f5⟩:=hf it (by simp)
  exact wpAny_pyNext_range_end (I.ok.hd hc) st (by have:n<=i:=hg;lia) fun h' eb=>⟨rfl,I.turned (t':=s.toks) (fun b o hb e=>eb b o hb e) f0 f1 f3 f4 f5⟩
 self:=fun _ _ _ _ _ st h=>wpAny_pyIter_rangeiter st h
end L2
namespace L2
open PySem PySem.Spec PyProof.Rows
section
variable {X:Cx} {tg:Expr}
def wU (K:PySem.W.Frag) (tl:TE):TI:=fun σ H R=>tl σ H fun x H1=>∃a,x=.ref a/\(∃xs,mG K H1 a xs)/\R (zi K a) H1
def HX (K:PySem.W.Frag) (tl:TE):TI:=fun σ H R=>tl σ H fun x H1=>∃a,x=.ref a/\(∃xs,rE K H1 a xs)/\R (Ny K a) H1
theorem Le {l:Expr} {tl:TE} (hl:PE X l tl):PI X tg l (wU X.K tl):=by
 intro pins s σ H R I h
 refine cy (hl pins s σ H _ I h) fun v s1 ⟨x,H1,I1,r1,q1⟩=>?_
 obtain ⟨a,e,⟨xs,hq⟩,q⟩:=q1
 subst e
 cases r1
 obtain ⟨its,rv,p,hz⟩:=I1.list hq
 refine wpAny_pyIter_list p.isList ?_
 refine ⟨s1.heap.objs.size,[s1.heap.objs.size],_,_,H1,rfl,I1.kept (t':=s1.toks) fun b o e=>Heap.get?_push_of_some _ e,Bz a _,⟨_,Heap.get?_push_size _ rfl,rfl,rfl⟩,fun b hb=>?_,q⟩
 have e:b=s1.heap.objs.size:=by simpa using hb
 subst e
 exact I1.MN (Nat.le_refl _) (I1.bh.fresh (Nat.le_refl _))
theorem Qn {l:Expr} {tl:TE} (hl:PE X l tl):PI X tg l (HX X.K tl):=by
 intro pins s σ H R I h
 refine cy (hl pins s σ H _ I h) fun v s1 ⟨x,H1,I1,r1,q1⟩=>?_
 obtain ⟨a,e,⟨xs,hq⟩,q⟩:=q1
 subst e
 cases r1
 obtain ⟨its,rv,p,hz⟩:=I1.tuple hq
 refine wpAny_pyIter_tuple (show s1.heap.IsTuple a its.toArray from p) ?_
 refine ⟨s1.heap.objs.size,[s1.heap.objs.size],_,_,H1,rfl,I1.kept (t':=s1.toks) fun b o e=>Heap.get?_push_of_some _ e,xM a _,⟨_,Heap.get?_push_size _ rfl,rfl,rfl⟩,fun b hb=>?_,q⟩
 have e:b=s1.heap.objs.size:=by simpa using hb
 subst e
 exact I1.MN (Nat.le_refl _) (I1.bh.fresh (Nat.le_refl _))
theorem Gk {pins:List (Addr×Obj)} {σ:St} {H:Hp} {s:Shared} {R:It->Hp->Prop} {E:Value->Shared->Prop} {lo hi:Int} {t u v:Tok} {tk:Nat} (I:Inv X pins σ H s) (h1 : -(2 ^ 62)<=lo) (h2:lo < 2 ^ 62) (h3 : -(2 ^ 62)<=hi) (h4:hi < 2 ^ 62)
  (q:R (zh lo (hi - lo).toNat) H):wpAny (model X.prog X.w) X.A (pyIter (.ref s.heap.objs.size)) (PIE X pins σ tg R) E { s with heap:=s.heap.push { cls:=.type "range",data:=.fields #[.int lo t,.int hi u,.int 1 v] },toks:=tk }:=by
 refine wpAny_pyIter_range (IsRange.new ..) (small_one h1 h2 h3 h4) ?_
 have I1:Inv X pins σ H { s with heap:=s.heap.push { cls:=.type "range",data:=.fields #[.int lo t,.int hi u,.int 1 v] },toks:=tk }:=I.kept fun b o e=>Heap.get?_push_of_some _ e
 refine ⟨(s.heap.push { cls:=.type "range",data:=.fields #[.int lo t,.int hi u,.int 1 v] }).objs.size,[(s.heap.push { cls:=.type "range",data:=.fields #[.int lo t,.int hi u,.int 1 v] }).objs.size],_,_,H,rfl,
  I1.kept (t':=tk) fun b o e=>Heap.get?_push_of_some _ e,xN _ lo (hi - lo).toNat,?_,fun b hb=>?_,q⟩
 ·have e1:lo+((0:Nat):Int) * 1=lo:=by simp
  have e2:(((hi - lo).toNat:Nat):Int) - ((0:Nat):Int)=Builtin.Range.rangeSize lo hi 1:=by rw [rangeSize_one];split <;> lia
  show IsRangeIter _ _ (lo+((0:Nat):Int) * 1) ((((hi - lo).toNat:Nat):Int) - ((0:Nat):Int)) 1
  rw [e1,e2]
  exact Heap.get?_push_size _ rfl
 ·have e:b=(s.heap.push { cls:=.type "range",data:=.fields #[.int lo t,.int hi u,.int 1 v] }).objs.size:=by simpa using hb
  subst e
  exact I1.MN (Nat.le_refl _) (I1.bh.fresh (Nat.le_refl _))
def wR (ta:TA):TI:=fun σ H R=>ta σ H fun vs H1=>∃j:Int,vs=[.int j]/\-(2 ^ 62)<=j/\j < 2 ^ 62/\R (zh 0 j.toNat) H1
def Ia (ta:TA):TI:=fun σ H R=>ta σ H fun vs H1=>∃i j:Int,vs=[.int i,.int j]/\(-(2 ^ 62)<=i/\i < 2 ^ 62/\-(2 ^ 62)<=j/\j < 2 ^ 62)/\R (zh i (j - i).toNat) H1
theorem sI {a:Expr} {ta:TA} {p pos:Pos} (hg:Gl X "range") (hm:X.mg "range" = none) (ha:PA X [a] ta) (hs:starEach [a] X.env=[(false,eval a X.env)]:=by rfl):PI X tg (.Call (.Name "range" p) [a] [] pos) (wR ta):=by
 intro pins s σ H R I h
 refine Call_ (nW I hg hm boot_range (PyProof.Rows.callWith_type1 (cy (ha pos pins s σ H _ I h) fun us s1 ⟨vs,H1,I1,r1,q1⟩=>?_) hs rfl))
 obtain ⟨j,e,q1,q2,q⟩:=q1
 subst e
 cases r1 with
 | cons r rr=>
  cases rr
  obtain ⟨t,rfl⟩:=r
  exact call_range_1 (Gk I1 (by lia) (by lia) q1 q2 (by simpa using q))
def Kd (wi:TI) (g:TG) (tb:TS):TS:=fun D σ H=>wi σ H fun J H1=>∃W:Nat->Nat->St->Hp->Prop,(∃m,W 0 m σ H1)/\∀i m σ H,W i m σ H->
 (J.stop i H/\D.nx σ H)\/(J.go i H/\∃N:St->Hp->Prop,(∀σ' H',N σ' H'->∃m',m' < m/\W (i+1) m' σ' H')/\∀x H',J.Bv i H x H'->g x σ H' fun σ2 H2=>tb { D with nx:=N,ct:=N,bk:=D.nx } σ2 H2)
def p7 (fp:List Addr) (h:Heap):List (Addr×Obj):=fp.filterMap fun b=>(h.get? b).map fun o=>(b,o)
theorem iU {fp:List Addr} {h:Heap} {b:Addr} {o:Obj} (hb:b∈fp) (e:h.get? b=some o):(b,o)∈p7 fp h:=List.mem_filterMap.mpr ⟨b,hb,by rw [e];rfl⟩
theorem Cy {fp:List Addr} {h:Heap} {p:Addr×Obj} (hp:p∈p7 fp h):p.1∈fp/\h.get? p.1=some p.2:=by
 obtain ⟨b,hb,e⟩:=List.mem_filterMap.mp hp
 cases q:h.get? b with
 | none=>rw [q] at e;cases e
 | some o=>
  rw [q] at e
  have e':(b,o)=p:=Option.some.inj e
  subst e'
  exact ⟨hb,q⟩
theorem Inv.pinned {pins:List (Addr×Obj)} {σ:St} {H:Hp} {s:Shared} {fp:List Addr} (I:Inv X pins σ H s) (hf:∀b∈fp,vx X pins H b) (ho:∀b∈fp,∃o,s.heap.get? b=some o/\∀v,o.data≠.cell v):Inv X (pins++p7 fp s.heap) σ H s:=
 I.zW fun p hp=>(List.mem_append.mp hp).elim (fun z=>I.pin p (List.mem_append_right _ z)) fun z=>by
  obtain ⟨hb,e⟩:=Cy z
  obtain ⟨f0,f1,f2,_⟩:=hf p.1 hb
  obtain ⟨o,e',d⟩:=ho p.1 hb
  rw [e] at e';cases e'
  exact ⟨e,f0,f1,f2,d⟩
theorem Inv.mQ {pins pl:List (Addr×Obj)} {σ:St} {H:Hp} {s:Shared} (I:Inv X (pins++pl) σ H s):Inv X pins σ H s:=I.zW fun p hp=>I.pin p (List.mem_append_right _ (List.mem_append_left _ hp))
theorem Qi {iter:Expr} {body:List Stmt} {wi:TI} {g:TG} {tb:TS} {pos:Pos} (hp:PassesOwn (model X.prog X.w) X.A X.env X.xe) (hc:X.calm=true) (hi:PI X tg iter wi) (hg:PG X tg g) (hb:vr X body tb)
  (hs:∀x,foldedSetIterable iter X.env x=pure x:=by intro _;rfl):PS X (.For tg iter body [] pos) (Kd wi g tb):=by
 intro pins s σ H D I h
 refine wpAny_For (cy (hi pins s σ H _ I h) fun v s1 h1=>cy h1 fun Xa s2 h2=>?_) hs
 obtain ⟨it,fp,tn,J,H2,e,I2,T,Eg,f2,W,⟨m0,w0⟩,turn⟩:=h2
 subst e
 have stat:∀{H':Hp},(∀b∈fp,H' b=none)->∀b∈fp,vx X pins H' b:=fun hn b hb=>⟨hn b hb,(f2 b hb).2⟩
 refine codeAny_forLoop_any (fun n s'=>∃i σ' H',Inv X pins σ' H' s'/\tn i s'.heap/\(∀b∈fp,H' b=none)/\W i n σ' H') ?_ m0 ⟨0,σ,H2,I2,Eg,fun b hb=>(f2 b hb).1,w0⟩
 rintro n s3 ⟨i,σ3,H3,I3,st3,fr3,w3⟩
 rcases turn i n σ3 H3 w3 with ⟨stop,qn⟩ | ⟨go,N,hN,step⟩
 ·refine wpAny_passesOwn hp (cy (T.done X rfl rfl rfl hc i pins s3 σ3 H3 X.xe I3 (stat fr3) st3 stop) fun r s4 ⟨hr,I4⟩=>?_)
  subst hr
  exact wpAny_execs_nil ⟨σ3,H3,I4,qn⟩
 ·refine wpAny_passesOwn hp (cy (T.item X rfl rfl rfl hc i pins s3 σ3 H3 X.xe I3 (stat fr3) st3 go) fun r s4 ⟨u,hr,h4⟩=>?_)
  subst hr
  refine wpAny_passesOwn hp (cy h4 fun _ s5 ⟨x,H5,I5,r5,y5,Yc,fr5⟩=>?_)
  have I5':=I5.pinned (stat fr5) (T.obj _ _ Yc)
  refine wpAny_passesOwn hp (cy (hg _ s5 σ3 H5 x u _ I5' r5 (step x H5 y5)) fun _ s6 ⟨σ6,H6,I6,q6⟩=>?_)
  refine wpAny_passesOwn hp (cy (hb _ s6 σ6 H6 _ I6 q6) fun f s7 q7=>?_)
  have again:∀{σ7:St} {H7:Hp},Inv X (pins++p7 fp s5.heap) σ7 H7 s7->N σ7 H7->∃m,m < n/\∃i σ' H',Inv X pins σ' H' s7/\tn i s7.heap/\(∀b∈fp,H' b=none)/\W i m σ' H':=fun {σ7 H7} I7 n7=>by
   obtain ⟨m',hm,w7⟩:=hN σ7 H7 n7
   refine ⟨m',hm,i+1,σ7,H7,I7.mQ,T.keep _ _ _ Yc fun b hb o e=>(I7.pin (b,o) (List.mem_append_right _ (List.mem_append_right _ (iU hb e)))).1,fun b hb=>?_,w7⟩
   obtain ⟨o,e,d⟩:=T.obj _ _ Yc b hb
   exact (I7.pin (b,o) (List.mem_append_right _ (List.mem_append_right _ (iU hb e)))).2.1
  cases f with
  | next=>obtain ⟨σ7,H7,I7,n7⟩:=q7;exact again I7 n7
  | cont=>obtain ⟨σ7,H7,I7,n7⟩:=q7;exact again I7 n7
  | brk=>obtain ⟨σ7,H7,I7,q7⟩:=q7;exact ⟨σ7,H7,I7.mQ,q7⟩
  | ret v=>obtain ⟨x7,σ7,H7,I7,r7,q7⟩:=q7;exact ⟨x7,σ7,H7,I7.mQ,r7,q7⟩
end
theorem Je {K:PySem.W.Frag} {a:Addr} {xs:List V} {g:TG} {tb:TS} {D:Ends} {σ:St} {H:Hp} (Pv:Nat->St->Hp->Prop) (h0:Pv 0 σ H) (hl:∀i σ H,i<=xs.length->Pv i σ H->mG K H a xs)
  (hs:∀i x σ H,xs[i]? = some x->Pv i σ H->g x σ H fun σ2 H2=>tb { D with nx:=Pv (i+1),ct:=Pv (i+1),bk:=D.nx } σ2 H2) (hd:∀σ H,Pv xs.length σ H->D.nx σ H) :
  ∃W:Nat->Nat->St->Hp->Prop,(∃m,W 0 m σ H)/\∀i m σ H,W i m σ H->
   ((zi K a).stop i H/\D.nx σ H)\/((zi K a).go i H/\∃N:St->Hp->Prop,(∀σ' H',N σ' H'->∃m',m' < m/\W (i+1) m' σ' H')/\∀x H',(zi K a).Bv i H x H'->g x σ H' fun σ2 H2=>tb { D with nx:=N,ct:=N,bk:=D.nx } σ2 H2):=by
 refine ⟨fun i m σ H=>m=xs.length - i/\i<=xs.length/\Pv i σ H,⟨xs.length,by simp,Nat.zero_le _,h0⟩,?_⟩
 rintro i m σ H ⟨rfl,hi,p⟩
 have q:=hl i σ H hi p
 by_cases gi:i < xs.length
 ·refine .inr ⟨⟨xs,xs[i],q,by simp [gi]⟩,Pv (i+1),fun σ' H' p'=>⟨xs.length - (i+1),by lia,rfl,gi,p'⟩,fun x H' y=>?_⟩
  obtain ⟨e,y⟩:=y
  subst e
  exact hs i x σ _ (y xs q) p
 ·have e:i=xs.length:=by lia
  subst e
  exact .inl ⟨⟨xs,q,Nat.le_refl _⟩,hd σ H p⟩
theorem MT {K:PySem.W.Frag} {a:Addr} {xs:List V} {g:TG} {tb:TS} {D:Ends} {σ:St} {H:Hp} (Pv:Nat->St->Hp->Prop) (h0:Pv 0 σ H) (hl:∀i σ H,i<=xs.length->Pv i σ H->rE K H a xs)
  (hs:∀i x σ H,xs[i]? = some x->Pv i σ H->g x σ H fun σ2 H2=>tb { D with nx:=Pv (i+1),ct:=Pv (i+1),bk:=D.nx } σ2 H2) (hd:∀σ H,Pv xs.length σ H->D.nx σ H) :
  ∃W:Nat->Nat->St->Hp->Prop,(∃m,W 0 m σ H)/\∀i m σ H,W i m σ H->
   ((Ny K a).stop i H/\D.nx σ H)\/((Ny K a).go i H/\∃N:St->Hp->Prop,(∀σ' H',N σ' H'->∃m',m' < m/\W (i+1) m' σ' H')/\∀x H',(Ny K a).Bv i H x H'->g x σ H' fun σ2 H2=>tb { D with nx:=N,ct:=N,bk:=D.nx } σ2 H2):=by
 refine ⟨fun i m σ H=>m=xs.length - i/\i<=xs.length/\Pv i σ H,⟨xs.length,by simp,Nat.zero_le _,h0⟩,?_⟩
 rintro i m σ H ⟨rfl,hi,p⟩
 have q:=hl i σ H hi p
 by_cases gi:i < xs.length
 ·refine .inr ⟨⟨xs,xs[i],q,by simp [gi]⟩,Pv (i+1),fun σ' H' p'=>⟨xs.length - (i+1),by lia,rfl,gi,p'⟩,fun x H' y=>?_⟩
  obtain ⟨e,y⟩:=y
  subst e
  exact hs i x σ _ (y xs q) p
 ·have e:i=xs.length:=by lia
  subst e
  exact .inl ⟨⟨xs,q,Nat.le_refl _⟩,hd σ H p⟩
theorem Dp {lo:Int} {n:Nat} {g:TG} {tb:TS} {D:Ends} {σ:St} {H:Hp} (Pv:Nat->St->Hp->Prop) (h0:Pv 0 σ H)
  (hs:∀i σ H,i < n->Pv i σ H->g (.int (lo+i)) σ H fun σ2 H2=>tb { D with nx:=Pv (i+1),ct:=Pv (i+1),bk:=D.nx } σ2 H2) (hd:∀σ H,Pv n σ H->D.nx σ H) :
  ∃W:Nat->Nat->St->Hp->Prop,(∃m,W 0 m σ H)/\∀i m σ H,W i m σ H->
   ((zh lo n).stop i H/\D.nx σ H)\/((zh lo n).go i H/\∃N:St->Hp->Prop,(∀σ' H',N σ' H'->∃m',m' < m/\W (i+1) m' σ' H')/\∀x H',(zh lo n).Bv i H x H'->g x σ H' fun σ2 H2=>tb { D with nx:=N,ct:=N,bk:=D.nx } σ2 H2):=by
 refine ⟨fun i m σ H=>m=n - i/\i<=n/\Pv i σ H,⟨n,by simp,Nat.zero_le _,h0⟩,?_⟩
 rintro i m σ H ⟨rfl,hi,p⟩
 by_cases gi:i < n
 ·refine .inr ⟨gi,Pv (i+1),fun σ' H' p'=>⟨n - (i+1),by lia,rfl,gi,p'⟩,fun x H' y=>?_⟩
  obtain ⟨e,y⟩:=y
  subst e y
  exact hs i σ _ gi p
 ·have e:i=n:=by lia
  subst e
  exact .inl ⟨Nat.le_refl _,hd σ H p⟩
end L2
namespace L2
open PySem PySem.Spec PyProof.Rows
abbrev R2:=V->V->Hp->VK->Prop
def kR (X:Cx) (f:Value->Value->Sem Value) (r:R2):Prop:=
 ∀(pins:List (Addr×Obj)) (s:Shared) (σ:St) (H:Hp) (x y:V) (v u:Value) (Q:VK),Inv X pins σ H s->RelV x v->RelV y u->r x y H Q->
  wpAny (model X.prog X.w) X.A (f v u) (EP X pins σ Q) X.xe s
def dA (X:Cx) (f:Value) (r:List V->Hp->VK->Prop):Prop:=
 ∀(pins:List (Addr×Obj)) (s:Shared) (σ:St) (H:Hp) (xs:List V) (us:List Value) (Q:VK),Inv X pins σ H s->Vals xs us->r xs H Q->
  wpAny (model X.prog X.w) X.A (call f us) (EP X pins σ Q) X.xe s
def Fl (r:R2) (ta tb:TE):TE:=fun σ H Q=>ta σ H fun x H1=>tb σ H1 fun y H2=>r x y H2 Q
def X4 (r:V->Hp->VK->Prop) (ta:TE):TE:=fun σ H Q=>ta σ H fun x H1=>r x H1 Q
def rI (C:Int->Int->Prop) (g:Int->Int->V):R2:=fun x y H Q=>∃i j,x=.int i/\y=.int j/\C i j/\Q (g i j) H
def Gm (g:Int->Int->V):R2:=fun x y H Q=>∃i j,x=.int i/\y=.int j/\Q (g i j) H
def rU (g:Int->V):V->Hp->VK->Prop:=fun x H Q=>∃i,x=.int i/\Q (g i) H
section
variable {X:Cx} {a b c:Expr} {ta tb tc:TE} {pos:Pos}
theorem R6 (ha:PE X a ta) (hb:PE X b tb) {pins:List (Addr×Obj)} {s:Shared} {σ:St} {H:Hp} {R:V->V->Hp->Prop} (I:Inv X pins σ H s)
  (h:ta σ H fun x H1=>tb σ H1 fun y H2=>R x y H2) {Q:Value->Shared->Prop} {f:Value->Value->Sem Value}
  (hf:∀v u s2 x y H2,Inv X pins σ H2 s2->RelV x v->RelV y u->R x y H2->wpAny (model X.prog X.w) X.A (f v u) Q X.xe s2) :
  wpAny (model X.prog X.w) X.A (eval a X.env) (fun v s₁=>wpAny (model X.prog X.w) X.A (eval b X.env) (fun u s₂=>wpAny (model X.prog X.w) X.A (f v u) Q X.xe s₂) X.xe s₁) X.xe s:=by
 refine cy (ha pins s σ H _ I h) fun v s1 ⟨x,H1,I1,r1,q1⟩=>?_
 refine cy (hb pins s1 σ H1 _ I1 q1) fun u s2 ⟨y,H2,I2,r2,q2⟩=>?_
 exact hf v u s2 x y H2 I2 r1 r2 q2
theorem Uh {op:Operator} {r:R2} (ho:kR X (binaryOp op) r) (ha:PE X a ta) (hb:PE X b tb):PE X (.BinOp a op b pos) (Fl r ta tb):=by
 intro pins s σ H Q I h
 exact wpAny_BinOp (R6 ha hb I h fun v u s2 x y H2 I2 rx ry q=>ho pins s2 σ H2 x y v u Q I2 rx ry q)
theorem W3 {f:Value->Value->Sem Value} {C:Int->Int->Prop} {g:Int->Int->Int}
  (rule:∀(i j:Int) (t u:Tok) (s:Shared) (Q:Value->Shared->Prop) (E:Value->Shared->Prop),C i j->Q (.int (g i j) s.toks) { s with toks:=s.toks+1 }->wpAny (model X.prog X.w) X.A (f (.int i t) (.int j u)) Q E s) :
  kR X f (rI C fun i j=>.int (g i j)):=by
 intro pins s σ H x y v u Q I rx ry h
 obtain ⟨i,j,rfl,rfl,hc,q⟩:=h
 obtain ⟨t,rfl⟩:=rx
 obtain ⟨t',rfl⟩:=ry
 exact rule i j t t' s _ _ hc ⟨.int (g i j),H,I.tok _,⟨_,rfl⟩,q⟩
theorem Uq {f:Value->Value->Sem Value} {g:Int->Int->Int}
  (rule:∀(i j:Int) (t u:Tok) (s:Shared) (Q:Value->Shared->Prop) (E:Value->Shared->Prop),Q (.int (g i j) s.toks) { s with toks:=s.toks+1 }->wpAny (model X.prog X.w) X.A (f (.int i t) (.int j u)) Q E s) :
  kR X f (Gm fun i j=>.int (g i j)):=by
 intro pins s σ H x y v u Q I rx ry h
 obtain ⟨i,j,rfl,rfl,q⟩:=h
 obtain ⟨t,rfl⟩:=rx
 obtain ⟨t',rfl⟩:=ry
 exact rule i j t t' s _ _ ⟨.int (g i j),H,I.tok _,⟨_,rfl⟩,q⟩
theorem Lq {f:Value->Value->Sem Value} {g:Int->Int->Bool}
  (rule:∀(i j:Int) (t u:Tok) (s:Shared) (Q:Value->Shared->Prop) (E:Value->Shared->Prop),Q (.bool (g i j)) s->wpAny (model X.prog X.w) X.A (f (.int i t) (.int j u)) Q E s) :
  kR X f (Gm fun i j=>.bl (g i j)):=by
 intro pins s σ H x y v u Q I rx ry h
 obtain ⟨i,j,rfl,rfl,q⟩:=h
 obtain ⟨t,rfl⟩:=rx
 obtain ⟨t',rfl⟩:=ry
 exact rule i j t t' s _ _ ⟨.bl (g i j),H,I,rfl,q⟩
def Wz (i j:Int):Prop:=0<=j/\j<=1000000/\i.natAbs < 2 ^ 64
def jd (i j:Int):Prop:=(-(2 ^ 64) < i/\i < 2 ^ 64)\/(-(2 ^ 64) < j/\j < 2 ^ 64)
theorem jd.ok {i j:Int} (h:jd i j):IntMulOk i j:=by
 rcases h with ⟨h1,h2⟩ | ⟨h1,h2⟩
 ·exact .of_left (intBits_le_64 h1 h2)
 ·exact .of_right (intBits_le_64 h1 h2)
theorem eO:kR X (binaryOp .Add) (Gm fun i j=>.int (i+j)):=Uq fun _ _ _ _ _ _ _ q=>add_int q
theorem Hh:kR X (binaryOp .Sub) (Gm fun i j=>.int (i - j)):=Uq fun _ _ _ _ _ _ _ q=>sub_int q
theorem jB:kR X (binaryOp .Mult) (rI jd fun i j=>.int (i * j)):=W3 fun _ _ _ _ _ _ _ hc q=>mul_int q hc.ok
theorem jC:kR X (binaryOp .Mod) (rI (fun _ j=>0 < j) fun i j=>.int (i % j)):=W3 fun i j _ _ _ _ _ hc q=>by
 have h1:(0:Int) < j:=hc
 exact mod_int' (by lia) (by rw [Int.fmod_eq_emod_of_nonneg i (by lia)];exact q)
theorem uH:kR X (binaryOp .Pow) (rI Wz fun i j=>.int (i ^ j.toNat)):=W3 fun _ _ _ _ _ _ _ hc q=>pow_int_small hc.1 hc.2.1 hc.2.2 q
end
def FT:V->V->Bool
 | .non,.non=>true | .non,.int _=>true | .int _,.non=>true | .non,.bl _=>true | .bl _,.non=>true | .non,.str _=>true | .str _,.non=>true
 | .int _,.int _=>true | .bl _,.bl _=>true | .str _,.str _=>true | .Ep _,.Ep _=>true
 | .int _,.str _=>true | .str _,.int _=>true | .bl _,.str _=>true | .str _,.bl _=>true
 | _,_=>false
def W2:R2:=fun x y H Q=>FT x y=true/\Q (.bl (decide (x=y))) H
def W0:R2:=fun x y H Q=>FT x y=true/\Q (.bl (!decide (x=y))) H
theorem Ax {i j:Int}:decide (V.int i=V.int j)=(i == j):=by
 rw [Bool.eq_iff_iff]
 simp
theorem Jo {i j:Bool}:decide (V.bl i=V.bl j)=(i == j):=by
 rw [Bool.eq_iff_iff]
 simp
theorem Aw {i j:Str}:decide (V.str i=V.str j)=(i == j):=by
 rw [Bool.eq_iff_iff]
 simp
theorem Ay {i j:Array UInt8}:decide (V.Ep i=V.Ep j)=(i.toList == j.toList):=by
 rw [Bool.eq_iff_iff]
 cases i
 cases j
 simp
section
variable {X:Cx} {a b c:Expr} {ta tb tc:TE} {pos:Pos}
theorem bJ {pins:List (Addr×Obj)} {σ:St} {H:Hp} {s:Shared} {Q:VK} {k k':Bool} (I:Inv X pins σ H s) (q:Q (.bl k) H) (e:k=k'):EP X pins σ Q (.bool k') s:=by
 subst e
 exact ⟨.bl k,H,I,rfl,q⟩
theorem oG:kR X (compareOp .Eq) W2:=by
 intro pins s σ H x y v u Q I rx ry h
 obtain ⟨hs,q⟩:=h
 cases x with
 | non=>
  cases rx
  cases y with
  | non=>cases ry;exact PySem.EqNone.eq_none_none (bJ I q (by simp))
  | bl j=>cases ry;exact PySem.EqNone.eq_none_bool (bJ I q (by simp))
  | int j=>obtain ⟨t',rfl⟩:=ry;exact PySem.EqNone.eq_none_int (bJ I q (by simp))
  | str j=>obtain ⟨t',rfl⟩:=ry;exact PySem.EqNone.eq_none_str (bJ I q (by simp))
  | _=>exact absurd (show false=true from hs) Bool.false_ne_true
 | bl i=>
  cases rx
  cases y with
  | non=>cases ry;exact PySem.EqNone.eq_bool_none (bJ I q (by simp))
  | bl j=>cases ry;exact eq_bool (bJ I q Jo)
  | str j=>obtain ⟨t',rfl⟩:=ry;exact PySem.EqMixed.eq_bool_str (bJ I q (by simp))
  | _=>exact absurd (show false=true from hs) Bool.false_ne_true
 | int i=>
  obtain ⟨t,rfl⟩:=rx
  cases y with
  | non=>cases ry;exact PySem.EqNone.eq_int_none (bJ I q (by simp))
  | int j=>obtain ⟨t',rfl⟩:=ry;exact eq_int (bJ I q Ax)
  | str j=>obtain ⟨t',rfl⟩:=ry;exact PySem.EqMixed.eq_int_str (bJ I q (by simp))
  | _=>exact absurd (show false=true from hs) Bool.false_ne_true
 | str i=>
  obtain ⟨t,rfl⟩:=rx
  cases y with
  | non=>cases ry;exact PySem.EqNone.eq_str_none (bJ I q (by simp))
  | bl j=>cases ry;exact PySem.EqMixed.eq_str_bool (bJ I q (by simp))
  | int j=>obtain ⟨t',rfl⟩:=ry;exact PySem.EqMixed.eq_str_int (bJ I q (by simp))
  | str j=>obtain ⟨t',rfl⟩:=ry;exact eq_str (bJ I q Aw)
  | _=>exact absurd (show false=true from hs) Bool.false_ne_true
 | Ep i=>
  obtain ⟨t,rfl⟩:=rx
  cases y with
  | Ep j=>obtain ⟨t',rfl⟩:=ry;exact PySem.W.eq_bytes (bJ I q Ay)
  | _=>exact absurd (show false=true from hs) Bool.false_ne_true
 | _=>cases y <;> exact absurd (show false=true from hs) Bool.false_ne_true
theorem N4:kR X (compareOp .NotEq) W0:=by
 intro pins s σ H x y v u Q I rx ry h
 obtain ⟨hs,q⟩:=h
 cases x with
 | non=>
  cases rx
  cases y with
  | non=>cases ry;exact PySem.EqNone.ne_none_none (bJ I q (by simp))
  | bl j=>cases ry;exact PySem.EqNone.ne_none_bool (bJ I q (by simp))
  | int j=>obtain ⟨t',rfl⟩:=ry;exact PySem.EqNone.ne_none_int (bJ I q (by simp))
  | str j=>obtain ⟨t',rfl⟩:=ry;exact PySem.EqNone.ne_none_str (bJ I q (by simp))
  | _=>exact absurd (show false=true from hs) Bool.false_ne_true
 | bl i=>
  cases rx
  cases y with
  | non=>cases ry;exact PySem.EqNone.ne_bool_none (bJ I q (by simp))
  | bl j=>cases ry;exact ne_bool (bJ I q (congrArg not Jo))
  | str j=>obtain ⟨t',rfl⟩:=ry;exact PySem.EqMixed.ne_bool_str (bJ I q (by simp))
  | _=>exact absurd (show false=true from hs) Bool.false_ne_true
 | int i=>
  obtain ⟨t,rfl⟩:=rx
  cases y with
  | non=>cases ry;exact PySem.EqNone.ne_int_none (bJ I q (by simp))
  | int j=>obtain ⟨t',rfl⟩:=ry;exact ne_int (bJ I q (congrArg not Ax))
  | str j=>obtain ⟨t',rfl⟩:=ry;exact PySem.EqMixed.ne_int_str (bJ I q (by simp))
  | _=>exact absurd (show false=true from hs) Bool.false_ne_true
 | str i=>
  obtain ⟨t,rfl⟩:=rx
  cases y with
  | non=>cases ry;exact PySem.EqNone.ne_str_none (bJ I q (by simp))
  | bl j=>cases ry;exact PySem.EqMixed.ne_str_bool (bJ I q (by simp))
  | int j=>obtain ⟨t',rfl⟩:=ry;exact PySem.EqMixed.ne_str_int (bJ I q (by simp))
  | str j=>obtain ⟨t',rfl⟩:=ry;exact ne_str (bJ I q (congrArg not Aw))
  | _=>exact absurd (show false=true from hs) Bool.false_ne_true
 | Ep i=>
  obtain ⟨t,rfl⟩:=rx
  cases y with
  | Ep j=>obtain ⟨t',rfl⟩:=ry;exact PySem.W.ne_bytes (bJ I q (congrArg not Ay))
  | _=>exact absurd (show false=true from hs) Bool.false_ne_true
 | _=>cases y <;> exact absurd (show false=true from hs) Bool.false_ne_true
theorem N5:kR X (compareOp .Lt) (Gm fun i j=>.bl (decide (i < j))):=Lq fun _ _ _ _ _ _ _ q=>lt_int q
theorem N6:kR X (compareOp .LtE) (Gm fun i j=>.bl (decide (i<=j))):=Lq fun _ _ _ _ _ _ _ q=>le_int q
theorem Hi:kR X (compareOp .Gt) (Gm fun i j=>.bl (decide (j < i))):=Lq fun _ _ _ _ _ _ _ q=>gt_int q
theorem Uo:kR X (compareOp .GtE) (Gm fun i j=>.bl (decide (j<=i))):=Lq fun _ _ _ _ _ _ _ q=>ge_int q
theorem dk (b:Expr) {op:CmpOp} (h:op≠.In:=by decide) (h2:op≠.NotIn:=by decide):behindInMarks op b=false:=by
 have e1:(op == CmpOp.In)=false:=by cases op <;> first | rfl | exact absurd rfl h
 have e2:(op == CmpOp.NotIn)=false:=by cases op <;> first | rfl | exact absurd rfl h2
 cases b <;> simp [behindInMarks,e1,e2]
theorem Lk {op:CmpOp} {r:R2} (ho:kR X (compareOp op) r) (ha:PE X a ta) (hb:PE X b tb) (hm:behindInMarks op b=false):PE X (.Compare a [op] [b] pos) (Fl r ta tb):=by
 intro pins s σ H Q I h
 exact wpAny_Compare1 (R6 ha hb I h fun v u s2 x y H2 I2 rx ry q=>ho pins s2 σ H2 x y v u Q I2 rx ry q) hm
def vJ (t:TE):TT:=fun σ H Q=>t σ H fun x H'=>∃k,x=.bl k/\Q k H'
theorem K0 {op:CmpOp} {r:R2} (ho:kR X (compareOp op) r) (ha:PE X a ta) (hb:PE X b tb) (hm:behindInMarks op b=false):PT X (.Compare a [op] [b] pos) (vJ (Fl r ta tb)):=by
 intro pins s σ H Q I h
 refine wpAny_isTrue_Compare1 (cy (ha pins s σ H _ I h) fun v s1 ⟨x,H1,I1,r1,q1⟩=>cy (hb pins s1 σ H1 _ I1 q1) fun u s2 ⟨y,H2,I2,r2,q2⟩=>
  cy (ho pins s2 σ H2 x y v u _ I2 r1 r2 q2) fun c s3 ⟨z,H3,I3,r3,k,e,q3⟩=>?_) hm
 subst e
 cases r3
 exact wpAny_truthy_bool ⟨H3,I3,q3⟩
theorem qc:(sizeLine:Nat) < 2 ^ 63:=by rw [sizeLine_eq];decide
theorem vals1 {x:V} {us:List Value} (r:Vals [x] us):∃u,us=[u]/\RelV x u:=by
 cases r with
 | cons r1 r2=>cases r2;exact ⟨_,rfl,r1⟩
theorem JB:dA X (.builtin "abs") (fun xs H Q=>∃i,xs=[.int i]/\Q (.int (if i < 0 then -i else i)) H):=by
 intro pins s σ H xs us Q I r h
 obtain ⟨i,rfl,q⟩:=h
 obtain ⟨u,rfl,t,rfl⟩:=vals1 r
 exact call_abs_int fun u tk=>⟨.int (if i < 0 then -i else i),H,I.tok _,⟨_,rfl⟩,q⟩
end
end L2
namespace L2
open PySem PySem.Spec PyProof.Rows
structure zg (h:Heap) (x dx C:Addr) (mA:Str->Option Value):Prop where
 obj:h.get? x=some (PySem.W.instObj C dx)
 ns:h.Ns1 dx mA
 ne:dx≠x
theorem CP {h:Heap} {dx:Addr} {mA:Str->Option Value} (n:h.Ns1 dx mA):∃od,h.get? dx=some od/\∀name,PySem.W.lookIn name od=some (mA name):=by
 obtain ⟨o,es,ep,ho,hd,hk,_,hm⟩:=n
 refine ⟨o,ho,fun name=>?_⟩
 have e:=hm name
 unfold nsFind findBy at e
 rw [<-Array.find?_toList] at e
 unfold PySem.W.lookIn
 rw [hd]
 dsimp only
 split
 ·rename_i y q
  rw [q] at e
  exact congrArg some e
 ·rename_i q
  rw [q] at e
  have a:es.toList.any (·.refKey)=false:=by
   rw [List.any_eq_false]
   intro y hy
   obtain ⟨z,t,hkey⟩:=hk y (Array.mem_toList_iff.mp hy)
   simp [DictEntry.refKey,hkey]
  have a':¬es.toList.any (·.refKey)=true:=by rw [a];exact Bool.false_ne_true
  rw [if_neg a']
  exact congrArg some e
theorem zg.look {h:Heap} {x dx C:Addr} {mA:Str->Option Value} (I:zg h x dx C mA):∃od,PySem.W.InstAt h x (PySem.W.instObj C dx) C (some od)/\∀name,PySem.W.lookIn name od=some (mA name):=
 let ⟨od,ho,hl⟩:=CP I.ns
 ⟨od,⟨I.obj,rfl,rfl,ho⟩,hl⟩
section
variable {prog:Program} {w:World} {A:Around} {E:Value->Shared->Prop} {s:Shared} {K:PySem.W.Frag} {x dx C f:Addr} {mA:Str->Option Value} {name:Str} {v:Value}
theorem get_map {expr:Bool} {Q:Value->Shared->Prop} (X:K.In s.heap) (I:zg s.heap x dx C mA) (hg:PySem.W.plainGet K C name=true) (hh:PySem.W.hasDictIn K C=true)
  (ha:PySem.W.findIn K (.ref C) name=some none) (hv:mA name=some v) (Ma:PySem.W.handedIn v=true) (h:Q v { s with toks:=s.toks+1 }) :
  wpAny (model prog w) A (getAttr (.ref x) name expr) Q E s:=by
 obtain ⟨od,J,hl⟩:=I.look
 exact PySem.W.get_value X J (PySem.W.plainGet_of hg).1 (PySem.W.findObj_own hh ha rfl (by rw [hl,hv])) Ma h
theorem Jb {pl:Sem Bool} {Q:Value×List Value->Shared->Prop} (X:K.In s.heap) (I:zg s.heap x dx C mA) (hg:PySem.W.plainGet K C name=true)
  (hf:PySem.W.findIn K (.ref C) name=some (some (.ref f))) (ht:PySem.W.isFn K (.ref f)=true) (hv:mA name=none) (h:Q (.ref f,[.ref x]) s) :
  wpAny (model prog w) A (getMethod (.ref x) name pl) Q E s:=by
 obtain ⟨od,J,hl⟩:=I.look
 exact PySem.W.method_fn X J (PySem.W.plainGet_of hg).1 (PySem.W.plainGet_of hg).2 hf (beq_iff_eq.mp ht) (by show (PySem.W.lookIn name od).map (·.isSome)=some false;rw [hl,hv];rfl) h
theorem Kq {ns:List Str} {Q:Unit->Shared->Prop} (X:K.In s.heap) (I:zg s.heap x dx C mA)
  (hs:PySem.W.findIn K (.ref C) "__setattr__" = some (some (.builtin "object.__setattr__"))) (hp:PySem.W.plainOver K C=true) (ht:PySem.W.takerIn K C name=some none) (hh:PySem.W.hasDictIn K C=true)
  (hw:PySem.Within mA ns) (hsz:ns.length<=sizeLine)
  (h:∀h',zg h' x dx C (fun y=>if y=name then some v else mA y)->Heap.SameBut dx s.heap h'->Q () { s with heap:=h',toks:=s.toks+2 }) :
  wpAny (model prog w) A (setAttr (.ref x) name v) Q E s:=by
 obtain ⟨od,J,hl⟩:=I.look
 refine PySem.W.set_plain X J hs (PySem.W.osa_open (s:={ s with toks:=s.toks+1 }) (r:=none) X J hp ht fun b=>?_)
 obtain ⟨cd,hc,Vs⟩:=PySem.W.any_some hh
 have hx:s.heap.get? x=some ⟨.ref C,some dx,.plain,#[]⟩:=I.obj
 refine wpAny_bind (wpAny_pure (wpAny_bind (wpAny_bind (wpAny_loadPart hx (wpAny_bind (PySem.W.Looks.here (s:={ s with toks:=s.toks+1 }) (PySem.W.looks_clsIn X hc) ?_))))))
 rw [Vs]
 refine wpAny_pure (a:=some dx) (wpAny_bind (wpAny_pure (wpAny_bind ?_)))
 refine wpAny_nsSet1 (s:={ s with toks:=s.toks+1 }) I.ns fun h' El hs2=>?_
 obtain ⟨oD,esD,epD,hoD,hdD,hcD⟩:=El.count (PySem.Within.cons name v hw)
 refine wpAny_bind (wpAny_lookBehind hoD (by rw [hdD];exact pastItsLine_dict (Nat.le_trans hcD (by rw [List.length_cons];lia))) ?_)
 exact wpAny_pure (h _ ⟨(hs2.2 _ (Ne.symm I.ne)).trans I.obj,El,I.ne⟩ hs2)
theorem HD {R:Result->Shared->Prop} {vs:List Value} {kw:List (Str×Value)} (X:K.In s.heap) (hm:PySem.W.makesIn K C=true)
  (hi:PySem.W.findIn K (.ref C) "__init__" = some (some (.ref f))) (hf:PySem.W.typeIn K (.ref f)=some (.type "function"))
  (h:codeAny (model prog w) (A.under (.builtin "type.__call__" ⟨.ref C::vs,kw⟩)) (.call (.ref f) ⟨.ref (s.heap.objs.size+1)::vs,kw⟩) (PySem.W.InitBack (s.heap.objs.size+1) R)
   { s with heap:=(s.heap.push PySem.W.emptyDict).push (PySem.W.instObj C s.heap.objs.size) }) :
  codeAny (model prog w) A (.call (.ref C) ⟨vs,kw⟩) R s:=by
 obtain ⟨hh,g,d,t,os⟩:=s
 exact PySem.W.make_core (PySem.W.makes_of X hm) (PySem.W.looks_findIn X hi) (fun self=>PySem.W.bind_fn X self hf) (.inl rfl) h
end
def jz (f:Str) (v:V):List (Str×V)->List (Str×V)
 | []=>[(f,v)]
 | (g,x)::r=>if g=f then (g,v)::r else (g,x)::jz f v r
theorem oI (f g:Str) (v:V):∀fs:List (Str×V),(jz f v fs).lookup g=if g=f then some v else fs.lookup g
 | []=>by
  show List.lookup g [(f,v)]=_
  by_cases h:g=f
  ·have hb:(g == f)=true:=beq_iff_eq.mpr h
   simp only [List.lookup,hb,if_pos h]
  ·have hb:(g == f)=false:=beq_eq_false_iff_ne.mpr h
   simp only [List.lookup,hb,if_neg h]
 | (k,x)::r=>by
  have ih:=oI f g v r
  rw [show jz f v ((k,x)::r)=(if k=f then (k,v)::r else (k,x)::jz f v r) from rfl]
  by_cases hk:k=f
  ·rw [if_pos hk]
   by_cases h:g=k
   ·have hb:(g == k)=true:=beq_iff_eq.mpr h
    simp only [List.lookup,hb,if_pos (h.trans hk)]
   ·have hb:(g == k)=false:=beq_eq_false_iff_ne.mpr h
    simp only [List.lookup,hb,if_neg (fun e:g=f=>h (e.trans hk.symm))]
  ·rw [if_neg hk]
   by_cases h:g=k
   ·have hb:(g == k)=true:=beq_iff_eq.mpr h
    simp only [List.lookup,hb,if_neg (fun e:g=f=>hk (h.symm.trans e))]
   ·have hb:(g == k)=false:=beq_eq_false_iff_ne.mpr h
    simp only [List.lookup,hb]
    exact ih
theorem nX (f:Str) (v:V):∀fs:List (Str×V),f∈(jz f v fs).map (·.1)/\∀g,g∈fs.map (·.1)->g∈(jz f v fs).map (·.1)
 | []=>⟨by simp [jz],fun g h=>by simp at h⟩
 | (k,x)::r=>by
  obtain ⟨i1,i2⟩:=nX f v r
  rw [show jz f v ((k,x)::r)=(if k=f then (k,v)::r else (k,x)::jz f v r) from rfl]
  by_cases hk:k=f
  ·rw [if_pos hk]
   subst hk
   exact ⟨by simp,fun g h=>by simpa using h⟩
  ·rw [if_neg hk]
   refine ⟨?_,fun g h=>?_⟩
   ·rw [List.map_cons]
    exact List.mem_cons_of_mem _ i1
   ·rw [List.map_cons] at h ⊢
    rcases List.mem_cons.mp h with e | e
    ·exact List.mem_cons.mpr (.inl e)
    ·exact List.mem_cons_of_mem _ (i2 g e)
theorem oJ (f:Str) (v:V):∀fs:List (Str×V),(jz f v fs).length<=fs.length+1
 | []=>by simp [jz]
 | (k,x)::r=>by
  have ih:=oJ f v r
  rw [show jz f v ((k,x)::r)=(if k=f then (k,v)::r else (k,x)::jz f v r) from rfl]
  by_cases hk:k=f
  ·rw [if_pos hk,List.length_cons,List.length_cons];lia
  ·rw [if_neg hk,List.length_cons,List.length_cons];lia
theorem kB.some_of {v:V} {o:Option Value} (r:kB (some v) o):∃u,o=some u/\RelV v u:=by
 cases o with
 | none=>exact (show False from r).elim
 | some u=>exact ⟨u,rfl,r⟩
theorem kB.none_of {o:Option Value} (r:kB none o):o=none:=by
 cases o with
 | none=>rfl
 | some u=>exact (show False from r).elim
theorem Dm {v:V} {u:Value} (r:RelV v u):PySem.W.handedIn u=true:=by
 cases v with
 | non=>cases (show u=Value.none from r);rfl
 | bl b=>cases (show u=Value.bool b from r);rfl
 | int i=>obtain ⟨t,e⟩:=(show ∃t,u=Value.int i t from r);cases e;rfl
 | str x=>obtain ⟨t,e⟩:=(show ∃t,u=Value.str x t from r);cases e;rfl
 | Ep b=>obtain ⟨t,e⟩:=(show ∃t,u=Value.bytes b t from r);cases e;rfl
 | RV b=>obtain ⟨t,e⟩:=(show ∃t,u=Value.float b t from r);cases e;rfl
 | ref a=>cases (show u=Value.ref a from r);rfl
 | ty n=>cases (show u=Value.type n from r);rfl
section
variable {P:Program} {w:World} {H H':Hp} {h h':Heap} {a C dx:Addr} {fs fs':List (Str×V)}
theorem ni (bh:fA P w H h) (e:H a=some (.ins C dx fs)):∃mA,zg h a dx C mA/\(∀f,kB (fs.lookup f) (mA f))/\PySem.Within mA (fs.map (·.1))/\fs.length<=1000/\H dx=some (.own a):=by
 obtain ⟨d,z,ne,ob,mA,n,r,q⟩:=(show cD P w H h a (.ins C dx fs) from bh a _ e)
 exact ⟨mA,⟨ob,n,ne⟩,r,q,z,d⟩
end
structure Cls (K:PySem.W.Frag) (C:Addr):Prop where
 pg:PySem.W.plainGet K C Str.empty=true
 hd:PySem.W.hasDictIn K C=true
 po:PySem.W.plainOver K C=true
 sa:PySem.W.findIn K (.ref C) "__setattr__" = some (some (.builtin "object.__setattr__"))
theorem Cls.get {K:PySem.W.Frag} {C:Addr} (c:Cls K C) (f:Str):PySem.W.plainGet K C f=true:=c.pg
def fP (K:PySem.W.Frag) (C:Addr) (f:Str):Prop:=PySem.W.findIn K (.ref C) f=some none
theorem fP.Tf {K:PySem.W.Frag} {C:Addr} {f:Str} (n:fP K C f):PySem.W.takerIn K C f=some none:=by
 unfold PySem.W.takerIn
 rw [show PySem.W.findIn K (.ref C) f=some none from n]
 rfl
structure Meth (K:PySem.W.Frag) (C:Addr) (m:Str) (f:Addr):Prop where
 at_:PySem.W.findIn K (.ref C) m=some (some (.ref f))
 fn:PySem.W.isFn K (.ref f)=true
 kp:PySem.W.keepIn K (.ref f)=true
section
variable {X:Cx} {pins:List (Addr×Obj)} {σ:St} {H:Hp} {s:Shared} {a C dx:Addr} {fs:List (Str×V)} {f:Str} {v:V} {A:Around} {E:Value->Shared->Prop}
theorem qu {b:Bool} {Q:Value->Shared->Prop} (I:Inv X pins σ H s) (e:H a=some (.ins C dx fs)) (c:Cls X.K C) (n:fP X.K C f) (l:fs.lookup f=some v)
  (h:∀u s',Inv X pins σ H s'->RelV v u->Q u s'):wpAny (model X.prog X.w) A (getAttr (.ref a) f b) Q E s:=by
 obtain ⟨mA,O,r,_,_,_⟩:=ni I.bh e
 obtain ⟨u,hu,ru⟩:=kB.some_of (v:=v) (o:=mA f) (by rw [<-l];exact r f)
 exact get_map I.jr O (c.get f) c.hd n hu (Dm ru) (h u _ (I.tok _) ru)
theorem qt {m:Str} {g:Addr} {pl:Sem Bool} {Q:Value×List Value->Shared->Prop} (I:Inv X pins σ H s) (e:H a=some (.ins C dx fs)) (c:Cls X.K C) (k:Meth X.K C m g) (l:fs.lookup m=none)
  (h:Q (.ref g,[.ref a]) s):wpAny (model X.prog X.w) A (getMethod (.ref a) m pl) Q E s:=by
 obtain ⟨mA,O,r,_,_,_⟩:=ni I.bh e
 have hn:mA m=none:=kB.none_of (by rw [<-l];exact r m)
 exact Jb I.jr O (c.get m) k.at_ k.fn hn h
theorem xW {y:V} {u:Value} {Q:Unit->Shared->Prop} (I:Inv X pins σ H s) (e:H a=some (.ins C dx fs)) (c:Cls X.K C) (n:fP X.K C f) (hl:fs.length < 1000) (ry:RelV y u)
  (h:∀s',Inv X pins σ (upd H a (.ins C dx (jz f y fs))) s'->Q () s'):wpAny (model X.prog X.w) A (setAttr (.ref a) f u) Q E s:=by
 obtain ⟨mA,O,r,wi,_,ho⟩:=ni I.bh e
 have hz:(fs.map (·.1)).length<=sizeLine:=by rw [List.length_map,sizeLine_eq];lia
 refine Kq I.jr O c.sa c.po n.Tf c.hd wi hz fun h' O' sb=>h _ ?_
 have hd:∃o,h'.get? dx=some o:=let ⟨o,_,_,e',_⟩:=O'.ns;⟨o,e'⟩
 refine I.write (x:=a) (e:=dx) (by rw [e];exact True.intro) (.inr ho) (fun b q hb z=>(sb.2 b hb).trans z) hd ?_
 refine ⟨by rw [aq O.ne];exact ho,?_,O.ne,O'.obj,_,O'.ns,fun g=>?_,fun g hg=>?_⟩
 ·have:=oJ f y fs;lia
 ·show kB ((jz f y fs).lookup g) (if g=f then some u else mA g)
  rw [oI]
  by_cases q:g=f
  ·rw [if_pos q,if_pos q];exact ry
  ·rw [if_neg q,if_neg q];exact r g
 ·by_cases q:g=f
  ·rw [q];exact (nX f y fs).1
  ·refine (nX f y fs).2 g (wi g fun z=>hg ?_)
   show (if g=f then some u else mA g)=none
   rw [if_neg q];exact z
theorem Inv.made (I:Inv X pins σ H s):Inv X pins σ (upd (upd H s.heap.objs.size (.own (s.heap.objs.size+1))) (s.heap.objs.size+1) (.ins C s.heap.objs.size []))
  { s with heap:=(s.heap.push PySem.W.emptyDict).push (PySem.W.instObj C s.heap.objs.size) }:=by
 have e1:(s.heap.push PySem.W.emptyDict).get? s.heap.objs.size=some PySem.W.emptyDict:=Heap.get?_push_size s.heap rfl
 have e2:((s.heap.push PySem.W.emptyDict).push (PySem.W.instObj C s.heap.objs.size)).get? (s.heap.objs.size+1)=some (PySem.W.instObj C s.heap.objs.size):=by
  have:=Heap.get?_push_size (s.heap.push PySem.W.emptyDict) (o:=PySem.W.instObj C s.heap.objs.size) rfl
  rwa [Heap.size_push] at this
 have e3:(s.heap.push PySem.W.emptyDict).Ns s.heap.objs.size (fun _=>none):=⟨PySem.W.emptyDict,#[],_,e1,rfl,(fun e he=>absurd he (by simp)),fun _=>rfl⟩
 have I1:=I.laid (a:=s.heap.objs.size) (o:=.own (s.heap.objs.size+1)) (h':=s.heap.push PySem.W.emptyDict) (t':=s.toks) (fun b u q=>Heap.get?_push_of_some _ q) (Nat.le_refl _) ⟨_,e1⟩
 refine I1.laid (a:=s.heap.objs.size+1) (o:=.ins C s.heap.objs.size []) (t':=s.toks) (fun b u q=>Heap.get?_push_of_some _ q) (Nat.le_of_eq (Heap.size_push _ _)) ?_
 have ne:s.heap.objs.size≠s.heap.objs.size+1:=Nat.ne_of_lt (Nat.lt_succ_self _)
 refine ⟨by rw [aq ne,ah],Nat.zero_le _,ne,e2,fun _=>none,(Heap.Ns1.of_empty e3).at fun o q=>Heap.get?_push_of_some _ q,fun _=>True.intro,fun y hy=>absurd rfl hy⟩
theorem Nm {prog:Program} {w:World} {env:Env} {e:Expr} {f:Str} {pos:Pos} {s:Shared} {Q:Value->Shared->Prop} (hb:attributeBase e f env (eval e env)=eval e env)
  (h:wpAny (model prog w) A (eval e env) (fun o s₁=>wpAny (model prog w) A (getAttr o f true) Q E s₁) E s):wpAny (model prog w) A (eval (.Attribute e f pos) env) Q E s:=
 Attribute_any_ h (by rw [arm_eval_Attribute,hb])
end
def Ke (K:PySem.W.Frag) (ta:TE) (f:Str):TE:=fun σ H Q=>ta σ H fun x H1=>∃a C dx fs v,x=.ref a/\H1 a=some (.ins C dx fs)/\Cls K C/\fP K C f/\fs.lookup f=some v/\Q v H1
def Ku (K:PySem.W.Frag) (ta tv:TE) (f:Str):TS:=fun D σ H=>tv σ H fun y H1=>ta σ H1 fun x H2=>∃a C dx fs,x=.ref a/\H2 a=some (.ins C dx fs)/\Cls K C/\fP K C f/\fs.length < 1000/\
 D.nx σ (upd H2 a (.ins C dx (jz f y fs)))
section
variable {X:Cx} {o e value:Expr} {f:Str} {pos pos' Ff:Pos} {ta tv:TE}
theorem Qu (he:PE X e ta) (hb:attributeBase e f X.env (eval e X.env)=eval e X.env):PE X (.Attribute e f pos) (Ke X.K ta f):=by
 intro pins s σ H Q I h
 refine Nm hb (cy (he pins s σ H _ I h) fun u s1 ⟨x,H1,I1,rx,a,C,dx,fs,v,ex,ea,c,n,l,q⟩=>?_)
 subst ex
 obtain rfl:u=Value.ref a:=rx
 exact qu I1 ea c n l fun u' s2 I2 ru=>⟨v,H1,I2,ru,q⟩
theorem Qj (ha:PE X o ta) (hv:PE X value tv) (hs:swapsWith value (some (.Attribute o f pos')) pos.line X.env=pure false):PS X (.Assign [.Attribute o f pos'] value pos) (Ku X.K ta tv f):=by
 intro pins s σ H D I h
 refine plainObj_wpAny_Assign_Attribute (cy (hv pins s σ H _ I h) fun u s1 ⟨y,H1,I1,ry,q⟩=>cy (ha pins s1 σ H1 _ I1 q) fun ov s2 ⟨x,H2,I2,rx,a,C,dx,fs,ex,ea,c,n,l,q2⟩=>?_) hs
 subst ex
 obtain rfl:ov=Value.ref a:=rx
 exact xW I2 ea c n l ry fun s3 I3=>⟨σ,_,I3,q2⟩
theorem N9 {pl:Sem Bool} {m:Str} {apos:Pos} {args:List Expr} {pins:List (Addr×Obj)} {s:Shared} {σ:St} {H:Hp} {Q:Value->Shared->Prop} {te:TE} (he:PE X e te) (I:Inv X pins σ H s)
  (h:te σ H fun x H1=>∃a C dx fs g,x=.ref a/\H1 a=some (.ins C dx fs)/\Cls X.K C/\Meth X.K C m g/\fs.lookup m=none/\
   ∀s1,Inv X pins σ H1 s1->wpAny (model X.prog X.w) X.A (callWith pos (.ref g) [.ref a] (backTo pos (starEach args X.env)) (backToKw pos (keywordEach [] X.env))) Q X.xe s1)
  (ht:eval (.Call (.Attribute e m apos) args [] pos) X.env=(do
   let ov <-eval e X.env
   standAt apos.atName
   let (f,first) <-holding [ov] (getMethod ov m pl)
   callWith pos f first (backTo pos (starEach args X.env)) (backToKw pos (keywordEach [] X.env)))) :
  wpAny (model X.prog X.w) X.A (eval (.Call (.Attribute e m apos) args [] pos) X.env) Q X.xe s:=by
 refine PySem.W.methodCall_KW (pl:=pl) (cy (he pins s σ H _ I h) fun u s1 ⟨x,H1,I1,rx,a,C,dx,fs,g,ex,ea,c,k,l,q⟩=>?_) ht
 subst ex
 obtain rfl:u=Value.ref a:=rx
 exact qt I1 ea c k l (q s1 I1)
end
section
variable {X:Cx} {pins:List (Addr×Obj)} {σ:St} {H:Hp} {s:Shared} {A:Around} {E:Value->Shared->Prop} {Q:Value->Shared->Prop} {c:Value} {b:Bool}
inductive nv (K:PySem.W.Frag) (H:Hp):V->Value->Prop where
 | non:nv K H .non (.type "NoneType")
 | bl (x:Bool):nv K H (.bl x) (.type "bool")
 | int (i:Int):nv K H (.int i) (.type "int")
 | str (x:Str):nv K H (.str x) (.type "str")
 | RV (x:UInt64):nv K H (.RV x) (.type "float")
 | lst {a:Addr} {xs:List V} (e:H a=some (.lst xs)):nv K H (.ref a) (.type "list")
 | tI {a:Addr} {o:Obj} {xs:List V} (e:H a=some (.tI o (.lst xs))):nv K H (.ref a) (.type "list")
 | tup {a:Addr} {xs:List V} (e:H a=some (.tup xs)):nv K H (.ref a) (.type "tuple")
 | dK {a:Addr} {aE:List (Key×V)} (e:H a=some (.dK aE)):nv K H (.ref a) (.type "dict")
 | dT {a:Addr} {aE:List (List Key×V)} (e:H a=some (.dT aE)):nv K H (.ref a) (.type "dict")
 | ins {a C dx:Addr} {fs:List (Str×V)} (e:H a=some (.ins C dx fs)) (cl:Cls K C) (ha:PySem.W.findIn K (.ref C) "__class__" = some (some (.builtin "object.__class__")))
   (hn:PySem.W.specialIn K (.builtin "object.__class__") "__get__" = some (some (.builtin "getset_descriptor.__get__"))) (htk:PySem.W.takesIn K (.builtin "object.__class__")=some true)
   (hm:PySem.W.mroIn K C (.type "object")=some true):nv K H (.ref a) (.ref C)
theorem Df {x:V} {u t:Value} (I:Inv X pins σ H s) (rx:RelV x u) (ty:nv X.K H x t) (e:PySem.W.kitOne X.K t c=some b) (h:∀tk,Q (.bool b) { s with toks:=tk }) :
  wpAny (model X.prog X.w) A (call (.builtin "isinstance") [u,c]) Q E s:=by
 cases ty with
 | non=>cases (show u=Value.none from rx);exact PySem.W.kia_one PySem.W.kitx_none I.jr True.intro e (fun z=>nomatch z) h
 | bl y=>cases (show u=Value.bool y from rx);exact PySem.W.kia_one PySem.W.kitx_bool I.jr True.intro e (fun z=>nomatch z) h
 | int i=>obtain ⟨t,q⟩:=(show ∃t,u=Value.int i t from rx);cases q;exact PySem.W.kia_one PySem.W.kitx_int I.jr True.intro e (fun z=>nomatch z) h
 | str y=>obtain ⟨t,q⟩:=(show ∃t,u=Value.str y t from rx);cases q;exact PySem.W.kia_one PySem.W.kitx_str I.jr True.intro e (fun z=>nomatch z) h
 | RV y=>obtain ⟨t,q⟩:=(show ∃t,u=Value.float y t from rx);cases q;exact PySem.W.kia_one PySem.W.kitx_float I.jr True.intro e (fun z=>nomatch z) h
 | @lst a xs ea=>
  cases (show u=Value.ref a from rx)
  obtain ⟨_,_,n,_,h1⟩:=(show cD X.prog X.w H s.heap a (.lst xs) from I.bh a _ ea)
  exact PySem.W.kia_one PySem.W.kitx_list I.jr ⟨_,h1,rfl⟩ e (fun z=>nomatch z) h
 | @tI a ob xs ea=>
  cases (show u=Value.ref a from rx)
  obtain ⟨_,_,_,n,_,h1⟩:=(show cD X.prog X.w H s.heap a (.tI ob (.lst xs)) from I.bh a _ ea)
  exact PySem.W.kia_one PySem.W.kitx_list I.jr ⟨_,h1,rfl⟩ e (fun z=>nomatch z) h
 | @tup a xs ea=>
  cases (show u=Value.ref a from rx)
  obtain ⟨_,_,_,p⟩:=(show cD X.prog X.w H s.heap a (.tup xs) from I.bh a _ ea)
  obtain ⟨o,h1,h2,_⟩:=p
  exact PySem.W.kia_one PySem.W.kitx_tuple I.jr ⟨o,h1,h2⟩ e (fun z=>nomatch z) h
 | @dK a aE ea=>
  cases (show u=Value.ref a from rx)
  obtain ⟨_,_,vs,_,p⟩:=(show cD X.prog X.w H s.heap a (.dK aE) from I.bh a _ ea)
  obtain ⟨o,es,ep,h1,h2,_⟩:=p
  exact PySem.W.kia_one PySem.W.kitx_dict I.jr ⟨o,h1,h2.1⟩ e (fun z=>nomatch z) h
 | @dT a aE ea=>
  cases (show u=Value.ref a from rx)
  obtain ⟨_,_,xs,_,o,es,ep,h1,h2,_⟩:=(show cD X.prog X.w H s.heap a (.dT aE) from I.bh a _ ea)
  exact PySem.W.kia_one PySem.W.kitx_dict I.jr ⟨o,h1,h2.1⟩ e (fun z=>nomatch z) h
 | @ins a C dx fs ea cl ha hn htk hm=>
  cases (show u=Value.ref a from rx)
  obtain ⟨mA,O,_⟩:=ni I.bh ea
  obtain ⟨od,J,_⟩:=O.look
  exact PySem.W.kia_one (PySem.W.kitx_own (cl.get _) cl.hd ha hn htk hm) I.jr J e (fun z=>nomatch z) h
end
end L2
namespace L2
open PySem PySem.Spec PyProof.Rows
structure bW (k:Nat) (A:Around):Prop where
 hd:A.handled=none
 dp:A.depth+3 * k+5 < recursionLimit
 un:A.units+16 * k+200 < cLine
theorem bW.mono {j k:Nat} {A:Around} (r:bW k A) (h:j<=k):bW j A:=⟨r.hd,by have:=r.dp;lia,by have:=r.un;lia⟩
theorem bW.deeper {k:Nat} {A:Around} (r:bW (k+1) A) (env:Env):bW k (A.deeper env):=
 ⟨r.hd,by have:=r.dp;show A.depth+1+3 * k+5 < _;lia,by have:=r.un;show A.units+3+16 * k+200 < _;lia⟩
theorem bW.in1 {k:Nat} {A:Around} (r:bW (k+1) A):bW k A.in1:=
 ⟨r.hd,by have:=r.dp;show A.depth+3 * k+5 < _;lia,by have:=r.un;show A.units+1+16 * k+200 < _;lia⟩
theorem yq {A:Around} {C:Addr} {us:List Value} {kw:List (Str×Value)}:(A.under (.builtin "type.__call__" ⟨.ref C::us,kw⟩)).depth=A.depth+1:=by
 first | rfl | simp [Around.under,Code.weight,Code.isCreation,Code.isGuard,Code.isCaller,Code.frames,Code.isFrame,guardIds]
theorem yp {A:Around} {C:Addr} {us:List Value} {kw:List (Str×Value)}:(A.under (.builtin "type.__call__" ⟨.ref C::us,kw⟩)).units=A.units+1:=by
 first | rfl | simp [Around.under,Code.cUnits,Code.frames,Code.isFrame]
theorem bW.make {k:Nat} {A:Around} (r:bW (k+1) A) (C:Addr) (us:List Value) (kw:List (Str×Value)):bW k (A.under (.builtin "type.__call__" ⟨.ref C::us,kw⟩)):=
 ⟨r.hd,by have:=r.dp;rw [yq];lia,by have:=r.un;rw [yp];lia⟩
theorem bW.depth {k:Nat} {A:Around} (r:bW k A):A.depth < recursionLimit:=by have:=r.dp;lia
theorem bW.units {k:Nat} {A:Around} (r:bW k A):A.units+64 < cLine:=by have:=r.un;lia
theorem bW.fY {k:Nat} {A:Around} (r:bW k A):A.units < cLine:=by have:=r.un;lia
def BL:TA:=fun _ H Q=>Q [] H
def rX (ta:TE) (tr:TA):TA:=fun σ H Q=>ta σ H fun x H1=>tr σ H1 fun xs H2=>Q (x::xs) H2
section
variable {X:Cx} {e:Expr} {es:List Expr} {te:TE} {t:TA} {pos:Pos}
theorem yd:PA X [] BL:=fun _ _ _ _ H Q I h=>Calls.spliced_nil ⟨[],H,I,.nil,h⟩
theorem pB (ha:PE X e te) (hr:PA X es t) (hs:starEach (e::es) X.env=(false,eval e X.env)::starEach es X.env:=by rfl):PA X (e::es) (rX te t):=by
 intro pos pins s σ H Q I h
 rw [hs]
 show wpAny _ _ (spliced ((false,eval e X.env)::backTo pos (starEach es X.env))) _ _ s
 refine Calls.spliced_cons (cy (ha pins s σ H _ I h) fun u s1 ⟨x,H1,I1,r1,q1⟩=>?_)
 exact cy (hr pos pins s1 σ H1 _ I1 q1) fun us s2 ⟨xs,H2,I2,r2,q2⟩=>⟨x::xs,H2,I2,.cons r1 r2,q2⟩
def Fh (t:TA):TE:=fun σ H Q=>t σ H fun xs H1=>xs.length<=sizeLine/\∀p,H1 p=none->Q (.ref p) (upd H1 p (.tup xs))
def Fn (t:TA):TE:=fun σ H Q=>t σ H fun xs H1=>xs.length<=sizeLine/\∀p,H1 p=none->Q (.ref p) (upd H1 p (.lst xs))
theorem Qp {x1} (h:PA X es t):PE X (.Tuple es x1 pos) (Fh t):=by
 intro pins s σ H Q I hq
 refine wpAny_Tuple_spliced (cy (h pos pins s σ H _ I hq) fun us s1 ⟨xs,H1,I1,r,z,q⟩=>⟨by rw [<-r.length];exact z,?_⟩)
 have hf:H1 s1.heap.objs.size=none:=I1.bh.fresh (Nat.le_refl _)
 refine ⟨.ref s1.heap.objs.size,upd H1 s1.heap.objs.size (.tup xs),I1.laid (t':=s1.toks) (fun b u e=>Heap.get?_push_of_some _ e) (Nat.le_refl _) ?_,rfl,q _ hf⟩
 exact ⟨z,us,r,⟨_,Heap.get?_push_size _ rfl,rfl,_,rfl⟩⟩
theorem Qs (h:PA X es t):PE X (.List es pos) (Fn t):=by
 intro pins s σ H Q I hq
 refine wpAny_List_spliced (cy (h pos pins s σ H _ I hq) fun us s1 ⟨xs,H1,I1,r,z,q⟩=>⟨by rw [<-r.length];exact z,?_⟩)
 have hf:H1 s1.heap.objs.size=none:=I1.bh.fresh (Nat.le_refl _)
 refine ⟨.ref s1.heap.objs.size,upd H1 s1.heap.objs.size (.lst xs),I1.laid (t':=s1.toks) (fun b u e=>Heap.get?_push_of_some _ e) (Nat.le_refl _) ?_,rfl,q _ hf⟩
 exact ⟨z,us,0,r,Heap.get?_push_size _ rfl⟩
end
abbrev Sp:=List V->Hp->VK->XK->Prop
abbrev Br:=List Env->Hp->Shared->XK->Value->Shared->Prop
structure mB (P:Program) (w:World) (K:PySem.W.Frag) (mg:Str->Option Value) (base:Heap) (A:Around) (outer:List Env) (s:Shared) (H:Hp):Prop where
 frames:A.frames=some outer
 mod:Mod K mg base
 bs:∀b o,base.get? b=some o->s.heap.get? b=some o/\H b=none
 DR:base.objs.size<=s.heap.objs.size
 kx:s.heap.FunFrames base outer
 En:∀b∈kO outer,H b=none
 bh:fA P w H s.heap
 bare:AllBare s.gens
def CE (outer:List Env) (P:Program) (w:World) (H:Hp) (s:Shared) (Q:VK) (u:Value) (s':Shared):Prop:=
 ∃v H',s'.os=s.os/\AllBare s'.gens/\Un (kO outer) [] H H' s.heap s'.heap/\fA P w H' s'.heap/\RelV v u/\Q v H'
def CR (CX:Br) (outer:List Env) (P:Program) (w:World) (H:Hp) (s:Shared) (Q:VK) (E:XK) (r:Result) (s':Shared):Prop:=
 match r with
 | .ok (.ret u)=>CE outer P w H s Q u s'
 | .ok _=>False
 | .error e=>CX outer H s E e s'
structure bO (P:Program) (w:World) (K:PySem.W.Frag) (mg:Str->Option Value) (base:Heap) (CX:Br) (k:Nat) (f:Addr) (fd:FuncData) (ps:List Str) (sp:Sp):Prop where
 len:∀vs H Q E,sp vs H Q E->vs.length=ps.length
 run:∀(A:Around) (outer:List Env) (s:Shared) (H:Hp) (args:Args) (us:List Value) (vs:List V) (Q:VK) (E:XK),bW k A->mB P w K mg base A outer s H->BindsTo s fd args (ps.zip us)->Vals vs us->sp vs H Q E->
  codeAny (model P w) A (.call (.ref f) args) (CR CX outer P w H s Q E) s
theorem mB.make {P:Program} {w:World} {K:PySem.W.Frag} {mg:Str->Option Value} {base:Heap} {A:Around} {outer:List Env} {s:Shared} {H:Hp} (e:mB P w K mg base A outer s H) (C:Addr) (us:List Value) (kw:List (Str×Value)) :
  mB P w K mg base (A.under (.builtin "type.__call__" ⟨.ref C::us,kw⟩)) outer s H:=⟨by first | exact e.frames | (simpa [Around.under,Code.envs,Code.isFrame,pushEnvs] using e.frames),e.mod,e.bs,e.DR,e.kx,e.En,e.bh,e.bare⟩
theorem mB.in1 {P:Program} {w:World} {K:PySem.W.Frag} {mg:Str->Option Value} {base:Heap} {A:Around} {outer:List Env} {s:Shared} {H:Hp} (e:mB P w K mg base A outer s H) :
  mB P w K mg base A.in1 outer s H:=⟨e.frames,e.mod,e.bs,e.DR,e.kx,e.En,e.bh,e.bare⟩
section
variable {X:Cx} {pins:List (Addr×Obj)} {σ:St} {H:Hp} {s s':Shared}
theorem Inv.Dv (I:Inv X pins σ H s):mB X.prog X.w X.K X.mg X.base X.A X.stack s H:=
 ⟨I.ok.frames,I.ok.mod,I.bs,Nat.le_trans I.ok.DR I.sz,I.stack,I.ug,I.bh,I.bare⟩
theorem Inv.after {Q:VK} {u:Value} (I:Inv X pins σ H s) (h:CE X.stack X.prog X.w H s Q u s'):EP X pins σ Q u s':=by
 obtain ⟨v,H',os,bare,un,bh,r,q⟩:=h
 obtain ⟨hh,g,d,t,Um⟩:=s'
 obtain rfl:Um=s.os:=os
 exact ⟨v,H',I.call (h':=hh) (g':=g) (d':=d) (t':=t) (ch:=[]) un bh bare (fun b z=>absurd z (by simp)),r,q⟩
end
def vN (sp:Sp) (oi:List V) (E:XK) (t:TA):TE:=fun σ H Q=>t σ H fun vs H1=>sp (vs++oi) H1 Q E
def zu (C:Addr) (m:Str) (sp:Sp) (oi:List V) (E:XK) (ta:TE) (t:TA):TE:=fun σ H Q=>ta σ H fun x H1=>∃a dx fs,x=.ref a/\H1 a=some (.ins C dx fs)/\fs.lookup m=none/\
 t σ H1 fun vs H2=>sp (x::(vs++oi)) H2 Q E
def zA (C:Addr) (sp:Sp) (oi:List V) (E:XK) (t:TA):TE:=fun σ H Q=>t σ H fun vs H1=>∀x dx,H1 x=none->H1 dx=none->dx≠x->
 sp (.ref x::(vs++oi)) (upd (upd H1 dx (.own x)) x (.ins C dx [])) (fun v H2=>v=.non/\Q (.ref x) H2) E
def Binds (K:PySem.W.Frag) (fd:FuncData) (ps:List Str) (ds:List Value):Prop:=
 ∀(s:Shared) (us:List Value),K.In s.heap->(us++ds).length=ps.length->BindsTo s fd ⟨us,[]⟩ (ps.zip (us++ds))
theorem Binds.all {K:PySem.W.Frag} {fd:FuncData} {ps:List Str} (h:∀us:List Value,us.length=ps.length->bindArgs fd ⟨us,[]⟩=pure (ps.zip us)):Binds K fd ps []:=fun s us _ hl=>by
 rw [List.append_nil] at hl ⊢
 exact .of_eq (h us hl)
def Passes (CX:Br) (X:Cx) (E:XK):Prop:=∀(pins:List (Addr×Obj)) (σ:St) (H:Hp) (s:Shared) (e:Value) (s':Shared),Inv X pins σ H s->CX X.stack H s E e s'->X.xe e s'
section
variable {X:Cx} {CX:Br} {k:Nat} {f C:Addr} {fd:FuncData} {ps:List Str} {sp:Sp} {oi:List V} {ds:List Value} {E:XK} {x m:Str} {p pos apos:Pos} {e o:Expr} {es:List Expr} {ta:TE} {t:TA}
theorem Ge {pins:List (Addr×Obj)} {σ:St} {H:Hp} {s:Shared} {Q:VK} {us:List Value} {vs:List V} (F:bO X.prog X.w X.K X.mg X.base CX k f fd ps sp) (hr:bW k X.A) (hb:Binds X.K fd ps ds) (hd:Vals oi ds) (hx:Passes CX X E)
  (I:Inv X pins σ H s) (r:Vals vs us) (h:sp (vs++oi) H Q E):wpAny (model X.prog X.w) X.A (call (.ref f) us) (EP X pins σ Q) X.xe s:=by
 have r2:Vals (vs++oi) (us++ds):=r.append hd
 have hl:(us++ds).length=ps.length:=by rw [<-r2.length];exact F.len _ _ _ _ h
 refine wpAny_call (codeAny_mono (F.run X.A X.stack s H ⟨us,[]⟩ (us++ds) (vs++oi) Q E hr I.Dv (hb s us I.jr hl) r2 h) fun r s' hq=>?_)
 cases r with
 | error e=>exact hx pins σ H s e s' I hq
 | ok fl=>
  cases fl with
  | ret u=>exact I.after hq
  | next=>exact False.elim hq
  | brk=>exact False.elim hq
  | cont=>exact False.elim hq
theorem pA (F:bO X.prog X.w X.K X.mg X.base CX k f fd ps sp) (hr:bW k X.A) (hg:Gl X x) (hm:X.mg x=some (.ref f)) (hk:PySem.W.keepIn X.K (.ref f)=true) (hb:Binds X.K fd ps ds) (hd:Vals oi ds) (hx:Passes CX X E)
  (ha:PA X (e::es) t) (n5:(x == ("__debug__" : Str))=false:=by decide) (he:starEach (e::es) X.env=(false,eval e X.env)::starEach es X.env:=by rfl) (iw:(backTo pos (starEach es X.env)).any (·.1)=false:=by rfl) :
  PE X (.Call (.Name x p) (e::es) [] pos) (vN sp oi E t):=by
 intro pins s σ H Q I h
 refine wpAny_Call_Name_kw (kg I hg hm ?_ n5)
 refine PySem.W.callWith_K (h₀:=X.base) I.ok.mod.QX hk (cy (ha pos pins s σ H _ I h) fun us s1 ⟨vs,H1,I1,r,q⟩=>⟨I1.jr,?_⟩) he iw
 exact Ge F hr hb hd hx I1 r q
theorem Lg {pl:Sem Bool} (he:PE X o ta) (c:Cls X.K C) (hm:Meth X.K C m f) (F:bO X.prog X.w X.K X.mg X.base CX k f fd ps sp) (hr:bW k X.A) (hb:Binds X.K fd ps ds) (hd:Vals oi ds) (hx:Passes CX X E) (ha:PA X (e::es) t)
  (Ij:starEach (e::es) X.env=(false,eval e X.env)::starEach es X.env:=by rfl) (iw:(backTo pos (starEach es X.env)).any (·.1)=false:=by rfl)
  (ht:eval (.Call (.Attribute o m apos) (e::es) [] pos) X.env=(do
   let ov <-eval o X.env
   standAt apos.atName
   let (f,first) <-holding [ov] (getMethod ov m pl)
   callWith pos f first (backTo pos (starEach (e::es) X.env)) (backToKw pos (keywordEach [] X.env))):=by rfl) :
  PE X (.Call (.Attribute o m apos) (e::es) [] pos) (zu C m sp oi E ta t):=by
 intro pins s σ H Q I h
 refine PySem.W.methodCall_KW (pl:=pl) (cy (he pins s σ H _ I h) fun u s1 ⟨x,H1,I1,rx,a,dx,fs,ex,ea,l,q⟩=>?_) ht
 subst ex
 obtain rfl:u=Value.ref a:=rx
 refine qt I1 ea c hm l ?_
 refine PySem.W.callWith_K (first:=[.ref a]) (h₀:=X.base) I.ok.mod.QX hm.kp (cy (ha pos pins s1 σ H1 _ I1 q) fun us s2 ⟨vs,H2,I2,r,q2⟩=>⟨I2.jr,?_⟩) Ij iw
 exact Ge (us:=.ref a::us) (vs:=.ref a::vs) F hr hb hd hx I2 (.cons rfl r) q2
structure Mk (K:PySem.W.Frag) (C f:Addr):Prop where
 makes:PySem.W.makesIn K C=true
 init:PySem.W.findIn K (.ref C) "__init__" = some (some (.ref f))
 fn:PySem.W.isFn K (.ref f)=true
 kp:PySem.W.keepIn K (.ref C)=true
theorem Gd {pins:List (Addr×Obj)} {σ:St} {H:Hp} {s:Shared} {Q:VK} {us:List Value} {vs:List V} (M:Mk X.K C f) (F:bO X.prog X.w X.K X.mg X.base CX k f fd ps sp) (hr:bW (k+1) X.A) (hb:Binds X.K fd ps ds) (hd:Vals oi ds)
  (hx:Passes CX X E) (I:Inv X pins σ H s) (r:Vals vs us)
  (h:∀x dx,H x=none->H dx=none->dx≠x->sp (.ref x::(vs++oi)) (upd (upd H dx (.own x)) x (.ins C dx [])) (fun v H2=>v=.non/\Q (.ref x) H2) E) :
  wpAny (model X.prog X.w) X.A (call (.ref C) us) (EP X pins σ Q) X.xe s:=by
 have hq:=h (s.heap.objs.size+1) s.heap.objs.size (I.bh.fresh (Nat.le_succ _)) (I.bh.fresh (Nat.le_refl _)) (Nat.ne_of_lt (Nat.lt_succ_self _))
 have I2:=Inv.made (C:=C) I
 have r2:Vals (V.ref (s.heap.objs.size+1)::(vs++oi)) (Value.ref (s.heap.objs.size+1)::(us++ds)):=.cons rfl (r.append hd)
 have hl:(Value.ref (s.heap.objs.size+1)::us++ds).length=ps.length:=by
  have e:=r2.length
  rw [F.len _ _ _ _ hq] at e
  exact e.symm
 refine wpAny_call (HD (f:=f) I.jr M.makes M.init (beq_iff_eq.mp M.fn) (codeAny_mono (F.run _ X.stack _ _ ⟨Value.ref (s.heap.objs.size+1)::us,[]⟩ (Value.ref (s.heap.objs.size+1)::(us++ds)) _ _ E (hr.make C us [])
  (I2.Dv.make C us []) (hb _ (Value.ref (s.heap.objs.size+1)::us) I2.jr hl) r2 hq) fun r s' Dj=>?_))
 cases r with
 | error e=>exact hx pins σ _ _ e s' I2 Dj
 | ok fl=>
  cases fl with
  | ret u=>
   obtain ⟨v,H',I3,rv,ev,q3⟩:=I2.after Dj
   subst ev
   exact ⟨rv,⟨V.ref (s.heap.objs.size+1),H',I3,rfl,q3⟩⟩
  | next=>exact False.elim Dj
  | brk=>exact False.elim Dj
  | cont=>exact False.elim Dj
theorem Lh (M:Mk X.K C f) (F:bO X.prog X.w X.K X.mg X.base CX k f fd ps sp) (hr:bW (k+1) X.A) (hg:Gl X x) (hm:X.mg x=some (.ref C)) (hb:Binds X.K fd ps ds) (hd:Vals oi ds) (hx:Passes CX X E)
  (ha:PA X (e::es) t) (n5:(x == ("__debug__" : Str))=false:=by decide) (he:starEach (e::es) X.env=(false,eval e X.env)::starEach es X.env:=by rfl) (iw:(backTo pos (starEach es X.env)).any (·.1)=false:=by rfl) :
  PE X (.Call (.Name x p) (e::es) [] pos) (zA C sp oi E t):=by
 intro pins s σ H Q I h
 refine wpAny_Call_Name_kw (kg I hg hm ?_ n5)
 refine PySem.W.callWith_K (h₀:=X.base) I.ok.mod.QX M.kp (cy (ha pos pins s σ H _ I h) fun us s1 ⟨vs,H1,I1,r,q⟩=>⟨I1.jr,?_⟩) he iw
 exact Gd M F hr hb hd hx I1 r q
end
def PK (X:Cx) (kws:List Keyword) (t:TA):Prop:=
 ∀(pos:Pos) (pins:List (Addr×Obj)) (s:Shared) (σ:St) (H:Hp) (Q:List V->Hp->Prop),Inv X pins σ H s->t σ H Q->wpAny (model X.prog X.w) X.A (evalAll ((backToKw pos (keywordEach kws X.env)).map (·.2))) (AP X pins σ Q) X.xe s
section
variable {X:Cx} {CX:Br} {k:Nat} {f C:Addr} {fd:FuncData} {ps ks:List Str} {sp:Sp} {E:XK} {x m:Str} {p pos apos kpos:Pos} {e o:Expr} {es:List Expr} {kws:List Keyword} {te ta:TE} {t tk:TA} {nm:Option Str}
theorem Qm:PK X [] BL:=fun _ _ _ _ H Q I h=>wpAny_evalAll_nil ⟨[],H,I,.nil,h⟩
theorem Ld (ha:PE X e te) (hr:PK X kws t):PK X (⟨nm,e,kpos⟩::kws) (rX te t):=by
 intro pos pins s σ H Q I h
 show wpAny _ _ (evalAll ((do let v <-eval e X.env;standAt pos;pure v)::(backToKw pos (keywordEach kws X.env)).map (·.2))) _ _ s
 refine wpAny_evalAll_cons (wpAny_bind (cy (ha pins s σ H _ I h) fun u s1 ⟨x,H1,I1,r1,q1⟩=>wpAny_bind (wpAny_standAt (wpAny_pure ?_))))
 exact cy (hr pos pins s1 σ H1 _ I1 q1) fun us s2 ⟨xs,H2,I2,r2,q2⟩=>⟨x::xs,H2,I2,.cons r1 r2,q2⟩
variable {g:List Value->List Value->List Value} {gV:List V->List V->List V}
end
structure aT (N P:List Str) (sc:Scope):Prop where
 kind:sc.kind=.function
 co:sc.isCoroutine=false
 gen:sc.isGenerator=false
 nd:N.Nodup
 pre:N.take P.length=P
 par:∀x∈P,sc.names.lookup x=some .local\/sc.names.lookup x=some .cell
 QD:∀y∈sc.names,y.2≠.free
theorem tQ {kindOf:Str->Option NameKind} {x:Str}:∀{binds:List (Str×Value)} {m:Str->Option Value},(∀v,(x,v)∉binds)->bindL kindOf binds m x=m x
 | [],_,_=>rfl
 | (n,v)::r,m,h=>by
  unfold bindL
  rw [tQ fun w hw=>h w (List.mem_cons_of_mem _ hw)]
  split
  ·have:x≠n:=by rintro rfl;exact h v List.mem_cons_self
   simp [this]
  ·rfl
theorem tS {kindOf:Str->Option NameKind} {x:Str}:∀{binds:List (Str×Value)} {m:Str->Option Value},(∀v,(x,v)∉binds)->bindC kindOf binds m x=m x
 | [],_,_=>rfl
 | (n,v)::r,m,h=>by
  unfold bindC
  rw [tS fun w hw=>h w (List.mem_cons_of_mem _ hw)]
  split
  ·rfl
  ·have:x≠n:=by rintro rfl;exact h v List.mem_cons_self
   simp [this]
theorem tR {kindOf:Str->Option NameKind} {x:Str} {v:Value}:∀{P:List Str} {vs:List Value} {i:Nat} {m:Str->Option Value},P.Nodup->P[i]? = some x->vs[i]? = some v->kindOf x=some .local->
  bindL kindOf (P.zip vs) m x=some v
 | [],_,_,_,_,h,_,_=>by simp at h
 | _::_,[],_,_,_,_,h,_=>by simp at h
 | p::P,w::vs,0,m,nd,h1,h2,hk=>by
  simp at h1 h2;subst h1;subst h2
  show bindL kindOf ((p,w)::P.zip vs) m p=_
  unfold bindL
  rw [tQ fun v hv=>(List.nodup_cons.mp nd).1 (List.of_mem_zip hv).1,if_pos hk]
  simp
 | p::P,w::vs,i+1,m,nd,h1,h2,hk=>by
  show bindL kindOf ((p,w)::P.zip vs) m x=_
  unfold bindL
  exact tR (i:=i) (List.nodup_cons.mp nd).2 (by simpa using h1) (by simpa using h2) hk
theorem tU {kindOf:Str->Option NameKind} {x:Str} {v:Value}:∀{P:List Str} {vs:List Value} {i:Nat} {m:Str->Option Value},P.Nodup->P[i]? = some x->vs[i]? = some v->kindOf x≠some .local->
  bindC kindOf (P.zip vs) m x=some v
 | [],_,_,_,_,h,_,_=>by simp at h
 | _::_,[],_,_,_,_,h,_=>by simp at h
 | p::P,w::vs,0,m,nd,h1,h2,hk=>by
  simp at h1 h2;subst h1;subst h2
  show bindC kindOf ((p,w)::P.zip vs) m p=_
  unfold bindC
  rw [tS fun v hv=>(List.nodup_cons.mp nd).1 (List.of_mem_zip hv).1,if_neg hk]
  simp
 | p::P,w::vs,i+1,m,nd,h1,h2,hk=>by
  show bindC kindOf ((p,w)::P.zip vs) m x=_
  unfold bindC
  exact tU (i:=i) (List.nodup_cons.mp nd).2 (by simpa using h1) (by simpa using h2) hk
def start (N:List Str) (vs:List V):St:=vs.map some++List.replicate (N.length - vs.length) none
def eJ (CX:Br) (P:Program) (w:World) (K:PySem.W.Frag) (mg:Str->Option Value) (base:Heap) (N:List Str) (qual:Str) (scope:Scope) (f:Addr) (cd:Value) (A:Around) (outer:List Env) (s:Shared) (H:Hp) (E:XK):Cx where
 prog:=P
 w:=w
 K:=K
 mg:=mg
 base:=base
 A:=A.deeper (envOfC qual scope s.heap.objs.size f cd)
 N:=N
 s₀:=s
 H₀:=H
 env:=envOfC qual scope s.heap.objs.size f cd
 outer:=outer
 stack:=envOfC qual scope s.heap.objs.size f cd::outer
 ex:=[]
 calm:=true
 fn:=fun _=>true
 pn:=[]
 xe:=fun e s'=>wpAny (model P w) (A.deeper (envOfC qual scope s.heap.objs.size f cd)) (leaving (envOfC qual scope s.heap.objs.size f cd) e) (fun _ T7=>CX outer H s E e T7) (fun e' T7=>CX outer H s E e' T7) s'
theorem xm {sc:Scope} {n:Nat} {x:Str} (h:sc.names.lookup x=some .cell):∃c,(cellsFrom n sc.names []).lookup x=some c:=by
 have q:=PySem.W.cellsFrom_some sc.names n [] (.inl h)
 exact Option.isSome_iff_exists.mp q
theorem Dh {CX:Br} {P:Program} {w:World} {K:PySem.W.Frag} {mg:Str->Option Value} {base:Heap} {N ps:List Str} {qual:Str} {scope:Scope} {f:Addr} {cd:Value} {A:Around} {outer:List Env} {s s1:Shared} {H:Hp} {E:XK} {us:List Value} {vs:List V}
  (S:aT N ps scope) (hd:A.handled=none) (e0:mB P w K mg base A outer s H) (hl:vs.length=ps.length) (r:Vals vs us)
  (x:InCallC s s.heap.objs.size (bindL (envOfC qual scope s.heap.objs.size f cd).kindOf (ps.zip us) fun _=>none) (cellsFrom (s.heap.objs.size+1) scope.names []) (bindC (envOfC qual scope s.heap.objs.size f cd).kindOf (ps.zip us) fun _=>none) s1) :
  Inv (eJ CX P w K mg base N qual scope f cd A outer s H E) [] (start N vs) H s1:=by
 have iw:ps.length<=N.length:=by have:=congrArg List.length S.pre;rw [List.length_take] at this;lia
 obtain ⟨h1,tk,rfl,hk⟩:=x.done
 have JX:∀b:Addr,b∉(eJ CX P w K mg base N qual scope f cd A outer s H E).ex:=fun b z=>absurd (show b∈([]:List Addr) from z) (by simp)
 refine ⟨⟨e0.mod,S.kind,rfl,rfl,Nat.le_refl _,fun y z c h1 h2=>?_,fun y hy=>?_,fun y c _ h=>?_,fun _=>hd,Around.frames_deeper e0.frames,.inr ⟨rfl,rfl⟩,fun b z=>absurd z (JX b),e0.bs,e0.DR,fun b _ _=>JX b,fun b z=>absurd z (JX b),e0.kx,e0.En⟩,
  rfl,e0.bare,Un.kept hk,⟨_,x.toInCall.ns,fun i y v h1 h2 h3=>?_⟩,fun y c h=>⟨_,x.cell y c h⟩,e0.bh.fresh (Nat.le_refl _),fun y c h=>?_,fun p hp=>absurd (show p∈([]:List (Addr×Obj)) from hp) (by simp),e0.bh.kept hk,?_⟩
 ·exact name_of_addr x.apart (PySem.mem_of_lookup h1) (PySem.mem_of_lookup h2)
 ·have hy:scope.names.lookup y=some .cell\/scope.names.lookup y=some .free:=hy
  rcases hy with hy | hy
  ·exact xm hy
  ·exact absurd rfl (S.QD _ (PySem.mem_of_lookup hy))
 ·exact Nat.le_of_lt (x.above y c (PySem.mem_of_lookup h))
 ·have hi:i < vs.length:=by
   unfold start at h2
   by_cases hi:i < vs.length
   ·exact hi
   ·rw [List.getElem?_append_right (by simpa using hi)] at h2
    rw [List.getElem?_replicate] at h2
    split at h2 <;> cases h2
  have ha:vs[i]? = some v:=by
   unfold start at h2
   rw [List.getElem?_append_left (by simpa using hi),List.getElem?_map] at h2
   cases e:vs[i]? with
   | none=>rw [e] at h2;cases h2
   | some a=>rw [e] at h2;cases h2;rfl
  obtain ⟨u,hu,rv⟩:=r.get ha
  have hp:ps[i]? = some y:=by
   rw [<-S.pre,List.getElem?_take_of_lt (by lia)];exact h1
  have W7:ps.Nodup:=by rw [<-S.pre];exact S.nd.sublist (List.take_sublist _ _)
  refine ⟨u,rv,?_⟩
  rcases S.par y (List.mem_of_getElem? hp) with k | k
  ·exact .inl ⟨k,tR W7 hp hu k⟩
  ·obtain ⟨c,e⟩:=xm (n:=s.heap.objs.size+1) k
   refine .inr ⟨.inl k,c,e,?_⟩
   have q:=x.cell y c e
   rw [tU W7 hp hu (by show scope.names.lookup y≠_;rw [k];decide)] at q
   exact q
 ·exact e0.bh.fresh (Nat.le_of_lt (x.above y c (PySem.mem_of_lookup h)))
 ·unfold start
  show _=N.length
  rw [List.length_append,List.length_map,List.length_replicate]
  lia
theorem Jg {CX:Br} {P:Program} {w:World} {K:PySem.W.Frag} {mg:Str->Option Value} {base:Heap} {k:Nat} {f:Addr} {name qual:Str} {params:Arguments} {body:List Stmt} {scope:Scope} {dV kV doc pm cC ct oc:Value} {an od:Option Addr}
  {z4:Array (Option Value)} {N ps:List Str} {sp:Sp} (lk:K.lookup f=some ⟨oc,od,.func (PySem.W.fnOf name qual params body scope dV kV doc pm an cC ct),z4⟩) (rA:PySem.W.codeIn K cC qual=true) (S:aT N ps scope)
  (len:∀vs H Q E,sp vs H Q E->vs.length=ps.length)
  (dN:∀(A:Around) (outer:List Env) (s:Shared) (H:Hp) (vs:List V) (Q:VK) (E:XK),bW k (A.deeper (envOfC qual scope s.heap.objs.size f cC))->sp vs H Q E->
   ∃t,vr (eJ CX P w K mg base N qual scope f cC A outer s H E) body t/\t { nx:=fun _ H'=>Q .non H',rt:=Q } (start N vs) H) :
  bO P w K mg base CX (k+1) f (PySem.W.fnOf name qual params body scope dV kV doc pm an cC ct) ps sp:=by
 refine ⟨len,fun A outer s H args us vs Q E hr e0 hb r xF=>?_⟩
 have hl:=len _ _ _ _ xF
 have KX:K.In s.heap:=e0.mod.QX.keeps fun b o e=>(e0.bs b o e).1
 have lim:s.heap.NoLimit:=e0.mod.nolimit.keeps fun b o e=>(e0.bs b o e).1
 have Vj:∀y∈ps.zip us,scope.names.lookup y.1=some .local\/(scope.names.lookup y.1=some .cell/\((cellsFrom (s.heap.objs.size+1) scope.names []).lookup y.1).isSome=true):=fun ⟨n,v⟩ hy=>by
  rcases S.par n (List.of_mem_zip hy).1 with q | q
  ·exact .inl q
  ·exact .inr ⟨q,PySem.W.cellsFrom_some _ _ _ (.inl q)⟩
 refine codeAny_call_function hr.depth (KX _ _ lk) rfl S.co S.gen rfl (PySem.W.codeRec_of KX rA) (hb _ _ _ _ ?_)
 refine wpAny_newFunctionEnv_cells S.kind Vj fun env he s1 x=>?_
 subst he
 refine ⟨lim.keeps x.toInCall.keep,codeAny_func ?_⟩
 obtain ⟨t,ht,hq⟩:=dN A outer s H vs Q E (hr.deeper _) xF
 have I:Inv (eJ CX P w K mg base N qual scope f cC A outer s H E) [] (start N vs) H s1:=Dh S hr.hd e0 hl r x
 refine wpAny_mono (ht [] s1 (start N vs) H _ I hq) (fun fl s' hs=>?_) fun e s' hs=>hs
 have fin:∀{σ':St} {H':Hp} {v:V} {u:Value},Inv (eJ CX P w K mg base N qual scope f cC A outer s H E) [] σ' H' s'->RelV v u->Q v H'->CE outer P w H s Q u s':=
  fun {σ' H' v u} J rv q=>⟨v,H',J.os,J.bare,J.base,J.bh,rv,q⟩
 cases fl with
 | ret u=>
  obtain ⟨v,σ',H',J,rv,q⟩:=hs
  exact fin J rv q
 | next=>
  obtain ⟨σ',H',J,q⟩:=hs
  exact fin (v:=V.non) (u:=Value.none) J rfl q
 | brk=>
  obtain ⟨_,_,_,q⟩:=hs
  exact False.elim q
 | cont=>
  obtain ⟨_,_,_,q⟩:=hs
  exact False.elim q
end L2
namespace L2
open PySem PySem.Spec PyProof.Rows
section
variable {X:Cx} {x:Str} {p pos:Pos} {e:Expr} {es:List Expr} {t:TA} {id T:String} {r:List V->Hp->VK->Prop}
def Py (r:List V->Hp->VK->Prop) (t:TA):TE:=fun σ H Q=>t σ H fun vs H1=>r vs H1 Q
theorem jA (hc:dA X (.builtin id) r) (hg:Gl X x) (hm:X.mg x=none) (hv:bootBuiltins x=some (.builtin id)) (ha:PA X (e::es) t) (hn:x≠"__name__":=by decide) (n5:(x == ("__debug__" : Str))=false:=by decide)
  (he:starEach (e::es) X.env=(false,eval e X.env)::starEach es X.env:=by rfl) (iw:(backTo pos (starEach es X.env)).any (·.1)=false:=by rfl):PE X (.Call (.Name x p) (e::es) [] pos) (Py r t):=by
 intro pins s σ H Q I h
 refine wpAny_Call_Name_kw (nW I hg hm hv ?_ hn n5)
 exact PyProof.Rows.callWith_builtin1 (cy (ha pos pins s σ H _ I h) fun us s1 ⟨vs,H1,I1,r1,q1⟩=>hc pins s1 σ H1 vs us Q I1 r1 q1) he iw
theorem il (hc:dA X (.type T) r) (hg:Gl X x) (hm:X.mg x=none) (hv:bootBuiltins x=some (.type T)) (ha:PA X (e::es) t) (hn:x≠"__name__":=by decide) (n5:(x == ("__debug__" : Str))=false:=by decide)
  (he:starEach (e::es) X.env=(false,eval e X.env)::starEach es X.env:=by rfl) (iw:(backTo pos (starEach es X.env)).any (·.1)=false:=by rfl):PE X (.Call (.Name x p) (e::es) [] pos) (Py r t):=by
 intro pins s σ H Q I h
 refine wpAny_Call_Name_kw (nW I hg hm hv ?_ hn n5)
 exact PyProof.Rows.callWith_type1 (cy (ha pos pins s σ H _ I h) fun us s1 ⟨vs,H1,I1,r1,q1⟩=>hc pins s1 σ H1 vs us Q I1 r1 q1) he iw
end
end L2
namespace HT
open PySem PyProof.Rows
def lexLt:List Int->List Int->Bool
 | [],[]=>false
 | [],_::_=>true
 | _::_,[]=>false
 | x::xs,y::ys=>if x=y then lexLt xs ys else decide (x < y)
theorem yA (x y:Int) (xs ys:List Int):lexLt (x::xs) (y::ys)=if x=y then lexLt xs ys else decide (x < y):=rfl
theorem rh:lexLt [] []=false:=rfl
theorem qe (y:Int) (ys:List Int):lexLt [] (y::ys)=true:=rfl
theorem qf (x:Int) (xs:List Int):lexLt (x::xs) []=false:=rfl
theorem Jj (A:Around) (s:Shared) (a:Int) (t:Tok) (c:Int) (u:Tok):∃e,SeqAt.EqAt A s (.int a t) (.int c u) e/\(e=true↔a=c):=
 ⟨(a == c),SeqAt.EqAt.int_int a t c u,by simp⟩
theorem Gh (A:Around) (s:Shared) (a:Int) (t:Tok) (c:Int) (u:Tok) (prog:Program) (w:World) (E:Value->Shared->Prop) (Q:Value->Shared->Prop) (h:Q (.bool (decide (a < c))) s) :
  wpAny (model prog w) A (richCompare .Lt (.int a t) (.int c u)) Q E s:=
 (PyProof.Rows.lt_int h:wpAny (model prog w) A (compareOp .Lt (.int a t) (.int c u)) Q E s)
section
open PySem.SeqAt
open PySem.AutoSeq1 (wpAny_loadPart')
open PySem.MeetsSeq PySem.MeetsSeq2 PySem.MeetsSeq3
theorem qT (l b:Addr) (items g9:Array Value) (n n2:Nat) (dd Pa:Option Addr) (sl BW:Array (Option Value)) (ns ms:List Int) (hi:IntsAre items.toList ns) (hj:IntsAre g9.toList ms) :
  Meets (Builtin.«tuple.__lt__» ⟨[.ref l,.ref b],[]⟩)
   (fun _ R s=>s.heap.get? l=some { cls:=.type "tuple",dict:=dd,data:=.seq items n,slots:=sl }/\s.heap.get? b=some { cls:=.type "tuple",dict:=Pa,data:=.seq g9 n2,slots:=BW }/\
    R (.ok (.ret (.bool (lexLt ns ms)))) s):=
 .of_wp fun prog w A R s h=>by
  obtain ⟨hp,g,d,tk,os⟩:=s;obtain ⟨hl,hb,h⟩:=h
  have f2:=AutoSeq1.sub_tuple_tuple
  have z1:items.size=ns.length:=by rw [<-hi.length];simp
  have z2:g9.size=ms.length:=by rw [<-hj.length];simp
  wp_walk using wpAny_loadPart' hl,wpAny_loadPart' hb,wpAny_forIn_list _ (fun rest b s'=>b.1=none/\s'=⟨hp,g,d,tk,os⟩/\∃(vs ws:List Value) (Eh Sl:List Int),rest=vs.zip ws/\
   IntsAre vs Eh/\IntsAre ws Sl/\Eh.length+g9.size=Sl.length+items.size/\R (.ok (.ret (.bool (lexLt Eh Sl)))) ⟨hp,g,d,tk,os⟩) _
  case turn=>
   rintro ⟨y,x⟩ rest b s' ⟨Vv,rfl,vs,ws,Eh,Sl,hz,hvi,Xd,hlen,hR⟩
   cases hvi with
   | nil=>rw [List.zip_nil_left] at hz;cases hz
   | cons a t aAu=>
    cases Xd with
    | nil=>rw [List.zip_nil_right] at hz;cases hz
    | cons c u aAs=>
     rw [List.zip_cons_cons] at hz
     injection hz with hyx sZ
     injection hyx with hy hx
     subst hy hx
     rw [yA] at hR
     simp only [List.length_cons] at hlen
     obtain ⟨e,he,Vl⟩:=Jj A.in1 ⟨hp,g,d,tk,os⟩ a t c u
     refine wpAny_bind (he prog w _ _ ?_)
     cases e with
     | true=>
      rw [if_pos (Vl.mp rfl)] at hR
      wp_walk
      exact ⟨rfl,rfl,_,_,_,_,sZ,aAu,aAs,by lia,hR⟩
     | false=>
      rw [if_neg (fun q=>absurd (Vl.mpr q) Bool.false_ne_true)] at hR
      have hri:=Gh A.in1 ⟨hp,g,d,tk,os⟩ a t c u prog w
      wp_walk using hri
      exact ⟨_,rfl,by simpa using hR⟩
  case fin=>
   rintro ⟨b1,b2⟩ s' ⟨Vv,rfl,vs,ws,Eh,Sl,hz,hvi,Xd,hlen,hR⟩
   simp only at Vv
   subst Vv
   have hv:lexLt Eh Sl=decide (items.size < g9.size):=by
    cases hvi with
    | nil=>
     cases Xd with
     | nil=>
      simp only [List.length_nil] at hlen
      rw [rh]
      exact (decide_eq_false (by lia)).symm
     | cons c u hw=>
      simp only [List.length_nil,List.length_cons] at hlen
      rw [qe]
      exact (decide_eq_true (by lia)).symm
    | cons a t hv=>
     cases Xd with
     | nil=>
      simp only [List.length_nil,List.length_cons] at hlen
      rw [qf]
      exact (decide_eq_false (by lia)).symm
     | cons c u hw=>
      rw [List.zip_cons_cons] at hz
      cases hz
   rw [hv] at hR
   wp_walk
   exact ⟨_,rfl,by simpa [Builtin.Tuple.tupleCompareSizes] using hR⟩
  case h=>
   exact ⟨rfl,rfl,items.toList,g9.toList,ns,ms,rfl,hi,hj,by lia,h⟩
end
section
variable {prog:Program} {w:World} {A:Around} {E:Value->Shared->Prop} {s:Shared}
theorem yw {l b:Addr} {items g9:Array Value} {ns ms:List Int} {Q:Value->Shared->Prop} (hl:IsTup s.heap l items) (hb:IsTup s.heap b g9) (hi:IntsAre items.toList ns) (hj:IntsAre g9.toList ms)
  (hu:A.units < cLine) (h:Q (.bool (lexLt ns ms)) s):wpAny (model prog w) A (compareOp .Lt (.ref l) (.ref b)) Q E s:=by
 obtain ⟨⟨cls,dd,data,sl⟩,ho,hc,n,hd⟩:=id hl
 obtain ⟨⟨V9,Pa,data2,BW⟩,J1,Oy,n2,hd2⟩:=id hb
 simp only at hc hd Oy hd2
 subst hc hd Oy hd2
 exact richCompare_meets_room (op:=.Lt) ⟨_,ho,rfl⟩ ⟨_,J1,rfl⟩ PySem.F.slot_tuple_lt PySem.F.entry_tuple_lt (PySem.F.args_tuple_lt_2 _ _) (qT l b items g9 n n2 dd Pa sl BW ns ms hi hj)
  ⟨ho,J1,show Value.bool (lexLt ns ms)≠Value.notImplemented/\Q (.bool (lexLt ns ms)) s from ⟨(fun x=>nomatch x),h⟩⟩ hu
theorem Ni {t b:Addr} {vs ws:List Value} {Q:Value->Shared->Prop} (ht:IsTup s.heap t vs.toArray) (hb:IsTup s.heap b ws.toArray) (hv:vs≠[])
  (h1:ws=[]->Q (.ref t) s) (h2:ws≠[]->Q (.ref s.heap.objs.size) { s with heap:=s.heap.push { cls:=.type "tuple",data:=.seq (vs++ws).toArray } })
  (hsz:vs.length+ws.length<=sizeLine):wpAny (model prog w) A (binaryOp .Add (.ref t) (.ref b)) Q E s:=by
 obtain ⟨⟨cls,dd,data,sl⟩,ho,hc,n,hd⟩:=id ht
 obtain ⟨⟨V9,Pa,data2,BW⟩,J1,Oy,n2,hd2⟩:=id hb
 simp only at hc hd Oy hd2
 subst hc hd Oy hd2
 have e:vs.toArray++ws.toArray=(vs++ws).toArray:=by simp
 by_cases hw:ws=[]
 ·exact concat_meets ⟨_,ho,rfl⟩ ⟨_,J1,rfl⟩ noFill_tuple_add seq_tuple_add PySem.F.slot_tuple_add PySem.F.entry_tuple_add (PySem.F.args_tuple_add_2 _ _)
   (tuple_addW1 t b vs.toArray ws.toArray n n2 dd Pa sl BW (by simpa using hv) (by simp [hw])) ⟨ho,J1,h1 hw⟩
 ·refine concat_meets ⟨_,ho,rfl⟩ ⟨_,J1,rfl⟩ noFill_tuple_add seq_tuple_add PySem.F.slot_tuple_add PySem.F.entry_tuple_add (PySem.F.args_tuple_add_2 _ _)
   (tuple_addW2 t b vs.toArray ws.toArray n n2 dd Pa sl BW (by simpa using hv) (by simpa using hw) (by rw [List.size_toArray,List.size_toArray];exact hsz)) ⟨ho,J1,?_⟩
  rw [e]
  exact h2 hw
def cJ (n d:Nat):Option Int->Nat
 | none=>d
 | some v=>if v < 0 then (v+(n:Int)).toNat else min v.toNat n
theorem P5 (n d:Nat) (hd:d<=n) (o:Option Int):cJ n d o<=n:=by
 cases o with
 | none=>exact hd
 | some v=>
  show (if v < 0 then (v+(n:Int)).toNat else min v.toNat n)<=n
  by_cases hv:v < 0
  ·rw [if_pos hv];lia
  ·rw [if_neg hv];exact Nat.min_le_right _ _
theorem Bf (v:Int) (n d:Nat):(if v < 0 then max (v+(n:Int)) 0 else min v (n:Int))=((cJ n d (some v):Nat):Int):=by
 show (if v < 0 then max (v+(n:Int)) 0 else min v (n:Int))=(((if v < 0 then (v+(n:Int)).toNat else min v.toNat n):Nat):Int)
 by_cases hv:v < 0
 ·simp only [if_pos hv];lia
 ·simp only [if_neg hv];lia
theorem zc (lo hi:Option Int) (n:Nat):Builtin.Slice.sliceAdjust lo hi 1 (n:Int)=(((cJ n 0 lo:Nat):Int),((cJ n n hi:Nat):Int)):=by
 have h1:¬((1:Int) < 0):=by lia
 unfold Builtin.Slice.sliceAdjust
 simp only [h1,if_false]
 refine Prod.ext ?_ ?_
 ·cases lo with
  | none=>rfl
  | some v=>exact Bf v n 0
 ·cases hi with
  | none=>rfl
  | some v=>exact Bf v n n
theorem yb (i j:Nat):Builtin.Slice.slicePlaces (i:Int) (j:Int) 1=j - i:=by
 unfold Builtin.Slice.slicePlaces
 have h1:(1:Int) > 0:=by lia
 simp only [h1,if_true,Int.ediv_one]
 split <;> lia
theorem pW {v:Value} {o:Option Int} {Q:Option Int->Shared->Prop} (p:IsPart v o) (h:Q o s):wpAny (model prog w) A (Builtin.Slice.slicePartIndex v) Q E s:=by
 cases p with
 | none=>exact slicePart_none h
 | int i t=>exact slicePart_int h
theorem ig {sl:Addr} {vl vu:Value} {lo hi:Option Int} {n:Nat} {Q:Int×Int×Nat->Shared->Prop} (hs:s.heap.IsSliceOf sl vl vu .none) (pl:IsPart vl lo) (pu:IsPart vu hi)
  (h:Q (((cJ n 0 lo:Nat):Int),1,cJ n n hi - cJ n 0 lo) s):wpAny (model prog w) A (Builtin.Slice.sliceApplied (.ref sl) (pure (n:Int))) Q E s:=by
 obtain ⟨os,Rq,Xk,Vo⟩:=id hs
 unfold Builtin.Slice.sliceApplied Builtin.Slice.sliceFields
 refine wpAny_bind (wpAny_bind (wpAny_field Rq Vo (x:=vl) rfl (wpAny_bind (wpAny_field Rq Vo (x:=vu) rfl (wpAny_bind (wpAny_field Rq Vo (x:=.none) rfl (wpAny_pure ?_)))))))
 refine wpAny_bind (slicePart_none ?_)
 show wpAny _ _ (if ((1:Int) == 0)=true then _ else _) _ _ s
 rw [if_neg (by decide)]
 refine wpAny_bind (pW pl (wpAny_bind (pW pu (wpAny_bind (wpAny_pure ?_)))))
 show wpAny _ _ (match Builtin.Slice.sliceAdjust lo hi 1 (n:Int) with | (lo,hi)=>pure (lo,(1:Int),Builtin.Slice.slicePlaces lo hi 1)) _ _ s
 rw [zc lo hi n]
 show wpAny _ _ (pure (((cJ n 0 lo:Nat):Int),(1:Int),Builtin.Slice.slicePlaces ((cJ n 0 lo:Nat):Int) ((cJ n n hi:Nat):Int) 1)) _ _ s
 rw [yb]
 exact wpAny_pure h
theorem G4 (xs:Array Value) (i k:Nat):((List.range k).filterMap fun (m:Nat)=>xs[((i:Int)+(m:Int) * 1).toNat]?).toArray=((xs.toList.drop i).take k).toArray:=by
 have e:(fun (m:Nat)=>xs[((i:Int)+(m:Int) * 1).toNat]?)=fun m=>xs[i+m]?:=by
  funext m
  have:((i:Int)+(m:Int) * 1).toNat=i+m:=by lia
  rw [this]
 rw [e]
 have:=pick_run xs i k
 rw [List.filterMap_map] at this
 have e2:((fun x=>xs[x]?) ∘ fun x=>i+x)=fun m=>xs[i+m]?:=rfl
 rw [e2] at this
 rw [this]
theorem nj {t sl:Addr} {items:Array Value} {vl vu:Value} {lo hi:Option Int} {Q:Value->Shared->Prop} (ht:IsTup s.heap t items) (hs:s.heap.IsSliceOf sl vl vu .none) (pl:IsPart vl lo) (pu:IsPart vu hi)
  (hw:¬(cJ items.size 0 lo=0/\cJ items.size items.size hi=items.size))
  (h:Q (.ref s.heap.objs.size) { s with heap:=s.heap.push { cls:=.type "tuple",data:=.seq ((items.toList.drop (cJ items.size 0 lo)).take (cJ items.size items.size hi - cJ items.size 0 lo)).toArray } })
  (hsz:items.size<=sizeLine):wpAny (model prog w) A (getItem (.ref t) (.ref sl)) Q E s:=by
 have Af:sizeOk (.seq ((items.toList.drop (cJ items.size 0 lo)).take (cJ items.size items.size hi - cJ items.size 0 lo)).toArray):=by
  show ((items.toList.drop (cJ items.size 0 lo)).take (cJ items.size items.size hi - cJ items.size 0 lo)).toArray.size<=sizeLine
  rw [List.size_toArray,List.length_take,List.length_drop,Array.length_toList]
  lia
 have hj:cJ items.size items.size hi<=items.size:=P5 _ _ (Nat.le_refl _) hi
 obtain ⟨os,Rq,Xk,Vo⟩:=id hs
 have SN:s.TypeIs (.ref sl) "slice":=⟨os,Rq,Xk⟩
 unfold getItem
 try with_reducible refine wpAny_holding ?_
 first | refine wpAny_bind (wpAny_pure ?_) | skip
 refine wpAny_bind (wpAny_sequenceKey ht.typeIs (by decide) ?_)
 refine wpAny_bind (wpAny_callSpecial?_slot (name:=Str.ofString "__getitem__") ht.typeIs PyProof.Rows.slot_tuple_getitem
  (wpAny_call_entry PyProof.Rows.slot_tuple_getitem ht.typeIs entry_tuple_getitem ?_ (args_tuple_getitem _ _)))
 show wpAny _ _ (Builtin.Tuple.tupleItemsOf (.ref t) >>= _) _ _ s
 refine wpAny_bind (tupleItemsOf_ ht ?_)
 refine wpAny_bind (wpAny_typeOf SN ?_)
 rw [if_pos (by decide)]
 refine wpAny_bind (ig hs pl pu ?_)
 have wV:¬((((cJ items.size 0 lo:Nat):Int) == 0 && (1:Int) == 1 && (cJ items.size items.size hi - cJ items.size 0 lo) == items.size)=true):=by
  intro q
  rw [Bool.and_eq_true,Bool.and_eq_true] at q
  have q1:((cJ items.size 0 lo:Nat):Int)=0:=eq_of_beq q.1.1
  have q2:cJ items.size items.size hi - cJ items.size 0 lo=items.size:=eq_of_beq q.2
  exact hw ⟨by lia,by lia⟩
 show wpAny _ _ (if (((cJ items.size 0 lo:Nat):Int) == 0 && (1:Int) == 1 && (cJ items.size items.size hi - cJ items.size 0 lo) == items.size)=true then _ else _) _ _ s
 rw [if_neg wV,G4]
 first
  | exact wpAny_bind (m:=Builtin.Tuple.tupleExact _) (wpAny_newObj_type (wpAny_pure ⟨_,rfl,wpAny_pure h⟩) Af)
  | exact wpAny_bind (m:=Builtin.Tuple.tupleExact _) (wpAny_newObj_type (wpAny_bind (wpAny_pure (wpAny_pure ⟨_,rfl,wpAny_pure h⟩))) Af)
  | exact wpAny_bind (wpAny_bind (m:=Builtin.Tuple.tupleExact _) (wpAny_newObj_type (wpAny_pure (wpAny_pure ⟨_,rfl,wpAny_pure h⟩)) Af))
  | exact wpAny_bind (wpAny_bind (m:=Builtin.Tuple.tupleExact _) (wpAny_newObj_type (wpAny_pure ⟨_,rfl,wpAny_pure h⟩) Af))
end
end HT
namespace L2
open PySem PySem.Spec PyProof.Rows
abbrev TO:=St->Hp->(Option Int->Hp->Prop)->Prop
def PO (X:Cx) (e:Option Expr) (t:TO):Prop:=
 ∀(pins:List (Addr×Obj)) (s:Shared) (σ:St) (H:Hp) (Q:Option Int->Hp->Prop),Inv X pins σ H s->t σ H Q->
  wpAny (model X.prog X.w) X.A (evalPart e X.env) (fun u s'=>∃o H',Inv X pins σ H' s'/\IsPart u o/\Q o H') X.xe s
def mR:TO:=fun _ H Q=>Q none H
def vK (t:TE):TO:=fun σ H Q=>t σ H fun x H1=>∃i,x=.int i/\Q (some i) H1
theorem intsAre_of {ns:List Int}:∀{us:List Value},Vals (ns.map V.int) us->IntsAre us ns:=by
 induction ns with
 | nil=>intro us r;rw [List.map_nil] at r;cases r;exact .nil
 | cons n ns ih=>
  intro us r
  rw [List.map_cons] at r
  cases r with
  | cons r1 r2=>
   obtain ⟨t,e⟩:=r1
   subst e
   exact .cons n t (ih r2)
section
variable {X:Cx} {e:Expr} {te:TE} {lo hi:Option Expr} {tl th:TO} {pos p2:Pos}
theorem Lc:PO X none mR:=by
 intro pins s σ H Q I h
 rw [evalPart_none]
 exact wpAny_pure ⟨none,H,I,.none,h⟩
theorem Lb (h:PE X e te):PO X (some e) (vK te):=by
 intro pins s σ H Q I hw
 rw [evalPart_some]
 refine cy (h pins s σ H _ I hw) fun u s1 ⟨x,H1,I1,r1,q1⟩=>?_
 obtain ⟨i,rfl,q⟩:=q1
 obtain ⟨t,rfl⟩:=r1
 exact ⟨some i,H1,I1,.int i t,q⟩
def J5 (X:Cx) (r:V->Option Int->Option Int->Hp->VK->Prop):Prop:=
 ∀(pins:List (Addr×Obj)) (s:Shared) (σ:St) (H:Hp) (x:V) (v vl vu:Value) (lo hi:Option Int) (sl:Addr) (Q:VK),Inv X pins σ H s->RelV x v->s.heap.IsSliceOf sl vl vu .none->IsPart vl lo->IsPart vu hi->r x lo hi H Q->
  ∃T id,typeLookup (.type T) "__getitem__" = pure (some (.builtin id))/\s.TypeIs v T/\wpAny (model X.prog X.w) X.A (getItem v (.ref sl)) (EP X pins σ Q) X.xe s
def Tp (r:V->Option Int->Option Int->Hp->VK->Prop) (te:TE) (tl th:TO):TE:=fun σ H Q=>te σ H fun x H1=>tl σ H1 fun l H2=>th σ H2 fun u H3=>r x l u H3 Q
theorem G9 {r:V->Option Int->Option Int->Hp->VK->Prop} (hr:J5 X r) (he:PE X e te) (hl:PO X lo tl) (hu:PO X hi th):PE X (.Subscript e (.Slice lo hi none p2) pos) (Tp r te tl th):=by
 intro pins s σ H Q I h
 refine Subscript_ (cy (he pins s σ H _ I h) fun v s1 ⟨x,H1,I1,r1,q1⟩=>?_)
 refine wpAny_Slice (cy (hl pins s1 σ H1 _ I1 q1) fun vl s2 ⟨l,H2,I2,pl,q2⟩=>cy (hu pins s2 σ H2 _ I2 q2) fun vu s3 ⟨u,H3,I3,pu,q3⟩=>?_)
 rw [evalPart_none]
 refine wpAny_pure ?_
 have I4:Inv X pins σ H3 { s3 with heap:=s3.heap.push { cls:=.type "slice",data:=.fields #[vl,vu,.none] } }:=I3.kept (t':=s3.toks) fun b ob q=>Heap.get?_push_of_some _ q
 obtain ⟨T,id,hT,ht,hg⟩:=hr pins { s3 with heap:=s3.heap.push { cls:=.type "slice",data:=.fields #[vl,vu,.none] } } σ H3 x v vl vu l u s3.heap.objs.size Q I4 r1 (Heap.IsSliceOf.new ..) pl pu q3
 show wpAny (model X.prog X.w) X.A (subscriptTail e (.Slice lo hi none p2) v (.ref s3.heap.objs.size)) (EP X pins σ Q) X.xe { s3 with heap:=s3.heap.push { cls:=.type "slice",data:=.fields #[vl,vu,.none] } }
 exact tail_any (ops:=[.ref s3.heap.objs.size,v]) ht hT hg (by with_unfolding_all rfl)
def gE (xs:List V) (lo hi:Option Int):List V:=(xs.drop (HT.cJ xs.length 0 lo)).take (HT.cJ xs.length xs.length hi - HT.cJ xs.length 0 lo)
theorem oP (xs:List V) (lo hi:Option Int):(gE xs lo hi).length<=xs.length:=by
 unfold gE
 rw [List.length_take,List.length_drop]
 lia
def YQ (K:PySem.W.Frag):V->Option Int->Option Int->Hp->VK->Prop:=fun x lo hi H Q=>∃a xs,x=.ref a/\rE K H a xs/\
 ¬(HT.cJ xs.length 0 lo=0/\HT.cJ xs.length xs.length hi=xs.length)/\∀p,H p=none->Q (.ref p) (upd H p (.tup (gE xs lo hi)))
theorem P1:J5 X (YQ X.K):=by
 intro pins s σ H x v vl vu lo hi sl Q I rx hs pl pu h
 obtain ⟨a,xs,rfl,hx,hw,q⟩:=h
 cases rx
 obtain ⟨its,r,ht,hz⟩:=I.tuple hx
 have hlen:its.toArray.size=xs.length:=by rw [List.size_toArray];exact r.length.symm
 refine ⟨"tuple",_,PyProof.Rows.slot_tuple_getitem.lookup,ht.typeIs,?_⟩
 refine HT.nj ht hs pl pu (by rw [hlen];exact hw) ?_ (by rw [hlen];exact hz)
 rw [hlen]
 refine ⟨.ref s.heap.objs.size,_,I.laid (t':=s.toks) (o:=.tup (gE xs lo hi)) (fun b ob q=>Heap.get?_push_of_some _ q) (Nat.le_refl _) ?_,rfl,q _ (I.bh.fresh (Nat.le_refl _))⟩
 exact ⟨Nat.le_trans (oP xs lo hi) hz,_,(r.drop (HT.cJ xs.length 0 lo)).take (HT.cJ xs.length xs.length hi - HT.cJ xs.length 0 lo),IsTup.new _ _⟩
def T9 (K:PySem.W.Frag):R2:=fun x y H Q=>∃a b xs ys,x=.ref a/\y=.ref b/\rE K H a xs/\rE K H b ys/\xs≠[]/\xs.length+ys.length<=sizeLine/\
 (ys=[]->Q (.ref a) H)/\(ys≠[]->∀p,H p=none->Q (.ref p) (upd H p (.tup (xs++ys))))
theorem Vals.uR {xs:List V} {us:List Value} (r:Vals xs us):us=[]↔xs=[]:=by
 cases r with
 | nil=>simp
 | cons _ _=>simp
theorem Lp:kR X (binaryOp .Add) (T9 X.K):=by
 intro pins s σ H x y v u Q I rx ry h
 obtain ⟨a,b,xs,ys,rfl,rfl,ha,hb,hx,hz,q1,q2⟩:=h
 cases rx
 cases ry
 obtain ⟨its,r1,p1,_⟩:=I.tuple ha
 obtain ⟨wD,r2,p2,_⟩:=I.tuple hb
 refine HT.Ni p1 p2 (fun z=>hx (r1.uR.mp z)) (fun z=>⟨.ref a,H,I,rfl,q1 (r2.uR.mp z)⟩) (fun z=>?_) (by rw [<-r1.length,<-r2.length];exact hz)
 refine ⟨.ref s.heap.objs.size,_,I.laid (t':=s.toks) (o:=.tup (xs++ys)) (fun b ob q=>Heap.get?_push_of_some _ q) (Nat.le_refl _) ?_,rfl,q2 (fun w=>z (r2.uR.mpr w)) _ (I.bh.fresh (Nat.le_refl _))⟩
 exact ⟨by rw [List.length_append];exact hz,_,r1.append r2,IsTup.new _ _⟩
end
end L2
namespace L2
open PySem PySem.Spec PyProof.Rows
def De (n:Nat) (i:Int):Option Nat:=if 0<=i then (if i < n then some i.toNat else none) else if -(n:Int)<=i then some (i+n).toNat else none
def tV {α:Type} (xs:List α) (i:Int):Option α:=(De xs.length i).bind fun j=>xs[j]?
theorem Ab {n:Nat} {i:Int} {j:Nat} (h:De n i=some j):seqIndex? i n=some j/\j < n/\-(n:Int)<=i/\i < n:=by
 unfold De at h
 by_cases h0:0<=i
 ·rw [if_pos h0] at h
  by_cases h1:i < n
  ·rw [if_pos h1] at h
   have e:i.toNat=j:=Option.some.inj h
   exact ⟨by rw [seqIndex_of h0 h1,e],by lia,by lia,h1⟩
  ·rw [if_neg h1] at h;cases h
 ·rw [if_neg h0] at h
  by_cases h1 : -(n:Int)<=i
  ·rw [if_pos h1] at h
   have e:(i+n).toNat=j:=Option.some.inj h
   exact ⟨by rw [seqIndex_neg (by lia) h1,e],by lia,h1,by lia⟩
  ·rw [if_neg h1] at h;cases h
theorem vo {α:Type} {xs:List α} {i:Int} {v:α} (h:tV xs i=some v):∃j,seqIndex? i xs.length=some j/\xs[j]? = some v/\j < xs.length/\-(xs.length:Int)<=i/\i < xs.length:=by
 unfold tV at h
 cases e:De xs.length i with
 | none=>rw [e] at h;cases h
 | some j=>
  rw [e] at h
  obtain ⟨h1,h2,h3,h4⟩:=Ab e
  exact ⟨j,h1,h,h2,h3,h4⟩
theorem gR {α:Type} {xs:List α} {j:Nat} {v:α} (h:xs[j]? = some v):tV xs (j:Int)=some v:=by
 have hj:j < xs.length:=(List.getElem?_eq_some_iff.mp h).1
 have e:De xs.length (j:Int)=some j:=by
  unfold De
  rw [if_pos (by lia),if_pos (by lia)];simp
 unfold tV;rw [e];exact h
def Bo (b:Expr):Prop:=∀o i,subscripted b false o i=operate [o,i] (getItem o i)
def Nw (X:Cx) (r:R2):Prop:=
 ∀(value slice:Expr) (pins:List (Addr×Obj)) (s:Shared) (σ:St) (H:Hp) (x y:V) (v u:Value) (Q:VK),Inv X pins σ H s->RelV x v->RelV y u->r x y H Q->
  subscripted slice false v u=operate [v,u] (getItem v u)->wpAny (model X.prog X.w) X.A (subscriptTail value slice v u) (EP X pins σ Q) X.xe s
def MtR (X:Cx) (id:String) (r:V->List V->Hp->VK->Prop):Prop:=
 ∀(pins:List (Addr×Obj)) (s:Shared) (σ:St) (H:Hp) (x:V) (xs:List V) (v:Value) (us:List Value) (Q:VK),Inv X pins σ H s->RelV x v->Vals xs us->r x xs H Q->
  wpAny (model X.prog X.w) X.A (call (.builtin id) (v::us)) (EP X pins σ Q) X.xe s
section
variable {X:Cx} {a b:Expr} {ta tb:TE} {pos:Pos}
theorem Ui {r:R2} (hr:Nw X r) (ha:PE X a ta) (hb:PE X b tb) (hs:Bo b):PE X (.Subscript a b pos) (Fl r ta tb):=by
 intro pins s σ H Q I h
 exact Subscript_ (R6 ha hb I h fun v u s2 x y H2 I2 rx ry q=>hr a b pins s2 σ H2 x y v u Q I2 rx ry q (hs _ _))
def YW (K:PySem.W.Frag):R2:=fun x y H Q=>∃p xs i v,x=.ref p/\y=.int i/\mG K H p xs/\tV xs i=some v/\Q v H
def YT (K:PySem.W.Frag):R2:=fun x y H Q=>∃p xs i v,x=.ref p/\y=.int i/\rE K H p xs/\tV xs i=some v/\Q v H
theorem L8:Nw X (YW X.K):=by
 intro value slice pins s σ H x y v u Q I rx ry h hs
 obtain ⟨p,xs,i,z,rfl,rfl,hq,he,q⟩:=h
 cases rx
 obtain ⟨t,rfl⟩:=ry
 obtain ⟨its,r,pl,hz⟩:=I.list hq
 obtain ⟨j,h1,h2,h3,h4,h5⟩:=vo he
 obtain ⟨w,ew,Gb⟩:=r.get h2
 have hl:=r.length
 have hn:=qc
 have fin:EP X pins σ Q w s:=⟨z,H,I,Gb,q⟩
 by_cases h0:0<=i
 ·have hj:i.toNat=j:=by
   rw [seqIndex_of h0 h5] at h1
   exact Option.some.inj h1
  exact item_listR pl.isList h0 (by lia) (by rw [hj];simpa using ew) fin hs
 ·have hj:(i+(its.toArray.size:Int)).toNat=j:=by
   rw [seqIndex_neg (by lia) h4] at h1
   rw [List.size_toArray,<-hl]
   exact Option.some.inj h1
  exact subscriptTail_builtinR (x:=w) pl.isList.typeIs slot_list_getitem.lookup
   (wpAny_getItem_list_neg (Q:=fun r s'=>r=w/\EP X pins σ Q r s') pl.isList (by lia) (by rw [List.size_toArray] <;> lia) (by lia) (by rw [hj];simpa using ew) ⟨rfl,fin⟩) hs
theorem Q8:Nw X (YT X.K):=by
 intro value slice pins s σ H x y v u Q I rx ry h hs
 obtain ⟨p,xs,i,z,rfl,rfl,hq,he,q⟩:=h
 cases rx
 obtain ⟨t,rfl⟩:=ry
 obtain ⟨its,r,pl,hz⟩:=I.tuple hq
 obtain ⟨j,h1,h2,h3,h4,h5⟩:=vo he
 obtain ⟨w,ew,Gb⟩:=r.get h2
 have hl:=r.length
 have hn:=qc
 have fin:EP X pins σ Q w s:=⟨z,H,I,Gb,q⟩
 exact subscriptTail_builtinR (x:=w) pl.typeIs slot_tuple_getitem.lookup
  (getItem_tuple (j:=j) (Q:=fun r s'=>r=w/\EP X pins σ Q r s') pl (by lia) (by lia) (by rw [List.size_toArray,<-hl];exact h1) (by simpa using ew) ⟨rfl,fin⟩) hs
theorem yo (its:List Value) (n j:Nat) (u:Value):Obj.mapSeq (·.setIfInBounds j u) { cls:=.type "list",data:=.seq its.toArray n }={ cls:=.type "list",data:=.seq (its.set j u).toArray n }:=by
 simp [Obj.mapSeq]
theorem Inv.lst {pins:List (Addr×Obj)} {σ:St} {H:Hp} {s:Shared} {p:Addr} {xs:List V} (I:Inv X pins σ H s) (h:H p=some (.lst xs)) :
  ∃(its:List Value) (n:Nat),Vals xs its/\s.heap.get? p=some { cls:=.type "list",data:=.seq its.toArray n }/\xs.length<=sizeLine:=by
 obtain ⟨z,its,n,r,e⟩:=I.bh p _ h
 exact ⟨its,n,r,e,z⟩
theorem Inv.QS {pins:List (Addr×Obj)} {σ:St} {H:Hp} {s:Shared} {p:Addr} {xs ys:List V} {its its':List Value} {n n':Nat} {f:Obj->Obj} (I:Inv X pins σ H s) (h:H p=some (.lst xs))
  (ho:s.heap.get? p=some { cls:=.type "list",data:=.seq its.toArray n }) (hf:f { cls:=.type "list",data:=.seq its.toArray n }={ cls:=.type "list",data:=.seq its'.toArray n' }) (r:Vals ys its') (hz:ys.length<=sizeLine) (t:Nat) :
  Inv X pins σ (upd H p (.lst ys)) { s with heap:=s.heap.update p f,toks:=t }:=by
 have e:(s.heap.update p f).get? p=some { cls:=.type "list",data:=.seq its'.toArray n' }:=by
  rw [Heap.get?_update_self f ho (by rw [hf] <;> rfl),hf]
 refine I.write (x:=p) (e:=p) (by rw [h];trivial) (.inl rfl) (fun b u hb q=>(Heap.get?_update_other _ _ (Ne.symm hb)).trans q) ⟨_,e⟩ ?_
 exact ⟨hz,its',n',r,e⟩
def T8:V->V->V->Hp->(Hp->Prop)->Prop:=fun o i v H Q=>∃p xs k j,o=.ref p/\i=.int k/\H p=some (.lst xs)/\De xs.length k=some j/\Q (upd H p (.lst (xs.set j v)))
theorem set_list:Ea X T8:=by
 intro pins s σ H o i v ov iv u Q I ro ri rv h
 obtain ⟨p,xs,k,j,rfl,rfl,hp,hj,q⟩:=h
 cases ro
 obtain ⟨t,rfl⟩:=ri
 obtain ⟨its,n,r,ho,hz⟩:=I.lst hp
 obtain ⟨h1,h2,h3,h4⟩:=Ab hj
 have hl:=r.length
 have hn:=qc
 have I':Inv X pins σ (upd H p (.lst (xs.set j v))) { s with heap:=s.heap.update p (Obj.mapSeq (·.setIfInBounds j u)) }:=
  I.QS hp ho (yo its n j u) (r.set rv j) (by rw [List.length_set];exact hz) s.toks
 by_cases h0:0<=k
 ·have hk:k.toNat=j:=by
   rw [seqIndex_of h0 h4] at h1
   exact Option.some.inj h1
  exact PySem.W.ki_setAt ho h0 (by lia) (by rw [List.size_toArray,<-hl];exact h4) (by rw [hk];exact ⟨_,I',q⟩)
 ·have hk:(k+(its.toArray.size:Int)).toNat=j:=by
   rw [seqIndex_neg (by lia) h3] at h1
   rw [List.size_toArray,<-hl]
   exact Option.some.inj h1
  exact PySem.W.ki_setBack ho (by lia) (by rw [List.size_toArray,<-hl];exact h3) (by lia) (by rw [hk];exact ⟨_,I',q⟩)
theorem uk (lo hi:Option Int) (n:Nat):(sliceBounds lo hi none n).1=((HT.cJ n 0 lo:Nat):Int)/\(sliceBounds lo hi none n).2.1=((HT.cJ n n hi:Nat):Int)/\(sliceBounds lo hi none n).2.2=1:=by
 refine ⟨?_,?_,rfl⟩
 ·cases lo with
  | none=>simp [sliceBounds,HT.cJ]
  | some i=>
   simp only [sliceBounds,HT.cJ,Option.getD_none,show (1:Int) > 0 by decide,if_true]
   by_cases h:i < 0
   ·simp only [h,if_true] <;> lia
   ·simp only [h,if_false] <;> lia
 ·cases hi with
  | none=>simp [sliceBounds,HT.cJ]
  | some i=>
   simp only [sliceBounds,HT.cJ,Option.getD_none,show (1:Int) > 0 by decide,if_true]
   by_cases h:i < 0
   ·simp only [h,if_true] <;> lia
   ·simp only [h,if_false] <;> lia
theorem qV (its:List Value) (lo hi:Option Int):slicePick its.toArray lo hi none=((its.drop (HT.cJ its.length 0 lo)).take (HT.cJ its.length its.length hi - HT.cJ its.length 0 lo)).toArray:=by
 obtain ⟨h1,h2,h3⟩:=uk lo hi its.toArray.size
 unfold slicePick
 rw [h1,h2,h3]
 simp only [sliceRange_one,pick_run,List.size_toArray] <;> rfl
def YS (K:PySem.W.Frag):V->Option Int->Option Int->Hp->VK->Prop:=fun x lo hi H Q=>∃a xs,x=.ref a/\mG K H a xs/\∀p,H p=none->Q (.ref p) (upd H p (.lst (gE xs lo hi)))
theorem zG:J5 X (YS X.K):=by
 intro pins s σ H x v vl vu lo hi sl Q I rx hs pl pu h
 obtain ⟨a,xs,rfl,hx,q⟩:=h
 cases rx
 obtain ⟨its,r,ht,hz⟩:=I.list hx
 have hlen:=r.length
 refine ⟨"list",_,slot_list_getitem.lookup,ht.isList.typeIs,?_⟩
 refine wpAny_getItem_list_slice ht.isList hs pl pu .none (by simp) ?_ (by rw [List.size_toArray] <;> lia)
 rw [qV,<-hlen]
 refine ⟨.ref s.heap.objs.size,_,I.laid (t':=s.toks) (o:=.lst (gE xs lo hi)) (fun b ob q=>Heap.get?_push_of_some _ q) (Nat.le_refl _) ?_,rfl,q _ (I.bh.fresh (Nat.le_refl _))⟩
 exact ⟨Nat.le_trans (oP xs lo hi) hz,_,0,(r.drop (HT.cJ xs.length 0 lo)).take (HT.cJ xs.length xs.length hi - HT.cJ xs.length 0 lo),Heap.get?_push_size _ rfl⟩
def gq:V->Bool
 | .non=>true
 | .bl _=>true
 | .int _=>true
 | .str _=>true
 | _=>false
def Eo:V->V->Bool
 | .non,.non=>true
 | .bl a,.bl b=>a == b
 | .bl a,.int b=>(if a then 1 else 0) == b
 | .int a,.bl b=>a == (if b then 1 else 0)
 | .int a,.int b=>a == b
 | .str a,.str b=>a == b
 | _,_=>false
theorem Jk {A:Around} {s:Shared} {y x:V} {u v:Value} (ry:RelV y u) (rx:RelV x v) (fy:gq y=true) (fx:gq x=true):SeqAt.EqAt A s u v (Eo y x):=by
 cases y with
 | non=>
  cases ry
  cases x with
  | non=>cases rx;exact SeqAt.EqAt.same _
  | bl b=>cases rx;exact SeqAt.EqAt.none_bool b
  | int b=>obtain ⟨t,rfl⟩:=rx;exact SeqAt.EqAt.none_int b t
  | str b=>obtain ⟨t,rfl⟩:=rx;exact SeqAt.EqAt.none_str b t
  | _=>exact absurd (show false=true from fx) Bool.false_ne_true
 | bl a=>
  cases ry
  cases x with
  | non=>cases rx;exact SeqAt.EqAt.bool_none a
  | bl b=>cases rx;exact SeqAt.EqAt.bool_bool a b
  | int b=>obtain ⟨t,rfl⟩:=rx;exact SeqAt.EqAt.bool_int a b t
  | str b=>obtain ⟨t,rfl⟩:=rx;exact SeqAt.EqAt.bool_str a b t
  | _=>exact absurd (show false=true from fx) Bool.false_ne_true
 | int a=>
  obtain ⟨t',rfl⟩:=ry
  cases x with
  | non=>cases rx;exact SeqAt.EqAt.int_none a t'
  | bl b=>cases rx;exact SeqAt.EqAt.int_bool a t' b
  | int b=>obtain ⟨t,rfl⟩:=rx;exact SeqAt.EqAt.int_int a t' b t
  | str b=>obtain ⟨t,rfl⟩:=rx;exact SeqAt.EqAt.int_str a t' b t
  | _=>exact absurd (show false=true from fx) Bool.false_ne_true
 | str a=>
  obtain ⟨t',rfl⟩:=ry
  cases x with
  | non=>cases rx;exact SeqAt.EqAt.str_none a t'
  | bl b=>cases rx;exact SeqAt.EqAt.str_bool a t' b
  | int b=>obtain ⟨t,rfl⟩:=rx;exact SeqAt.EqAt.str_int a t' b t
  | str b=>obtain ⟨t,rfl⟩:=rx;exact SeqAt.EqAt.str_str a t' b t
  | _=>exact absurd (show false=true from fx) Bool.false_ne_true
 | _=>exact absurd (show false=true from fy) Bool.false_ne_true
def yT (x:V) (u:Value):Bool:=match u with
 | .none=>Eo .non x
 | .bool b=>Eo (.bl b) x
 | .int i _=>Eo (.int i) x
 | .str z _=>Eo (.str z) x
 | _=>false
theorem Ji {x y:V} {u:Value} (r:RelV y u) (f:gq y=true):yT x u=Eo y x:=by
 cases y with
 | non=>cases r;rfl
 | bl b=>cases r;rfl
 | int i=>obtain ⟨t,rfl⟩:=r;rfl
 | str z=>obtain ⟨t,rfl⟩:=r;rfl
 | _=>exact absurd (show false=true from f) Bool.false_ne_true
theorem nu {x:V}:∀{xs:List V} {us:List Value},Vals xs us->xs.all gq=true->us.any (yT x)=xs.any fun y=>Eo y x
 | _,_,.nil,_=>rfl
 | y::xs,u::us,.cons r t,f=>by
  rw [List.all_cons,Bool.and_eq_true] at f
  rw [List.any_cons,List.any_cons,Ji r f.1,nu t f.2]
theorem jG {A:Around} {s:Shared} {x:V} {v:Value} (rx:RelV x v) (fx:gq x=true):∀{xs:List V} {us:List Value},Vals xs us->xs.all gq=true->∀u∈us,SeqAt.EqAt A s u v (yT x u)
 | _,_,.nil,_=>fun u hu=>by cases hu
 | y::xs,u::us,.cons r t,f=>fun u' hu=>by
  rw [List.all_cons,Bool.and_eq_true] at f
  rcases List.mem_cons.mp hu with rfl | hu
  ·rw [Ji r f.1];exact Jk r rx f.1 fx
  ·exact jG rx fx t f.2 u' hu
def Od (x:V) (xs:List V):Bool:=xs.any fun y=>Eo y x
def rIn (K:PySem.W.Frag) (neg:Bool):R2:=fun x y H Q=>∃p xs,y=.ref p/\(mG K H p xs\/rE K H p xs)/\gq x=true/\xs.all gq=true/\Q (.bl (if neg then !Od x xs else Od x xs)) H
theorem Cr:kR X (compareOp .In) (rIn X.K false):=by
 intro pins s σ H x y v u Q I rx ry h
 obtain ⟨p,xs,rfl,hq,fx,fs,q⟩:=h
 cases ry
 rcases hq with hq | hq
 ·obtain ⟨its,r,pl,hz⟩:=I.list hq
  refine SeqAt.in_listAt (yT x) pl.isList (fun w hw=>jG rx fx r fs w (by simpa using hw)) ⟨.bl _,H,I,rfl,?_⟩
  rw [show its.toArray.any (yT x)=its.any (yT x) by simp,nu r fs]
  exact q
 ·obtain ⟨its,r,pl,hz⟩:=I.tuple hq
  refine SeqAt.in_tupleAt (yT x) pl (fun w hw=>jG rx fx r fs w (by simpa using hw)) ⟨.bl _,H,I,rfl,?_⟩
  rw [show its.toArray.any (yT x)=its.any (yT x) by simp,nu r fs]
  exact q
theorem uI:kR X (compareOp .NotIn) (rIn X.K true):=by
 intro pins s σ H x y v u Q I rx ry h
 obtain ⟨p,xs,rfl,hq,fx,fs,q⟩:=h
 cases ry
 rcases hq with hq | hq
 ·obtain ⟨its,r,pl,hz⟩:=I.list hq
  refine SeqAt.notIn_listAt (yT x) pl.isList (fun w hw=>jG rx fx r fs w (by simpa using hw)) ⟨.bl _,H,I,rfl,?_⟩
  rw [show its.toArray.any (yT x)=its.any (yT x) by simp,nu r fs]
  exact q
 ·obtain ⟨its,r,pl,hz⟩:=I.tuple hq
  refine SeqAt.notIn_tupleAt (yT x) pl (fun w hw=>jG rx fx r fs w (by simpa using hw)) ⟨.bl _,H,I,rfl,?_⟩
  rw [show its.toArray.any (yT x)=its.any (yT x) by simp,nu r fs]
  exact q
theorem nq:dA X (.builtin "len") (fun xs H Q=>∃p ys,xs=[.ref p]/\(mG X.K H p ys\/rE X.K H p ys)/\Q (.int ys.length) H):=by
 intro pins s σ H xs us Q I r h
 obtain ⟨p,ys,rfl,hq,q⟩:=h
 obtain ⟨u,rfl,rx⟩:=vals1 r
 cases rx
 have hn:=qc
 rcases hq with hq | hq
 ·obtain ⟨its,r',pl,hz⟩:=I.list hq
  have hlen:=r'.length
  exact Calls.call_len_list pl.isList (by simp only [List.size_toArray] <;> lia) ⟨.int ys.length,H,I.tok _,⟨s.toks+1,by rw [List.size_toArray,hlen]⟩,q⟩
 ·obtain ⟨its,r',pl,hz⟩:=I.tuple hq
  have hlen:=r'.length
  exact len_tuple pl (by simp only [List.size_toArray] <;> lia) ⟨.int ys.length,H,I.tok _,⟨s.toks+1,by rw [List.size_toArray,hlen]⟩,q⟩
theorem vj:dA X (.type "list") (fun xs H Q=>∃p ys,xs=[.ref p]/\(mG X.K H p ys\/rE X.K H p ys)/\∀l,H l=none->Q (.ref l) (upd H l (.lst ys))):=by
 intro pins s σ H xs us Q I r h
 obtain ⟨p,ys,rfl,hq,q⟩:=h
 obtain ⟨u,rfl,rx⟩:=vals1 r
 cases rx
 have fin:∀(its:List Value),Vals ys its->ys.length<=sizeLine->∀(h':Heap) (c':Nat),(∀b o',s.heap.get? b=some o'->h'.get? b=some o')->
   h'.get? s.heap.objs.size=some { cls:=.type "list",dict:=none,data:=.seq its.toArray c',slots:=#[] }->EP X pins σ Q (.ref s.heap.objs.size) { s with heap:=h' }:=fun its r' hz h' c' kp e=>
  ⟨.ref s.heap.objs.size,_,I.laid (t':=s.toks) kp (Nat.le_refl _) (show cD X.prog X.w _ h' _ (.lst ys) from ⟨hz,its,c',r',e⟩),rfl,q _ (I.bh.fresh (Nat.le_refl _))⟩
 rcases hq with hq | hq
 ·obtain ⟨its,r',pl,hz⟩:=I.list hq
  have hlen:=r'.length
  obtain ⟨o,ho,hc,n,hd⟩:=pl.isList
  exact call_list_seq p (.inl rfl) ho hc hd (fun h' c' kp e=>fin its r' hz h' c' kp e) (by simp only [List.size_toArray] <;> lia)
 ·obtain ⟨its,r',pl,hz⟩:=I.tuple hq
  have hlen:=r'.length
  obtain ⟨o,ho,hc,n,hd⟩:=pl
  exact call_list_seq p (.inr rfl) ho hc hd (fun h' c' kp e=>fin its r' hz h' c' kp e) (by simp only [List.size_toArray] <;> lia)
theorem rC:dA X (.type "tuple") (fun xs H Q=>∃p ys,xs=[.ref p]/\((mG X.K H p ys/\∀l,H l=none->Q (.ref l) (upd H l (.tup ys)))\/(rE X.K H p ys/\Q (.ref p) H))):=by
 intro pins s σ H xs us Q I r h
 obtain ⟨p,ys,rfl,h⟩:=h
 obtain ⟨u,rfl,rx⟩:=vals1 r
 cases rx
 rcases h with ⟨hq,q⟩ | ⟨hq,q⟩
 ·obtain ⟨its,r',pl,hz⟩:=I.list hq
  have hlen:=r'.length
  refine call_tuple_list pl.isList (fun h' kp=>?_) (by simp only [List.size_toArray] <;> lia)
  have I1:Inv X pins σ H { s with heap:=h' }:=I.kept (t':=s.toks) kp
  have I2:Inv X pins σ (upd H h'.objs.size (.tup ys)) { s with heap:=h'.push { cls:=.type "tuple",data:=.seq its.toArray } }:=
   I1.laid (t':=s.toks) (fun b o e=>Heap.get?_push_of_some _ e) (Nat.le_refl _) (show cD X.prog X.w _ _ _ (.tup ys) from ⟨hz,its,r',IsTup.new _ _⟩)
  exact ⟨.ref h'.objs.size,_,I2,rfl,q _ (I1.bh.fresh (Nat.le_refl _))⟩
 ·obtain ⟨its,r',pl,hz⟩:=I.tuple hq
  exact call_tuple_same pl ⟨.ref p,H,I,rfl,q⟩
def WM (K:PySem.W.Frag) (T:String) (x:V) (H:Hp):Prop:=match x with
 | .str _=>T = "str"
 | .int _=>T = "int"
 | .ref p=>(T = "list"/\∃xs,mG K H p xs)\/(T = "tuple"/\∃o,K.lookup p=some o/\o.cls=.type "tuple"/\o.dict=none)\/
   (T = "dict"/\((∃aE,H p=some (.dK aE))\/∃aE,H p=some (.dT aE)))\/(T = "set"/\∃S n,H p=some (.set S n))
 | _=>False
theorem Pr {pins:List (Addr×Obj)} {σ:St} {H:Hp} {s:Shared} {T:String} {x:V} {v:Value} (I:Inv X pins σ H s) (r:RelV x v) (ty:WM X.K T x H) :
  s.TypeIs v T/\∀a,v=.ref a->∃ob,s.heap.get? a=some ob/\ob.dict=none:=by
 cases x with
 | str z=>
  obtain ⟨t,rfl⟩:=r
  cases (show T = "str" from ty)
  exact ⟨typeIs_str s z t,fun _ e=>nomatch e⟩
 | int i=>
  obtain ⟨t,rfl⟩:=r
  cases (show T = "int" from ty)
  exact ⟨typeIs_int s i t,fun _ e=>nomatch e⟩
 | ref p=>
  cases r
  rcases ty with ⟨rfl,xs,hq⟩ | ⟨rfl,o,hk,hc,hd⟩ | ⟨rfl,hk⟩ | ⟨rfl,S,n,hk⟩
  ·obtain ⟨its,_,pl,_⟩:=I.list hq
   refine ⟨pl.isList.typeIs,fun a e=>?_⟩
   cases e
   obtain ⟨o,n,e,c,hd,_⟩:=pl
   exact ⟨o,e,hd⟩
  ·refine ⟨⟨o,I.jr p o hk,hc⟩,fun a e=>?_⟩
   cases e
   exact ⟨o,I.jr _ o hk,hd⟩
  ·have z:∃o,s.heap.get? p=some o/\o.ExactDict:=by
    rcases hk with ⟨aE,hk⟩ | ⟨aE,hk⟩
    ·obtain ⟨_,_,_,_,o,_,_,e,ex,_⟩:=I.bh p _ hk
     exact ⟨o,e,ex⟩
    ·obtain ⟨_,_,_,_,o,_,_,e,ex,_⟩:=I.bh p _ hk
     exact ⟨o,e,ex⟩
   obtain ⟨o,e,ex⟩:=z
   refine ⟨⟨o,e,ex.1⟩,fun a e2=>?_⟩
   cases e2
   exact ⟨o,e,ex.2.1⟩
  ·obtain ⟨o,_,_,_,e,ex,_⟩:=I.bh p _ hk
   refine ⟨⟨o,e,ex.1⟩,fun a e2=>?_⟩
   cases e2
   exact ⟨o,e,ex.2.1⟩
 | _=>exact False.elim ty
def Pz (K:PySem.W.Frag) (T:String) (r:V->List V->Hp->VK->Prop) (to:TE):TE:=fun σ H Q=>to σ H fun x H1=>WM K T x H1/\r x [] H1 Q
def Ts (K:PySem.W.Frag) (T:String) (r:V->List V->Hp->VK->Prop) (to:TE) (t:TA):TE:=fun σ H Q=>to σ H fun x H1=>WM K T x H1/\t σ H1 fun xs H2=>r x xs H2 Q
variable {o e:Expr} {es:List Expr} {to:TE} {t:TA} {name:Str} {apos cA:Pos} {T id:String} {r:V->List V->Hp->VK->Prop}
theorem sL (pa:PlainAttrs T) (slot:Slot T name id) (hty:typeOf (.builtin id)=pure (.type "method_descriptor")) (hm:MtR X id r) (ho:PE X o to) (ha:PA X (e::es) t)
  (Vu:attributeBase o name X.env (eval o X.env)=eval o X.env:=by rfl)
  (aAI:((backTo cA (starEach (e::es) X.env)).all (fun x=>!x.1) && (backToKw cA (keywordEach [] X.env)).all (fun x=>x.1.isSome)
   && decide ((e::es).length+([]:List Keyword).length+(if ([]:List Keyword).isEmpty then 0 else 1) < 30))=true:=by rfl)
  (hline:(apos.endLine == cA.line)=true:=by rfl) (hs:starEach (e::es) X.env=(false,eval e X.env)::starEach es X.env:=by rfl) (Rm:(backTo cA (starEach es X.env)).any (·.1)=false:=by rfl) :
  PE X (.Call (.Attribute o name apos) (e::es) [] cA) (Ts X.K T r to t):=by
 intro pins s σ H Q I h
 refine wpAny_Call_method_late Vu aAI hline rfl (cy (ho pins s σ H _ I h) fun v s1 ⟨x,H1,I1,r1,ty,q1⟩=>?_)
 obtain ⟨h1,h2⟩:=Pr I1 r1 ty
 refine ⟨T,id,pa,slot,hty,h1,h2,?_⟩
 have hA:=ha cA pins s1 σ H1 _ I1 q1
 rw [hs] at hA ⊢
 refine Calls.callWith_builtin (by show (false || (backTo cA (starEach es X.env)).any (·.1))=false;rw [Rm] <;> rfl) (Calls.evalArgs_plain ?_)
 exact cy hA fun us s2 ⟨vs,H2,I2,r2,q2⟩=>hm pins s2 σ H2 x vs v us Q I2 r1 r2 q2
end
end L2
namespace L2
open PySem PySem.Spec PyProof.Rows
def MtM (X:Cx) (id:String) (r:V->List V->Hp->VK->Prop):Prop:=
 ∀(pins:List (Addr×Obj)) (s:Shared) (σ:St) (H:Hp) (x:V) (xs:List V) (v:Value) (us:List Value) (Q:VK),Inv X pins σ H s->RelV x v->Vals xs us->r x xs H Q->
  wpAny (model X.prog X.w) X.A (call (.builtin id) (v::us)) (EP X pins σ Q) X.xe s
theorem Vals.one:∀{x:V} {us:List Value},Vals [x] us->∃u,us=[u]/\RelV x u
 | _,_,.cons r .nil=>⟨_,rfl,r⟩
theorem Vals.two:∀{x y:V} {us:List Value},Vals [x,y] us->∃u v,us=[u,v]/\RelV x u/\RelV y v
 | _,_,_,.cons r (.cons q .nil)=>⟨_,_,rfl,r,q⟩
section
variable {X:Cx} {pins:List (Addr×Obj)} {σ:St} {H:Hp} {s:Shared} {l b:Addr} {xs ys zs:List V}
theorem Inv.aAa {its its':List Value} {n:Nat} {f:Array Value->Array Value} {t':Nat} (I:Inv X pins σ H s) (hH:H l=some (.lst xs))
  (e:s.heap.get? l=some { cls:=.type "list",data:=.seq its.toArray n }) (hf:f its.toArray=its'.toArray) (hv:Vals ys its') (hz:ys.length<=sizeLine) :
  Inv X pins σ (upd H l (.lst ys)) { s with heap:=s.heap.update l (Obj.mapSeq f),toks:=t' }:=by
 have q:=PySem.IsL.update e f
 rw [hf] at q
 refine I.write (x:=l) (e:=l) (by rw [hH];exact trivial) (.inl rfl) (fun b' u hb hu=>(Heap.get?_update_other s.heap (Obj.mapSeq f) (Ne.symm hb)).trans hu) ⟨_,q⟩ ?_
 exact ⟨hz,its',_,hv,q⟩
theorem Inv.aAb {its:List Value} {t':Nat} (I:Inv X pins σ H s) (hv:Vals ys its) (hz:ys.length<=sizeLine) :
  Inv X pins σ (upd H s.heap.objs.size (.lst ys)) { s with heap:=s.heap.push { cls:=.type "list",data:=.seq its.toArray },toks:=t' }:=
 I.laid (fun _ _ q=>Heap.get?_push_of_some _ q) (Nat.le_refl _) ⟨hz,its,0,hv,Heap.get?_push_size _ rfl⟩
theorem Inv.fresh (I:Inv X pins σ H s):H s.heap.objs.size=none:=I.bh.fresh (Nat.le_refl _)
theorem Inv.QT (I:Inv X pins σ H s) (hH:H l=some (.lst xs)):xs.length<=sizeLine/\∃(its:List Value) (n:Nat),Vals xs its/\xs.length=its.length/\s.heap.get? l=some { cls:=.type "list",data:=.seq its.toArray n }:=by
 obtain ⟨z,its,n,r,e⟩:=I.bh l _ hH
 exact ⟨z,its,n,r,r.length,e⟩
end
section
variable {X:Cx}
def px:V->List V->Hp->VK->Prop:=fun x vs H Q=>∃l xs y,x=.ref l/\vs=[y]/\H l=some (.lst xs)/\xs.length < sizeLine/\Q .non (upd H l (.lst (xs++[y])))
theorem fh:MtM X "list.append" px:=by
 intro pins s σ H x vs v us Q I rx rv h
 obtain ⟨l,xs,y,rfl,rfl,hH,hz,q⟩:=h
 cases rx
 obtain ⟨u,rfl,ru⟩:=rv.one
 obtain ⟨z,its,n,r,hl,e⟩:=I.QT hH
 refine call_meets F.slot_list_append ⟨_,e,rfl⟩ F.entry_list_append (F.args_list_append_2 _ _) (PySem.list_append l its.toArray n u (by rw [List.size_toArray];lia)) ⟨e,?_⟩
 refine ⟨.non,_,I.aAa (its':=its++[u]) hH e (by simp) (r.append (.cons ru .nil)) ?_,rfl,q⟩
 rw [List.length_append,List.length_singleton]
 lia
def uA:V->List V->Hp->VK->Prop:=fun x vs H Q=>∃l b xs zs,x=.ref l/\vs=[.ref b]/\H l=some (.lst xs)/\H b=some (.lst zs)/\xs.length+zs.length<=sizeLine/\Q .non (upd H l (.lst (xs++zs)))
def nU:V->List V->Hp->VK->Prop:=fun x vs H Q=>∃l xs i k y,x=.ref l/\vs=[.int i]/\H l=some (.lst xs)/\-(2 ^ 63)<=i/\i < 2 ^ 63/\seqIndex? i xs.length=some k/\xs[k]? = some y/\Q y (upd H l (.lst (xs.eraseIdx k)))
def p5:V->List V->Hp->VK->Prop:=fun x vs H Q=>∃l xs,x=.ref l/\vs=[]/\H l=some (.lst xs)/\Q .non (upd H l (.lst xs.reverse))
def xZ:V->List V->Hp->VK->Prop:=fun x vs H Q=>∃l xs,x=.ref l/\vs=[]/\H l=some (.lst xs)/\Q .non (upd H l (.lst []))
def Ky:R2:=fun x y H Q=>∃l b xs zs,x=.ref l/\y=.ref b/\H l=some (.lst xs)/\H b=some (.lst zs)/\xs.length+zs.length<=sizeLine/\∀p,H p=none->Q (.ref p) (upd H p (.lst (xs++zs)))
theorem yf:kR X (binaryOp .Add) Ky:=by
 intro pins s σ H x y v u Q I rx ry h
 obtain ⟨l,b,xs,zs,rfl,rfl,hH,hB,hz,q⟩:=h
 cases rx
 cases ry
 obtain ⟨z,its,n,r,hl,e⟩:=I.QT hH
 obtain ⟨z2,wD,n2,r2,Ai,e2⟩:=I.QT hB
 refine PySem.P.add_list e e2 ?_ (by rw [List.size_toArray,List.size_toArray];lia)
 have ea:its.toArray++wD.toArray=(its++wD).toArray:=by simp
 rw [ea]
 exact ⟨.ref _,_,I.aAb (t':=s.toks) (r.append r2) (by rw [List.length_append];lia),rfl,q _ I.fresh⟩
end
section
variable {prog:Program} {w:World} {A:Around} {E:Value->Shared->Prop} {s:Shared}
end
section
variable {X:Cx}
end
end L2
namespace L2
open PySem PySem.Spec PyProof.Rows
section
variable {κ:Type} [DecidableEq κ]
def dM (aE:List (κ×V)) (k:κ):Option V:=(aE.find? fun kv=>decide (kv.1=k)).map (·.2)
def putK (aE:List (κ×V)) (k:κ) (v:V):List (κ×V):=
 if (aE.any fun kv=>decide (kv.1=k))=true then aE.map (fun kv=>if kv.1=k then (kv.1,v) else kv) else aE++[(k,v)]
def V4 (aE:List (κ×V)) (k:κ):List (κ×V):=aE.filter fun kv=>decide (kv.1≠k)
theorem dc {p:κ×V} {r:List (κ×V)} {k:κ} (e:p.1=k):dM (p::r) k=some p.2:=by simp [dM,List.find?_cons,e]
theorem de {p:κ×V} {r:List (κ×V)} {k:κ} (e:¬p.1=k):dM (p::r) k=dM r k:=by simp [dM,List.find?_cons,e]
theorem ie (k:κ):∀aE:List (κ×V),(aE.any fun kv=>decide (kv.1=k))=(dM aE k).isSome
 | []=>rfl
 | p::r=>by
  rw [List.any_cons]
  by_cases e:p.1=k
  ·simp only [dc e,decide_eq_true e,Bool.true_or,Option.isSome_some]
  ·rw [de e,decide_eq_false e,Bool.false_or];exact ie k r
theorem vG (k j:κ) (y:V):∀aE:List (κ×V),dM (aE.map fun kv=>if kv.1=k then (kv.1,y) else kv) j=(dM aE j).map fun x=>if j=k then y else x
 | []=>rfl
 | p::r=>by
  have ih:=vG k j y r
  rw [List.map_cons]
  by_cases h:p.1=k
  ·rw [if_pos h]
   by_cases e:p.1=j
   ·rw [dc (p:=(p.1,y)) e,dc e,Option.map_some,if_pos (e.symm.trans h)]
   ·rw [de (p:=(p.1,y)) e,de e,ih]
  ·rw [if_neg h]
   by_cases e:p.1=j
   ·rw [dc (p:=p) e,dc e,Option.map_some,if_neg (fun z=>h (e.trans z))]
   ·rw [de (p:=p) e,de e,ih]
theorem rO (k j:κ) (y:V):∀aE:List (κ×V),dM aE k=none->dM (aE++[(k,y)]) j=if j=k then some y else dM aE j
 | [],_=>by
  by_cases e:k=j
  ·rw [if_pos e.symm];exact dc (p:=(k,y)) e
  ·rw [if_neg (fun z=>e z.symm)];exact de (p:=(k,y)) e
 | p::r,hn=>by
  rw [List.cons_append]
  have hk:¬p.1=k:=fun z=>by rw [dc z] at hn;cases hn
  rw [de hk] at hn
  have ih:=rO k j y r hn
  by_cases e:p.1=j
  ·rw [dc e,dc e,if_neg (fun z=>hk (e.trans z))]
  ·rw [de e,de e,ih]
theorem Fc (aE:List (κ×V)) (k j:κ) (y:V):dM (putK aE k y) j=if j=k then some y else dM aE j:=by
 unfold putK
 by_cases a:(aE.any fun kv=>decide (kv.1=k))=true
 ·rw [if_pos a,vG]
  rw [ie] at a
  by_cases e:j=k
  ·obtain ⟨x,hx⟩:=Option.isSome_iff_exists.mp a
   rw [if_pos e,e,hx,Option.map_some,if_pos rfl]
  ·rw [if_neg e]
   cases dM aE j with
   | none=>rfl
   | some x=>rw [Option.map_some,if_neg e]
 ·rw [if_neg a]
  refine rO k j y aE ?_
  rw [ie] at a
  cases q:dM aE k with
  | none=>rfl
  | some x=>rw [q] at a;exact (a rfl).elim
theorem jJ (aE:List (κ×V)) (k:κ) (v:V):(putK aE k v).length<=aE.length+1:=by
 unfold putK
 split
 ·rw [List.length_map];lia
 ·rw [List.length_append,List.length_cons,List.length_nil];lia
theorem GL {aE:List (κ×V)} {k:κ} (v:V) (h:dM aE k=none):putK aE k v=aE++[(k,v)]:=by
 unfold putK
 rw [ie,h]
 exact if_neg (by decide)
theorem kB.nY {o:Option V} {u:Option Value} (r:kB o u):o.isSome=u.isSome:=by
 cases o with
 | none=>cases u with
  | none=>rfl
  | some _=>exact (show False from r).elim
 | some _=>cases u with
  | none=>exact (show False from r).elim
  | some _=>rfl
theorem KV.val {aE:List (κ×V)} {vs:List (κ×Value)} (r:KV aE vs) (k:κ):kB (dM aE k) (valueAt vs k):=by
 unfold KV at r
 induction r with
 | nil=>exact True.intro
 | @cons p q ps qs h t ih=>
  obtain ⟨h1,h2⟩:=h
  by_cases e:p.1=k
  ·have e':q.1=k:=h1.symm.trans e
   have b:valueAt (q::qs) k=some q.2:=by simp [valueAt,List.find?_cons,e']
   rw [dc e,b];exact h2
  ·have e':¬q.1=k:=fun z=>e (h1.trans z)
   have b:valueAt (q::qs) k=valueAt qs k:=by simp [valueAt,List.find?_cons,e']
   rw [de e,b];exact ih
theorem KV.any {aE:List (κ×V)} {vs:List (κ×Value)} (r:KV aE vs) (k:κ):(aE.any fun kv=>decide (kv.1=k))=vs.any fun kv=>decide (kv.1=k):=by
 unfold KV at r
 induction r with
 | nil=>rfl
 | cons h t ih=>rw [List.any_cons,List.any_cons,ih,h.1]
theorem KV.repl {aE:List (κ×V)} {vs:List (κ×Value)} (r:KV aE vs) (k:κ) {y:V} {u:Value} (ry:RelV y u) :
  KV (aE.map fun kv=>if kv.1=k then (kv.1,y) else kv) (vs.map fun kv=>if kv.1=k then (kv.1,u) else kv):=by
 unfold KV at r ⊢
 induction r with
 | nil=>exact .nil
 | @cons p q ps qs h t ih=>
  rw [List.map_cons,List.map_cons]
  refine .cons ?_ ih
  obtain ⟨h1,h2⟩:=h
  by_cases e:p.1=k
  ·rw [if_pos e,if_pos (h1.symm.trans e)];exact ⟨h1,ry⟩
  ·rw [if_neg e,if_neg (fun z=>e (h1.trans z))];exact ⟨h1,h2⟩
theorem KV.put {aE:List (κ×V)} {vs:List (κ×Value)} (r:KV aE vs) (k:κ) {y:V} {u:Value} (ry:RelV y u):KV (putK aE k y) (stored vs k u):=by
 unfold putK stored
 rw [r.any k]
 by_cases e:(vs.any fun kv=>decide (kv.1=k))=true
 ·rw [if_pos e,if_pos e];exact r.repl k ry
 ·rw [if_neg e,if_neg e];exact Paired.snoc r ⟨rfl,ry⟩
theorem KV.length {aE:List (κ×V)} {vs:List (κ×Value)} (r:KV aE vs):aE.length=vs.length:=Paired.length r
end
theorem Aa {P:Program} {w:World} {k:Key} {u:Value} (r:RelV (kV k) u):(cM P w).is k u=true:=by
 cases k with
 | inl i=>obtain ⟨t,e⟩:=(show ∃t,u=Value.int i t from r);subst e;exact wq P w i t
 | inr x=>obtain ⟨t,e⟩:=(show ∃t,u=Value.str x t from r);subst e;exact wo P w x t
theorem sY {P:Program} {w:World}:∀{ks:List Key} {us:List Value},Vals (ks.map kV) us->ItemsAre (cM P w) ks us
 | [],_,r=>by rw [List.map_nil] at r;cases r;exact .nil
 | k::ks,_,r=>by
  rw [List.map_cons] at r
  cases r with
  | cons h t=>exact .cons (Aa h) (sY t)
abbrev KT (H:Hp):List (List Key×V)->List (List Key×Addr×Value)->Prop:=Paired fun p q=>p.1=q.1/\H q.2.1=some (.tup (p.1.map kV))/\RelV p.2 q.2.2
theorem KT.val {H:Hp} {aE:List (List Key×V)} {xs:List (List Key×Addr×Value)} (r:KT H aE xs) (k:List Key):kB (dM aE k) ((atKey xs k).map (·.2)):=by
 induction r with
 | nil=>exact True.intro
 | @cons p q ps qs h t ih=>
  obtain ⟨h1,_,h2⟩:=h
  by_cases e:p.1=k
  ·have e':q.1=k:=h1.symm.trans e
   have b:atKey (q::qs) k=some q.2:=by simp [atKey,List.find?_cons,e']
   rw [dc e,b];exact h2
  ·have e':¬q.1=k:=fun z=>e (h1.trans z)
   have b:atKey (q::qs) k=atKey qs k:=by simp [atKey,List.find?_cons,e']
   rw [de e,b];exact ih
theorem KT.repl {H:Hp} {aE:List (List Key×V)} {xs:List (List Key×Addr×Value)} (r:KT H aE xs) (k:List Key) {y:V} {u:Value} (ry:RelV y u) :
  KT H (aE.map fun kv=>if kv.1=k then (kv.1,y) else kv) (xs.map (putAt k u)):=by
 induction r with
 | nil=>exact .nil
 | @cons p q ps qs h t ih=>
  rw [List.map_cons,List.map_cons]
  refine .cons ?_ ih
  obtain ⟨h1,h2,h3⟩:=h
  unfold putAt
  by_cases e:p.1=k
  ·rw [if_pos e,if_pos (h1.symm.trans e)];exact ⟨h1,h2,ry⟩
  ·rw [if_neg e,if_neg (fun z=>e (h1.trans z))];exact ⟨h1,h2,h3⟩
theorem KT.put {H:Hp} {aE:List (List Key×V)} {xs:List (List Key×Addr×Value)} (r:KT H aE xs) (k:List Key) {b:Addr} {y:V} {u:Value} (hb:H b=some (.tup (k.map kV))) (ry:RelV y u) :
  KT H (putK aE k y) (storedH xs k b u):=by
 have e:(aE.any fun kv=>decide (kv.1=k))=(atKey xs k).isSome:=by
  rw [ie,(r.val k).nY,Option.isSome_map]
 unfold putK storedH
 rw [e]
 by_cases q:(atKey xs k).isSome=true
 ·rw [if_pos q,if_pos q];exact r.repl k ry
 ·rw [if_neg q,if_neg q];exact Paired.snoc r ⟨rfl,hb,ry⟩
theorem KT.keeps {H H':Hp} {aE:List (List Key×V)} {xs:List (List Key×Addr×Value)} (r:KT H aE xs) (ht:∀b ys,H b=some (.tup ys)->H' b=some (.tup ys)):KT H' aE xs:=
 Paired.QK r fun _ _ z=>⟨z.1,ht _ _ z.2.1,z.2.2⟩
section
variable {P:Program} {w:World} {H:Hp} {h:Heap} {a:Addr}
theorem N0 {u:HO} (ok:fA P w H h) (e:Rd H a u):cD P w H h a u:=e.ok ok
theorem Au {aE:List (Key×V)} (ok:fA P w H h) (e:Rd H a (.dK aE)):aE.length<=sizeLine/\(a == sysModules)=false/\∃vs,KV aE vs/\h.DictOf (cM P w) a vs:=
 show cD P w H h a (.dK aE) from N0 ok e
theorem V5 {aE:List (Key×V)} (ok:fA P w H h) (e:H a=some (.dK aE)):aE.length<=sizeLine/\(a == sysModules)=false/\∃vs,KV aE vs/\h.DictOf (cM P w) a vs:=Au ok (.inl e)
theorem uW {ks:List Key} (ok:fA P w H h) (e:H a=some (.tup (ks.map kV))):(tupleKind (cM P w)).is h ks a:=by
 obtain ⟨_,its,r,o,h1,h2,n,h3⟩:=(show cD P w H h a (.tup (ks.map kV)) from ok a _ e)
 exact ⟨o,its.toArray,n,h1,h2,h3,by simpa using sY r⟩
theorem Aq {aE:List (List Key×V)} (ok:fA P w H h) (e:Rd H a (.dT aE)):aE.length<=sizeLine/\(a == sysModules)=false/\
  ∃xs,KT H aE xs/\h.DictOfH (tupleKind (cM P w)) a xs:=by
 obtain ⟨z,y,xs,r,o,es,ep,h1,h2,h3,h4,h5⟩:=(show cD P w H h a (.dT aE) from N0 ok e)
 refine ⟨z,y,xs,r,o,es,ep,h1,h2,h3,h4,fun x hx=>?_,h5⟩
 have all:∀{l:List (List Key×V)} {m:List (List Key×Addr×Value)},KT H l m->∀x∈m,(tupleKind (cM P w)).is h x.1 x.2.1:=by
  intro l m q
  induction q with
  | nil=>intro x hx;exact nomatch hx
  | @cons p q ps qs hq t ih=>
   intro x hx
   rcases List.mem_cons.mp hx with e | hx
   ·subst e
    exact uW ok (by rw [<-hq.1];exact hq.2.1)
   ·exact ih x hx
 exact all r x hx
theorem V3 {aE:List (List Key×V)} (ok:fA P w H h) (e:H a=some (.dT aE)):aE.length<=sizeLine/\(a == sysModules)=false/\
  ∃xs,KT H aE xs/\h.DictOfH (tupleKind (cM P w)) a xs:=Aq ok (.inl e)
end
def nF (H:Hp) (a:Addr) (y:V) (r:Option V):Prop:=
 (∃aE k,Rd H a (.dK aE)/\y=kV k/\r=dM aE k)\/∃aE k b,Rd H a (.dT aE)/\y=.ref b/\H b=some (.tup (k.map kV))/\r=dM aE k
def qN (H:Hp) (a:Addr) (y v:V) (H':Hp):Prop:=
 (∃aE k,H a=some (.dK aE)/\y=kV k/\aE.length < sizeLine/\H'=upd H a (.dK (putK aE k v)))\/
 ∃aE k b,H a=some (.dT aE)/\y=.ref b/\H b=some (.tup (k.map kV))/\aE.length < sizeLine/\H'=upd H a (.dT (putK aE k v))
theorem nF.k {H:Hp} {a:Addr} {aE:List (Key×V)} {k:Key} (e:H a=some (.dK aE)):nF H a (kV k) (dM aE k):=.inl ⟨aE,k,.inl e,rfl,rfl⟩
theorem nF.t {H:Hp} {a b:Addr} {aE:List (List Key×V)} {k:List Key} (e:H a=some (.dT aE)) (eb:H b=some (.tup (k.map kV))):nF H a (.ref b) (dM aE k):=.inr ⟨aE,k,b,.inl e,rfl,eb,rfl⟩
theorem qN.k {H:Hp} {a:Addr} {aE:List (Key×V)} {k:Key} {v:V} (e:H a=some (.dK aE)) (hl:aE.length < sizeLine):qN H a (kV k) v (upd H a (.dK (putK aE k v))):=.inl ⟨aE,k,e,rfl,hl,rfl⟩
theorem qN.t {H:Hp} {a b:Addr} {aE:List (List Key×V)} {k:List Key} {v:V} (e:H a=some (.dT aE)) (eb:H b=some (.tup (k.map kV))) (hl:aE.length < sizeLine) :
  qN H a (.ref b) v (upd H a (.dT (putK aE k v))):=.inr ⟨aE,k,b,e,rfl,eb,hl,rfl⟩
section
variable {X:Cx} {pins:List (Addr×Obj)} {σ:St} {H:Hp} {s:Shared} {a:Addr} {y v:V} {u r:Value} {o:Option V} {A:Around} {E:Value->Shared->Prop}
theorem Inv.big (I:Inv X pins σ H s):sysModules < s.heap.objs.size:=by
 have h:mainGlobals < s.heap.objs.size:=(I.mod.glob.keeps I.bk).lt
 exact Nat.lt_trans (by decide) h
theorem Dz {Q:Value->Shared->Prop} (hu:A.units+1 < cLine) (I:Inv X pins σ H s) (g:nF H a y (some v)) (ry:RelV y u) (h:∀w' s',Inv X pins σ H s'->RelV v w'->Q w' s') :
  wpAny (model X.prog X.w) A (getItem (.ref a) u) Q E s:=by
 rcases g with ⟨aE,k,e,ey,l⟩ | ⟨aE,k,b,e,ey,eb,l⟩
 ·subst ey
  obtain ⟨z,hd,vs,rel,dd⟩:=Au I.bh e
  obtain ⟨w',hw,Gb⟩:=kB.some_of (v:=v) (o:=valueAt vs k) (by rw [l];exact rel.val k)
  exact wpAny_getItem_of (Aa ry) dd.mapOf hw (h w' _ (I.tok _) Gb)
 ·subst ey
  cases (show u=Value.ref b from ry)
  obtain ⟨z,hd,xs,rel,dd⟩:=Aq I.bh e
  obtain ⟨w',hw,Gb⟩:=kB.some_of (v:=v) (o:=(atKey xs k).map (·.2)) (by rw [l];exact rel.val k)
  obtain ⟨p,hp,Sv⟩:=Option.map_eq_some_iff.mp hw
  refine wpAny_getItem_heap (tupleKind_room_in1 hu) (uW I.bh eb) dd hp ?_
  rw [Sv]
  exact h w' _ (I.tok _) Gb
theorem Nb {Q:Value->Shared->Prop} (hu:A.units+1 < cLine) (I:Inv X pins σ H s) (g:nF H a y o) (ry:RelV y u) (h:∀s',Inv X pins σ H s'->Q (.bool (!o.isSome)) s') :
  wpAny (model X.prog X.w) A (compareOp .NotIn u (.ref a)) Q E s:=by
 rcases g with ⟨aE,k,e,ey,l⟩ | ⟨aE,k,b,e,ey,eb,l⟩
 ·subst ey
  obtain ⟨z,hd,vs,rel,dd⟩:=Au I.bh e
  refine wpAny_notIn_of (Aa ry) hd dd.mapOf ?_
  rw [<-(rel.val k).nY,<-l]
  exact h _ (I.tok _)
 ·subst ey
  cases (show u=Value.ref b from ry)
  obtain ⟨z,hd,xs,rel,dd⟩:=Aq I.bh e
  refine wpAny_notIn_heap (tupleKind_room_in1 hu) (uW I.bh eb) hd dd ?_
  have q:=(rel.val k).nY
  rw [Option.isSome_map] at q
  rw [<-q,<-l]
  exact h _ (I.tok _)
theorem Az {h':Heap} {t':Nat} {ob:HO} (I:Inv X pins σ H s) (mu:Wv (H a)) (hs:Heap.SameBut a s.heap h') (he:∃q,h'.get? a=some q) (new:cD X.prog X.w (upd H a ob) h' a ob) :
  Inv X pins σ (upd H a ob) { s with heap:=h',toks:=t' }:=
 I.write (x:=a) (e:=a) mu (.inl rfl) (fun b q hb z=>(hs.2 b hb).trans z) he new
theorem R3 {P:Program} {w:World} {H':Hp} {h':Heap} {aE:List (Key×V)} {vs:List (Key×Value)} (z:aE.length<=sizeLine) (hd:(a == sysModules)=false) (rel:KV aE vs) (dd:h'.DictOf (cM P w) a vs) :
  cD P w H' h' a (.dK aE):=⟨z,hd,vs,rel,dd⟩
theorem Dy {H':Hp} {Q:Unit->Shared->Prop} (hu:A.units+1 < cLine) (I:Inv X pins σ H s) (g:qN H a y v H') (ry:RelV y u) (rv:RelV v r) (h:∀s',Inv X pins σ H' s'->Q () s') :
  wpAny (model X.prog X.w) A (setItem (.ref a) u r) Q E s:=by
 rcases g with ⟨aE,k,e,ey,l,eH⟩ | ⟨aE,k,b,e,ey,eb,l,eH⟩
 ·subst ey eH
  obtain ⟨z,hd,vs,rel,dd⟩:=V5 I.bh e
  have hz:vs.length<=sizeLine:=by rw [<-rel.length];exact z
  have hl:(putK aE k v).length<=sizeLine:=by have:=jJ aE k v;lia
  refine wpAny_setItem_pairs (hsz:=hz) (Aa ry) dd fun h' XJ hs=>h _ ?_
  have he:∃q,h'.get? a=some q:=let ⟨q,_,_,hq,_⟩:=XJ;⟨q,hq⟩
  exact Az I (by rw [e];exact True.intro) hs he (R3 hl hd (rel.put k rv) XJ)
 ·subst ey eH
  cases (show u=Value.ref b from ry)
  obtain ⟨z,hd,xs,rel,dd⟩:=V3 I.bh e
  have hz:xs.length<=sizeLine:=by rw [<-Paired.length rel];exact z
  have hl:(putK aE k v).length<=sizeLine:=by have:=jJ aE k v;lia
  refine wpAny_setItem_heap (hsz:=hz) (tupleKind_room_in1 hu) (uW I.bh eb) dd fun h' XJ hs=>h _ ?_
  obtain ⟨q,es,ep,hq,h2,h3,h4,_,h5⟩:=XJ
  refine Az I (by rw [e];exact True.intro) hs ⟨q,hq⟩ ⟨hl,hd,_,(rel.put k eb rv).keeps fun c ys ec=>?_,q,es,ep,hq,h2,h3,h4,h5⟩
  rw [aq (aY ec e (fun z=>nomatch z))]
  exact ec
end
section
variable {X:Cx} {pins:List (Addr×Obj)} {σ:St} {H:Hp} {s:Shared} {a:Addr} {aE:List (Key×V)} {k:Key} {u:Value} {A:Around} {E:Value->Shared->Prop}
end
def Sd (i:Expr):Prop:=∀ov iv,subscripted i false ov iv=operate [ov,iv] (getItem ov iv)
theorem Ki {prog:Program} {w:World} {A:Around} {E:Value->Shared->Prop} {s:Shared} {env:Env} {value slice:Expr} {pos:Pos} {T id:String} {Q:Value->Shared->Prop}
  (hl:typeLookup (.type T) "__getitem__" = pure (some (.builtin id))) (hs:Sd slice)
  (h:wpAny (model prog w) A (eval value env) (fun o s₁=>wpAny (model prog w) A (eval slice env) (fun i s₂=>s₂.TypeIs o T/\wpAny (model prog w) A (getItem o i) Q E s₂) E s₁) E s) :
  wpAny (model prog w) A (eval (.Subscript value slice pos) env) Q E s:=by
 refine Subscript_ (wpAny_mono h (fun o s₁ h₁=>wpAny_mono h₁ (fun i s₂ h₂=>?_) fun _ _ x=>x) fun _ _ x=>x)
 obtain ⟨hT,h₂⟩:=h₂
 unfold subscriptTail
 refine wpAny_bind ?_
 rw [getitemInPython_of_ne hT.not_modules]
 refine wpAny_bind (wpAny_specialOf hT hl ?_)
 have fin:wpAny (model prog w) A (subscripted slice false o i) (fun r s₃=>wpAny (model prog w) A (letTemporaryGo value o r >>= fun _=>pure r) Q E s₃) E s₂:=by
  rw [hs o i]
  exact wpAny_operating (wpAny_mono h₂ (fun r s₃ h₃=>wpAny_bind (wpAny_letTemporaryGo (wpAny_pure h₃))) fun _ _ x=>x)
 first
  | exact wpAny_pure (wpAny_bind fin)
  | exact wpAny_bind (wpAny_pure (wpAny_bind fin))
  | exact wpAny_bind fin
theorem xc {X:Cx} {pins:List (Addr×Obj)} {σ:St} {H:Hp} {s:Shared} {a:Addr} {y:V} {o:Option V} (I:Inv X pins σ H s) (g:nF H a y o):s.TypeIs (.ref a) "dict":=by
 rcases g with ⟨aE,k,e,_,_⟩ | ⟨aE,k,b,e,_,_,_⟩
 ·obtain ⟨_,_,vs,_,dd⟩:=Au I.bh e
  exact dd.typeIs
 ·obtain ⟨_,_,xs,_,dd⟩:=Aq I.bh e
  exact dd.typeIs
def rV (td ty:TE):TE:=fun σ H Q=>td σ H fun x H1=>ty σ H1 fun y H2=>∃a v,x=.ref a/\nF H2 a y (some v)/\Q v H2
def ua (ty td:TE):TE:=fun σ H Q=>ty σ H fun y H1=>td σ H1 fun x H2=>∃a o,x=.ref a/\nF H2 a y o/\Q (.bl (!o.isSome)) H2
def pY (td ty tv:TE):TS:=fun D σ H=>tv σ H fun v H1=>td σ H1 fun x H2=>ty σ H2 fun y H3=>∃a H4,x=.ref a/\qN H3 a y v H4/\D.nx σ H4
section
variable {X:Cx} {o i e value:Expr} {pos pos' Ff:Pos} {td ty tv:TE}
theorem Li (hu:X.A.units+1 < cLine) (ho:PE X o td) (hi:PE X i ty) (hs:Sd i):PE X (.Subscript o i pos) (rV td ty):=by
 intro pins s σ H Q I h
 refine Ki PySem.F.slot_dict_getitem.lookup hs (cy (ho pins s σ H _ I h) fun u s1 ⟨x,H1,I1,rx,q1⟩=>cy (hi pins s1 σ H1 _ I1 q1) fun iv s2 ⟨y,H2,I2,ry,a,v,ex,g,q2⟩=>?_)
 subst ex
 obtain rfl:u=Value.ref a:=rx
 exact ⟨xc I2 g,Dz hu I2 g ry fun w' s3 I3 Gb=>⟨v,H2,I3,Gb,q2⟩⟩
theorem Cp (hu:X.A.units+1 < cLine) (hi:PE X i ty) (ho:PE X o td):PC X .NotIn i o (ua ty td):=by
 intro pins s σ H Q I h
 refine cy (hi pins s σ H _ I h) fun iv s1 ⟨y,H1,I1,ry,q1⟩=>cy (ho pins s1 σ H1 _ I1 q1) fun u s2 ⟨x,H2,I2,rx,a,ov,ex,g,q2⟩=>?_
 subst ex
 obtain rfl:u=Value.ref a:=rx
 exact Nb hu I2 g ry fun s3 I3=>⟨.bl (!ov.isSome),H2,I3,rfl,q2⟩
theorem K9 (hu:X.A.units+1 < cLine) (ho:PE X o td) (hi:PE X i ty) (hv:PE X value tv) (hs:swapsWith value (some (.Subscript o i pos')) pos.line X.env=pure false) :
  PS X (.Assign [.Subscript o i pos'] value pos) (pY td ty tv):=by
 intro pins s σ H D I h
 refine wpAny_Assign_Subscript (cy (hv pins s σ H _ I h) fun r s1 ⟨v,H1,I1,rv,q1⟩=>cy (ho pins s1 σ H1 _ I1 q1) fun u s2 ⟨x,H2,I2,rx,q2⟩=>cy (hi pins s2 σ H2 _ I2 q2) fun iv s3 ⟨y,H3,I3,ry,a,H4,ex,g,q3⟩=>?_) hs
 subst ex
 obtain rfl:u=Value.ref a:=rx
 exact Dy hu I3 g ry rv fun s4 I4=>⟨σ,H4,I4,q3⟩
end
theorem Jm {P:Program} {w:World} {H:Hp} (h:Heap) (hb:sysModules < h.objs.size):cD P w H (h.push { cls:=.type "dict",data:=.dict #[] }) h.objs.size (.dK []):=
 ⟨Nat.zero_le _,beq_eq_false_iff_ne.mpr (Ne.symm (Nat.ne_of_lt hb)),[],.nil,Heap.DictOf.new h⟩
theorem Jl {P:Program} {w:World} {H:Hp} (h:Heap) (hb:sysModules < h.objs.size):cD P w H (h.push { cls:=.type "dict",data:=.dict #[] }) h.objs.size (.dT []):=
 ⟨Nat.zero_le _,beq_eq_false_iff_ne.mpr (Ne.symm (Nat.ne_of_lt hb)),[],.nil,_,#[],0,Heap.get?_push_size _ rfl,⟨rfl,rfl,rfl⟩,rfl,rfl,List.nodup_nil⟩
def pQ:TE:=fun _ H Q=>∀p,H p=none->Q (.ref p) (upd H p (.dK []))
def pP:TE:=fun _ H Q=>∀p,H p=none->Q (.ref p) (upd H p (.dT []))
section
variable {X:Cx} {pos:Pos}
theorem Hb:PE X (.Dict [] [] pos) pQ:=fun pins s σ H Q I h=>
 wpAny_Dict_empty ⟨.ref s.heap.objs.size,_,I.laid (a:=s.heap.objs.size) (o:=.dK []) (t':=s.toks) (fun _ _ q=>Heap.get?_push_of_some _ q) (Nat.le_refl _) (Jm s.heap I.big),rfl,h _ (I.bh.fresh (Nat.le_refl _))⟩
theorem Ha:PE X (.Dict [] [] pos) pP:=fun pins s σ H Q I h=>
 wpAny_Dict_empty ⟨.ref s.heap.objs.size,_,I.laid (a:=s.heap.objs.size) (o:=.dT []) (t':=s.toks) (fun _ _ q=>Heap.get?_push_of_some _ q) (Nat.le_refl _) (Jl s.heap I.big),rfl,h _ (I.bh.fresh (Nat.le_refl _))⟩
end
def QJ (aE more:List (Key×V)):List (Key×V):=more.foldl (fun acc kv=>putK acc kv.1 kv.2) aE
structure M1 (X:Cx) (o:Expr) (m:Str) (apos:Pos) (e:Expr) (cA:Pos):Prop where
 base:attributeBase o m X.env (eval o X.env)=eval o X.env
 few:((backTo cA (starEach [e] X.env)).all (fun x=>!x.1) && (backToKw cA (keywordEach [] X.env)).all (fun x=>x.1.isSome)
  && decide (([e]:List Expr).length+([]:List Keyword).length+(if ([]:List Keyword).isEmpty then 0 else 1) < 30))=true
 line:(apos.endLine == cA.line)=true
 trees:backTo cA (starEach [e] X.env)=[(false,eval e X.env)]
structure M2 (X:Cx) (o:Expr) (m:Str) (apos:Pos) (e f:Expr) (cA:Pos):Prop where
 base:attributeBase o m X.env (eval o X.env)=eval o X.env
 few:((backTo cA (starEach [e,f] X.env)).all (fun x=>!x.1) && (backToKw cA (keywordEach [] X.env)).all (fun x=>x.1.isSome)
  && decide (([e,f]:List Expr).length+([]:List Keyword).length+(if ([]:List Keyword).isEmpty then 0 else 1) < 30))=true
 line:(apos.endLine == cA.line)=true
 trees:backTo cA (starEach [e,f] X.env)=[(false,eval e X.env),(false,eval f X.env)]
def IsD (H:Hp) (a:Addr):Prop:=(∃aE,Rd H a (.dK aE))\/∃aE,Rd H a (.dT aE)
section
variable {X:Cx} {pins:List (Addr×Obj)} {σ:St} {H:Hp} {s:Shared} {a:Addr} {y d:V} {u r:Value} {o:Option V} {A:Around} {E:Value->Shared->Prop}
end
def Fo (td ty:TE):TE:=fun σ H Q=>td σ H fun x H1=>∃a,x=.ref a/\IsD H1 a/\ty σ H1 fun y H2=>∃aE k v,H2 a=some (.dK aE)/\y=kV k/\dM aE k=some v/\Q v (upd H2 a (.dK (V4 aE k)))
section
variable {X:Cx} {o e f:Expr} {apos cA:Pos} {td ty tx:TE}
end
section
variable {X:Cx} {pins:List (Addr×Obj)} {σ:St} {H:Hp} {s:Shared} {a:Addr} {aE:List (Key×V)} {A:Around} {E:Value->Shared->Prop}
end
section
variable {X:Cx} {pins:List (Addr×Obj)} {σ:St} {H:Hp} {s:Shared} {a:Addr} {y:V} {u:Value} {A:Around} {E:Value->Shared->Prop}
end
end L2
namespace Att
open PySem PySem.W PySem.Calls PyProof.Rows
theorem o6 {P:Params} {h:Heap}:∀(ns:List Int) (vs:List Value),WellAll P h vs (ns.map WData.int)->IntsAre vs ns:=by
 intro ns
 induction ns with
 | nil=>
  intro vs w
  rw [List.map_nil] at w
  cases w
  exact .nil
 | cons n ns ih=>
  intro vs w
  rw [List.map_cons] at w
  cases w with
  | cons a b=>
   cases a
   exact .cons _ _ (ih _ b)
theorem Ca {l:OpenLaw} {n:Nat} (hn:l.most=some n) {P:Params} {h:Heap} {args:List WData} {vals:List Value}
  (Mi:l.row.toRowW.claim.pre args=true) (hwl:WellAll P h vals args) :
  ∃a vs ns,vals=[Value.ref a]/\args=[WData.list (ns.map WData.int)]/\h.get? a=some { cls:=.type "list",data:=.seq vs.toArray }/\IntsAre vs ns/\ns.length<=n:=by
 have hsh:WShape.hasAll [] args [.list .int]=true:=(pre_splitW Mi).1
 have hc:l.pre.holds [] { args:=args }=true:=(pre_splitW Mi).2
 obtain ⟨d,r,rfl,h1,h2⟩:=hasAllW_cons hsh
 obtain rfl:=hasAllW_nil h2
 obtain ⟨xs,rfl,h3⟩:=hasW_list h1
 obtain ⟨ns,rfl⟩:=items_int h3
 have hlen:ns.length<=n:=by
  unfold OpenLaw.pre at hc
  have h4:(WTm.not (.lt (.lit (.int (n:Int))) (.len (.arg 0)))).holds [] { args:=[.list (ns.map .int)] }=true:=by
   have h4:=(holds_andW hc).1
   rw [hn] at h4
   exact h4
  have h5:=condW_of h4 (w_not (w_lt w_lit (w_len_list (w_arg rfl))))
  rw [List.length_map] at h5
  refine Nat.le_of_not_lt fun q=>?_
  have q':(n:Int) < ((ns.length:Nat):Int):=by lia
  first
   | (rw [decide_eq_true q'] at h5;exact absurd h5 (by decide))
   | (simp at h5;lia)
 cases hwl with
 | cons w1 w2=>
  cases w2
  cases w1 with
  | list ho o8=>exact ⟨_,_,ns,rfl,rfl,ho,o6 ns _ o8,hlen⟩
theorem Ck (l:OpenLaw) (args:List WData):l.row.toRowW.claim.post args (.bool true) args=true:=
 postW_of (r:=l.row.toRowW) (X:=(true == true))
  (show WShape.has [] (.bool true) .bool=true by first | rfl | decide | simp [WShape.has,WShape.arms,WShape.armsAll])
  (show (WTm.eq .res (.lit (.bool true))).value [] { args:=args,res:=some (.bool true),after:=args }=some (.bool (true == true)) from w_eq_bool (w_res rfl) w_lit) rfl
theorem xA {l:OpenLaw} {n:Nat} {q:Program} {loose:List Str} {XP:(Str->Option Value)->Heap->Prop} {YP:World->Heap->Prop} {d:DefRec}
  (hn:l.most=some n) (Vp:d.params.defaults=[])
  (call:∀(w:World) (s₀ s₁:Shared) (mg mb:Str->Option Value) (fa:Addr) (o:Obj) (pm cd doc:Value) (a:Addr) (vs:List Value) (ns:List Int),
   Ground q loose [] XP w s₀ mg mb s₁.heap->YP w s₁.heap->
   s₁.heap.get? fa=some o->o.data=.func (docDef d.name d.params d.body d.scope pm cd doc)->s₁.heap.CodeRec cd d.name->mg d.name=some (.ref fa)->
   s₁.heap.get? a=some { cls:=.type "list",data:=.seq vs.toArray }->IntsAre vs ns->ns.length<=n->s₁.gens = #[]->
   codeAny (model l.prog w) callerA (.call (.ref fa) ⟨[.ref a],[]⟩) (fun r s'=>r=.ok (.ret (.bool true))/\OldK s₁.heap s'.heap/\s'.os=s₁.os/\AllBare s'.gens) s₁) :
  WalkO q loose XP YP l.row.toRowW d [] (fun f vs=>PySem.call f vs):=by
 intro w s₀ s₁ mg mb G Y fa o pm cd doc dV kV ho hd rA hD Vd hg args vals as Mi hlay hrd hwl hlo
 obtain rfl:dV=.none:=Dflts.none hD Vp
 obtain rfl:kV=.none:=Dflts.noKw hD
 obtain ⟨a,vs,ns,rfl,rfl,Rt,hints,hlen⟩:=Ca hn Mi hwl
 refine enter_call (codeAny_mono (call w s₀ s₁ mg mb fa o pm cd doc a vs ns G Y ho (fd_plain hd) rA Vd Rt hints hlen hg) fun r s' hq=>?_)
 obtain ⟨rfl,h2,h3,h4⟩:=hq
 exact ⟨.inl ⟨.bool true,.bool true,[],rfl,fun _=>rfl,.bool true,Ck l _,fun _=>⟨List.Pairwise.nil,fun _ hm=>(nomatch hm)⟩⟩,h2,h3,h4⟩
section
variable {prog:Program} {w:World} {A:Around} {E:Value->Shared->Prop} {s:Shared} {K:Frag}
end
end Att
namespace L2
open PySem PySem.Spec PyProof.Rows
theorem nP:∀{vs:List Value} {ns:List Int},IntsAre vs ns->Vals (ns.map V.int) vs
 | _,_,.nil=>.nil
 | _,_,.cons n t h=>.cons ⟨t,rfl⟩ (nP h)
end L2
namespace L2
open PySem PySem.Spec PyProof.Rows
end L2
namespace L2
open PySem PySem.Spec PyProof.Rows
def aP (s:Stmt):Arguments:=match s with
 | .FunctionDef _ a _ _ _ _ _ _ _ _=>a
 | _=>{ posonlyargs:=[],args:=[],vararg:=none,kwonlyargs:=[],kw_defaults:=[],kwarg:=none,defaults:=[] }
def aJ (s:Stmt):List Stmt:=match s with
 | .FunctionDef _ _ b _ _ _ _ _ _ _=>b
 | _=>[]
def ag (s:Stmt):Scope:=match s with
 | .FunctionDef _ _ _ _ _ _ sc _ _ _=>sc
 | _=>{ kind:=.function,names:=[],isGenerator:=false,isCoroutine:=false }
abbrev eL:Br:=fun _ _ _ _ _ _=>False
abbrev E0:XK:=fun _ _ _=>False
theorem bt {X:Cx}:Passes eL X E0:=fun _ _ _ _ _ _ _ h=>h.elim
structure iK (K:PySem.W.Frag) (x qual:Str) (st:Stmt) (f:Addr) (fd:FuncData):Prop where
 ex:∃(oc:Value) (od:Option Addr) (kV doc pm:Value) (an:Option Addr) (cC ct:Value) (z4:Array (Option Value)),
  fd=PySem.W.fnOf x qual (aP st) (aJ st) (ag st) .none kV doc pm an cC ct/\K.lookup f=some ⟨oc,od,.func fd,z4⟩/\PySem.W.codeIn K cC qual=true
 kp:PySem.W.keepIn K (.ref f)=true
section
variable {P:Program} {w:World} {K:PySem.W.Frag} {mg:Str->Option Value} {base:Heap}
theorem iK.ok {x qual:Str} {st:Stmt} {f:Addr} {fd:FuncData} {N ps:List Str} {k:Nat} {sp:Sp} (F:iK K x qual st f fd) (S:aT N ps (ag st)) (len:∀vs H Q E,sp vs H Q E->vs.length=ps.length)
  (dN:∀(cC:Value) (A:Around) (outer:List Env) (s:Shared) (H:Hp) (vs:List V) (Q:VK) (E:XK),bW k (A.deeper (envOfC qual (ag st) s.heap.objs.size f cC))->sp vs H Q E->
   ∃t,vr (eJ eL P w K mg base N qual (ag st) f cC A outer s H E).qP (aJ st) t/\t { nx:=fun _ H'=>Q .non H',rt:=Q } (start N vs) H):bO P w K mg base eL (k+1) f fd ps sp:=by
 obtain ⟨oc,od,kV,doc,pm,an,cC,ct,z4,rfl,lk,rA⟩:=F.ex
 refine Jg lk rA S len fun A outer s H vs Q E hr xF=>?_
 obtain ⟨t,h,q⟩:=dN cC A outer s H vs Q E hr xF
 exact ⟨t,h.qP,q⟩
theorem iK.binds {x qual:Str} {st:Stmt} {f:Addr} {fd:FuncData} {ps:List Str} (F:iK K x qual st f fd)
  (h:∀(kV doc pm:Value) (an:Option Addr) (cC ct:Value) (us:List Value),us.length=ps.length->bindArgs (PySem.W.fnOf x qual (aP st) (aJ st) (ag st) .none kV doc pm an cC ct) ⟨us,[]⟩=pure (ps.zip us)):Binds K fd ps []:=by
 obtain ⟨oc,od,kV,doc,pm,an,cC,ct,z4,rfl,lk,rA⟩:=F.ex
 exact .all (h kV doc pm an cC ct)
theorem bT {x qual:Str} {st:Stmt} {f:Addr} {oc:Value} {od an:Option Addr} {z4:Array (Option Value)} {kV doc pm cC ct:Value} (l:K.lookup f=some ⟨oc,od,.func (PySem.W.fnOf x qual (aP st) (aJ st) (ag st) .none kV doc pm an cC ct),z4⟩)
  (c:PySem.W.codeIn K cC qual=true) (k:PySem.W.keepIn K (.ref f)=true):iK K x qual st f (PySem.W.fnOf x qual (aP st) (aJ st) (ag st) .none kV doc pm an cC ct):=⟨⟨oc,od,kV,doc,pm,an,cC,ct,z4,rfl,l,c⟩,k⟩
end
theorem kL {A:Around} {k:Nat} (hr:bW k A):A.units+1 < cLine:=Nat.lt_of_le_of_lt (Nat.add_le_add_left (by decide:1<=64) _) hr.units
theorem bY {n:Nat} (h:n<=1000):n < sizeLine:=Nat.lt_of_le_of_lt h (by decide)
section
variable {X:Cx}
theorem pv (i:Nat) {x:Str} {pos:Pos} (hN:X.N[i]? = some x:=by rfl) (hv:S9 X.env.scope x:=by first | exact Or.inl rfl | exact Or.inr (Or.inl rfl) | exact Or.inr (Or.inr rfl)) (hd:(x == ("__debug__" : Str))=false:=by decide)
  (rA:(x == ("__classdict__" : Str))=false:=by decide):PE X (.Name x pos) (vI i):=G7 hN hv hd rA
end
def bU (H H':Hp):Prop:=∀b o,H b=some o->H' b=some o
theorem bU.refl (H:Hp):bU H H:=fun _ _ h=>h
theorem bU.trans {H H1 H2:Hp} (a:bU H H1) (b:bU H1 H2):bU H H2:=fun c o h=>b c o (a c o h)
theorem bU.free {H H':Hp} (e:bU H H') {l:Addr} (h:H' l=Option.none):H l=Option.none:=by
 cases q:H l with
 | none=>rfl
 | some o=>
  rw [e l o q] at h
  cases h
section
variable {κ:Type} [DecidableEq κ]
end
end L2
end
section
theorem L2.hide {p:Prop} (h:∀q:Prop,(p->q)->q):p:=h p id
end
section
namespace L2
open PySem PySem.Spec PyProof.Rows
theorem oO {α β:Type} {f:α->β->Sem (ForInStep β)} (g:α->β->β):∀(l:List α) (b:β),(∀x∈l,∀c,f x c=pure (.yield (g x c)))->forIn l b f=pure (l.foldl (fun c x=>g x c) b)
 | [],b,_=>rfl
 | x::l,b,h=>by
  rw [List.forIn_cons,h x List.mem_cons_self,pure_bind]
  exact oO g l (g x b) fun y hy=>h y (List.mem_cons_of_mem _ hy)
def dy (env:Env) (names:List (Str×NameKind)) (cs:List (Str×Addr)):List (Str×Addr):=
 names.foldl (fun c y=>if y.2 == NameKind.free then (y.1,(env.cells.lookup y.1).getD 0)::c else c) cs
theorem iC {scope:Scope} {env:Env} (h:∀y∈scope.names,y.2=.free->∃c,env.cells.lookup y.1=some c):closureFor scope env=pure (dy env scope.names []):=by
 simp only [closureFor]
 rw [oO (fun y c=>if y.2 == NameKind.free then (y.1,(env.cells.lookup y.1).getD 0)::c else c) scope.names [] (fun x hx c=>by
  obtain ⟨n,kind⟩:=x
  dsimp only
  by_cases hk:kind=.free
  ·subst hk
   obtain ⟨a,e⟩:=h (n,.free) hx rfl
   have e':env.cells.lookup n=some a:=e
   have:cellOf env n=pure a:=by unfold cellOf;rw [e']
   rw [this,e']
   rfl
  ·have hb:(kind == NameKind.free)=false:=by simpa using hk
   rw [hb];rfl)]
 simp only [pure_bind]
 rfl
theorem ou {env:Env}:∀(names:List (Str×NameKind)) (cs:List (Str×Addr)),(∀y∈names,y.2=.free->∃c,env.cells.lookup y.1=some c)->(∀p∈cs,env.cells.lookup p.1=some p.2)->
  ∀p∈dy env names cs,env.cells.lookup p.1=some p.2
 | [],cs,_,hc=>hc
 | y::r,cs,h,hc=>by
  unfold dy
  rw [List.foldl_cons]
  refine ou r _ (fun z hz=>h z (List.mem_cons_of_mem _ hz)) fun p hp=>?_
  by_cases hk:y.2=.free
  ·have hb:(y.2 == NameKind.free)=true:=by simpa using hk
   rw [if_pos hb] at hp
   rcases List.mem_cons.mp hp with e | hp
   ·obtain ⟨c,e1⟩:=h y List.mem_cons_self hk
    rw [e];dsimp only;rw [e1];rfl
   ·exact hc p hp
  ·have hb:¬(y.2 == NameKind.free)=true:=by simpa using hk
   rw [if_neg hb] at hp
   exact hc p hp
theorem oQ {env:Env} {p:Str×Addr}:∀(names:List (Str×NameKind)) (cs:List (Str×Addr)),p∈cs->p∈dy env names cs
 | [],_,h=>h
 | y::r,cs,h=>by
  unfold dy
  rw [List.foldl_cons]
  refine oQ r _ ?_
  split
  ·exact List.mem_cons_of_mem _ h
  ·exact h
theorem tM {env:Env} {x:Str}:∀(names:List (Str×NameKind)) (cs:List (Str×Addr)),(x,NameKind.free)∈names->∃c,(x,c)∈dy env names cs
 | y::r,cs,h=>by
  rcases List.mem_cons.mp h with e | h
  ·subst e
   exact ⟨_,by
    unfold dy;rw [List.foldl_cons]
    refine oQ r _ ?_
    rw [if_pos (by rfl)]
    exact List.mem_cons_self⟩
  ·obtain ⟨c,hc⟩:=tM r (if y.2 == NameKind.free then (y.1,(env.cells.lookup y.1).getD 0)::cs else cs) h
   exact ⟨c,by unfold dy;rw [List.foldl_cons];exact hc⟩
theorem kK {f:Str->Option Addr} {x:Str}:∀{cs:List (Str×Addr)},(∀p∈cs,f p.1=some p.2)->(∃c,(x,c)∈cs)->cs.lookup x=f x
 | [],_,⟨_,h⟩=>nomatch h
 | (n,a)::r,hc,⟨c,h⟩=>by
  rw [List.lookup_cons]
  by_cases e:x=n
  ·subst e
   rw [beq_self_eq_true]
   exact (hc (x,a) List.mem_cons_self).symm
  ·have hb:(x == n)=false:=by simpa using e
   rw [hb]
   refine kK (fun p hp=>hc p (List.mem_cons_of_mem _ hp)) ⟨c,?_⟩
   rcases List.mem_cons.mp h with q | q
   ·exact absurd (congrArg Prod.fst q) e
   ·exact q
theorem m5 {env : Env} {y : Str} : ∀ {names : List (Str × NameKind)}, (∀ z ∈ names, z.2 ≠ .cell) →
    ((names.map fun (n, k) => if (k == NameKind.free && env.scope.kind == .function && env.kindOf n == some .cell) then (n, NameKind.cell) else (n, k)).lookup y = some .cell ∨
     (names.map fun (n, k) => if (k == NameKind.free && env.scope.kind == .function && env.kindOf n == some .cell) then (n, NameKind.cell) else (n, k)).lookup y = some .free) → names.lookup y = some .free
  | [], _, h => by rcases h with h | h <;> cases h
  | (n, k) :: r, hc, h => by
    have ih := @m5 env y r fun z hz => hc z (List.mem_cons_of_mem _ hz)
    rw [List.map_cons] at h
    rw [List.lookup_cons]
    by_cases e : y = n
    · subst e
      rw [beq_self_eq_true]
      by_cases hb : (k == NameKind.free && env.scope.kind == .function && env.kindOf y == some .cell) = true
      · have hk : k = .free := by
          rw [Bool.and_eq_true, Bool.and_eq_true] at hb
          simpa using hb.1.1
        rw [hk]
      · dsimp only at h
        rw [if_neg hb, List.lookup_cons, beq_self_eq_true] at h
        dsimp only at h
        rcases h with h | h
        · exact absurd (Option.some.inj h) (hc (y, k) List.mem_cons_self)
        · exact h
    · have hn : (y == n) = false := by simpa using e
      rw [hn]
      dsimp only at h ⊢
      apply ih
      by_cases hb : (k == NameKind.free && env.scope.kind == .function && env.kindOf n == some .cell) = true
      · rw [if_pos hb, List.lookup_cons, hn] at h
        exact h
      · rw [if_neg hb, List.lookup_cons, hn] at h
        exact h
structure CB where
 C:Addr
 cl:List (Str×Addr)
 s2:Shared
 H2:Hp
 ex:List Addr
@[reducible] def jg (X:Cx) (scope:Scope) (N:List Str) (c:CB):Cx:=
 { prog:=X.prog,w:=X.w,K:=X.K,mg:=X.mg,base:=X.base,A:=X.A,N:=N,s₀:=c.s2,H₀:=c.H2,env:=compEnvC scope c.cl c.C X.env,outer:=X.stack,stack:=X.stack,ex:=c.ex,fn:=fun _=>false,calm:=X.calm,pn:=[],xe:=fun _ _=>False }
def bQ (σ:St) (idx:List Nat):St:=idx.map fun i=>(σ[i]?).join
def bP (N:List Str) (idx:List Nat):List Str:=idx.map fun i=>N.getD i ""
def vt (X:Cx) (ifs:List Expr) (t:TT):Prop:=
 ∀(pins:List (Addr×Obj)) (s:Shared) (σ:St) (H:Hp) (Q:Bool->Hp->Prop),Inv X pins σ H s->t σ H Q->
  wpAny (model X.prog X.w) X.A (forIn ifs true fun c r=>if r=true then do let ok <-isTrue c X.env (eval c X.env);pure (ForInStep.yield ok) else pure (ForInStep.yield r)) (TP X pins σ Q) X.xe s
def Fg:TT:=fun _ H Q=>Q true H
theorem G3 {X:Cx}:vt X [] Fg:=fun _ _ _ H _ I h=>wpAny_tests_nil ⟨H,I,h⟩
theorem G0 {X:Cx} {e:Expr} {t:TT} (h:PT X e t):vt X [e] t:=fun pins s σ H Q I q=>wpAny_tests_one (h pins s σ H Q I q)
def pU (wi:TI) (k:Nat) (idx:List Nat) (g:CB->TG) (tt:CB->TT) (te:CB->TE):TE:=fun σ H Q=>wi σ H fun J H1=>∀D,H1 D=none->∃W:Nat->Nat->List V->Hp->Prop,(∃m,W 0 m [] (upd H1 D (.lst [])))/\
 ∀i m ys H',W i m ys H'->(J.stop i H'/\Q (.ref D) H')\/(J.go i H'/\∃N:List V->Hp->Prop,(∀nM qH,N nM qH->∃m',m' < m/\W (i+1) m' nM qH)/\∀(c:CB) (own:St),own.length=k->∀x H2,J.Bv i H' x H2->g c x (own++bQ σ idx) H2 fun σ3 H3=>
  (∃du,du.length=k/\σ3=du++bQ σ idx)/\tt c σ3 H3 fun b H4=>if b=true then te c σ3 H4 fun y H5=>H5 D=some (.lst ys)/\ys.length < sizeLine/\N (ys++[y]) (upd H5 D (.lst (ys++[y]))) else N ys H4)
structure qO (X:Cx) (scope:Scope) (xs:List Str) (idx:List Nat):Prop where
 kind:scope.kind=.function
 g7:∀y∈scope.names,y.2≠.cell
 loc:∀y∈scope.names,y.2=.local->scope.names.lookup y.1=some .local
 free:∀y∈scope.names,y.2=.free->scope.names.lookup y.1=some .free/\(X.env.kindOf y.1=some .cell\/X.env.kindOf y.1=some .free)
 ix:∀i∈idx,∃y,X.N[i]? = some y/\scope.names.lookup y=some .free
section
variable {prog:Program} {w:World} {A:Around} {R:Result->Shared->Prop} {s:Shared}
theorem jR {elt target iter:Expr} {ifs:List Expr} {scope:Scope} {pos:Pos} {it acc:Value} {env:Env} (I:Nat->Shared->Prop)
  (turn:∀n s,I n s->wpAny (model prog w) A (pyNext it) (fun r s₁=>match r with
   | none=>R (.ok .next) s₁
   | some v=>wpAny (model prog w) A (letOwnedTupleGo target it v) (fun _ s₁'=>wpAny (model prog w) A (assign target env v) (fun _ s₂=>
     wpAny (model prog w) A (forIn ifs true fun c r=>if r=true then do let ok <-isTrue c env (eval c env);pure (ForInStep.yield ok) else pure (ForInStep.yield r)) (fun ok s₃=>
      if ok=true then wpAny (model prog w) A (eval elt env) (fun x s₄=>
       wpAny (model prog w) A (call (.builtin "list.append") [acc,x]) (fun _ s₅=>∃m,m < n/\I m s₅) (fun _ _=>False) s₄) (fun _ _=>False) s₃
      else ∃m,m < n/\I m s₃) (fun _ _=>False) s₂) (fun _ _=>False) s₁') (fun _ _=>False) s₁) (fun _ _=>False) s)
  (n:Nat) (h:I n s) :
  codeAny (model prog w) A (.compLoop (.ListComp elt [⟨target,iter,ifs,0⟩] scope pos) 0 it acc env) R s:=by
 refine codeAny_loop rfl I (fun n s hI=>?_) n h
 show wpAny _ A ((compTurn (.ListComp elt [⟨target,iter,ifs,0⟩] scope pos) 0 it acc env).onRaise (fun x=>do noteFrame x env;theTreesLotGoes x)) _ _ s
 refine wpAny_noted ?_
 rw [compTurn_list]
 refine wpAny_bind (wpAny_standAt (wpAny_bind (wpAny_mono (turn n s hI) (fun r s₁ h₁=>?_) fun _ _ h'=>False.elim h')))
 cases r with
 | none=>exact wpAny_pure h₁
 | some v=>
  refine wpAny_bind (wpAny_mono h₁ (fun _ s₁' h₁'=>?_) fun _ _ h'=>False.elim h')
  refine wpAny_bind (wpAny_mono h₁' (fun _ s₂ h₂=>wpAny_bind (wpAny_mono h₂ (fun ok s₃ h₃=>?_) fun _ _ h'=>False.elim h')) fun _ _ h'=>False.elim h')
  cases ok with
  | false=>exact wpAny_pure ⟨rfl,h₃⟩
  | true=>
   exact wpAny_bind (wpAny_bind (wpAny_mono h₃ (fun x s₄ h₄=>wpAny_bind (wpAny_mono h₄ (fun _ s₅ h₅=>wpAny_pure (wpAny_pure ⟨rfl,h₅⟩)) fun _ _ h'=>False.elim h')) fun _ _ h'=>False.elim h'))
end
section
variable {X:Cx} {pins:List (Addr×Obj)} {σ:St} {H:Hp} {s:Shared}
theorem fA.but {P:Program} {w:World} {h h':Heap} {C:Addr} (x:fA P w H h) (hn:H C=none) (hs:Heap.SameBut C h h'):fA P w H h':=fun b ob e=>by
 refine (x b ob e).stay (fun c w' hc q=>(hs.2 c ?_).trans q) (fun _ q=>q) fun _ _ q=>q
 rintro rfl
 rcases hc with rfl | hc
 ·rw [hn] at e;cases e
 ·rw [hn] at hc;cases hc
theorem Un.but {fs ex:List Addr} {H':Hp} {h h1 h2:Heap} {C:Addr} (u:Un fs ex H H' h h1) (hC:h.get? C=none) (hs:Heap.SameBut C h1 h2):Un fs ex H H' h h2:=by
 have ne:∀b o,h.get? b=some o->b≠C:=fun b o e z=>by rw [z,hC] at e;cases e
 exact ⟨fun b o e n h1 h2=>(hs.2 b (ne b o e)).trans (u.keep b o e n h1 h2),fun b o e n h1 h2=>by
   obtain ⟨sl,q⟩:=u.slot b o e n h1 h2
   exact ⟨sl,(hs.2 b (ne b o e)).trans q⟩,u.free,fun b o e h2=>by
   obtain ⟨o',q⟩:=u.there b o e h2
   exact ⟨o',(hs.2 b (ne b o e)).trans q⟩,u.tups,u.frzs,u.tbls⟩
theorem Fu {idx:List Nat} {j:Nat} {v:V} (h:(bQ σ idx)[j]? = some (some v)):∃i,idx[j]? = some i/\σ[i]? = some (some v):=by
 unfold bQ at h
 rw [List.getElem?_map] at h
 cases e:idx[j]? with
 | none=>rw [e] at h;cases h
 | some i=>
  rw [e] at h
  refine ⟨i,rfl,?_⟩
  have h':(σ[i]?).join=some v:=Option.some.inj h
  cases q:σ[i]? with
  | none=>rw [q] at h';cases h'
  | some o=>rw [q] at h';cases o with
   | none=>cases h'
   | some z=>cases h';rfl
theorem Fv {N:List Str} {idx:List Nat} {j i:Nat} {y:Str} (h:idx[j]? = some i) (e:N[i]? = some y):(bP N idx)[j]? = some y:=by
 unfold bP
 rw [List.getElem?_map,h]
 show some (N.getD i "")=some y
 rw [List.getD_eq_getElem?_getD,e];rfl
theorem Inv.block {scope:Scope} {xs:List Str} {idx:List Nat} {fp:List Addr} {C:Addr} {h':Heap} {t':Nat} {H1:Hp} {D:Addr} {m0:Str->Option Value} (I:Inv X pins σ H s) (S:qO X scope xs idx)
  (Xi:∀b∈fp,vx X pins H b) (Mv:∀b∈fp,∃o,s.heap.get? b=some o) (hC:s.heap.objs.size<=C) (Xx:D≠C) (hD:s.heap.objs.size<=D) (hn:h'.Ns C m0) (hk:∀b o,s.heap.get? b=some o->h'.get? b=some o)
  (hl:∃n,h'.get? D=some { cls:=.type "list",data:=.seq #[] n }) :
  Inv (jg X scope (xs++bP X.N idx) ⟨C,dy X.env scope.names [],s,H,fp⟩) [] (List.replicate xs.length none++bQ σ idx) (upd H D (.lst [])) { s with heap:=h',toks:=t' }:=by
 have wX:∀y∈scope.names,y.2=.free->∃c,X.env.cells.lookup y.1=some c:=fun y hy e=>I.ok.has y.1 (S.free y hy e).2
 have o8:=ou (env:=X.env) scope.names [] wX (fun p hp=>(nomatch hp))
 have kM:∀y c,(dy X.env scope.names []).lookup y=some c->X.env.cells.lookup y=some c:=fun y c e=>o8 (y,c) (PySem.mem_of_lookup e)
 have Vm:∀y,scope.names.lookup y=some .free->(dy X.env scope.names []).lookup y=X.env.cells.lookup y:=fun y e=>kK (f:=fun n=>X.env.cells.lookup n) o8 (tM scope.names [] (PySem.mem_of_lookup e))
 have lt:∀b,(∃o,s.heap.get? b=some o)->b < s.heap.objs.size:=fun b ⟨o,e⟩=>Heap.lt_size e
 have hDn:H D=none:=I.bh.fresh hD
 refine ⟨⟨I.ok.mod,S.kind,I.ok.glob,I.ok.blt,hC,fun x y c h1 h2=>I.ok.inj x y c (kM x c h1) (kM y c h2),fun y hy=>?_,fun _ _ e=>(nomatch e),I.ok.hd,I.ok.frames,.inl rfl,fun b hb=>⟨?_,fun x c e=>(Xi b hb).2.2.2.2.1 x c (kM x c e)⟩,I.bs,Nat.le_trans I.ok.DR I.sz,fun b o e hb=>?_,fun b hb z=>?_,I.stack,I.ug⟩,
  rfl,I.bare,?_,⟨m0,hn,fun i y v e1 e2 hv=>?_⟩,fun x c e=>?_,?_,fun x c e=>?_,fun p hp=>(nomatch hp),?_,?_⟩
 ·
  have q:scope.names.lookup y=some .free:=m5 S.g7 hy
  have q2:=PySem.mem_of_lookup q
  obtain ⟨c,e⟩:=wX _ q2 rfl
  exact ⟨c,(Vm y q).trans e⟩
 ·
  exact Nat.ne_of_lt (Nat.lt_of_lt_of_le (lt b (Mv b hb)) hC)
 ·
  rcases (Xi b hb).2.2.2.1 with z | z
  ·exact I.ok.Ht b o e z
  ·exact absurd (Nat.lt_of_lt_of_le (Heap.lt_size e) (Nat.le_trans I.ok.DR z)) (Nat.lt_irrefl _)
 ·
  rcases List.mem_cons.mp (I.nR b z) with q | q
  ·exact (Xi b hb).2.1 q
  ·exact (Xi b hb).2.2.1 q
 ·
  exact Un.laid hk hD hDn
 ·
  by_cases hi:i < xs.length
  ·rw [List.getElem?_append_left (by simpa using hi)] at e2
   rw [List.getElem?_replicate] at e2
   split at e2 <;> cases e2
  ·have Iq:xs.length<=i:=Nat.le_of_not_lt hi
   rw [List.getElem?_append_right (by simpa using Iq),List.length_replicate] at e2
   obtain ⟨i0,ei,es⟩:=Fu e2
   obtain ⟨y',ey,ef⟩:=S.ix i0 (List.mem_of_getElem? ei)
   have Ap:(xs++bP X.N idx)[i]? = some y:=e1
   rw [List.getElem?_append_right Iq,Fv ei ey] at Ap
   cases Ap
   obtain ⟨m,hm,hl'⟩:=I.loc
   have ef2:=S.free (y,.free) (PySem.mem_of_lookup ef) rfl
   have X1:S9 X.env.scope y:=.inr ef2.2
   obtain ⟨u,ru,lk⟩:=hl' i0 y v ey es X1
   refine ⟨u,ru,?_⟩
   rcases lk with ⟨k1,_⟩ | ⟨_,c,ec,hc⟩
   ·rcases ef2.2 with z | z
    ·have z':X.env.kindOf y=some .cell:=z
     rw [k1] at z';cases z'
    ·have z':X.env.kindOf y=some .free:=z
     rw [k1] at z';cases z'
   ·refine .inr ⟨?_,c,(Vm y ef).trans ec,hc.keeps hk⟩
    rcases hv with z | z | z
    ·exfalso
     have z':(relabel scope X.env).names.lookup y=some .local:=z
     have:∀(names:List (Str×NameKind)),names.lookup y=some .free->(names.map fun (n,k)=>if (k == NameKind.free && X.env.scope.kind == .function && X.env.kindOf n == some .cell) then (n,NameKind.cell) else (n,k)).lookup y≠some .local:=by
      intro names
      induction names with
      | nil=>intro h;cases h
      | cons p r ih=>
       obtain ⟨n,k⟩:=p
       intro h
       rw [List.map_cons]
       by_cases e:y=n
       ·subst e
        rw [List.lookup_cons,beq_self_eq_true] at h
        cases h
        dsimp only
        split
        ·rw [List.lookup_cons,beq_self_eq_true];exact fun q=>nomatch q
        ·rw [List.lookup_cons,beq_self_eq_true];exact fun q=>nomatch q
       ·have hn:(y == n)=false:=by simpa using e
        rw [List.lookup_cons,hn] at h
        dsimp only
        split
        ·rw [List.lookup_cons,hn];exact ih h
        ·rw [List.lookup_cons,hn];exact ih h
     exact this scope.names ef z'
    ·exact .inl z
    ·exact .inr z
 ·
  obtain ⟨v,q⟩:=I.cell x c (kM x c e)
  exact ⟨v,q.keeps hk⟩
 ·
  show upd H D (.lst []) C=none
  rw [aq (Ne.symm Xx)]
  exact I.bh.fresh hC
 ·
  have e':=kM x c e
  obtain ⟨v,q⟩:=I.cell x c e'
  rw [aq (Nat.ne_of_lt (Nat.lt_of_lt_of_le q.lt hD))]
  exact I.iz x c e'
 ·
  obtain ⟨n,e⟩:=hl
  exact I.bh.laid hk hD ⟨Nat.zero_le _,[],n,.nil,e⟩
 ·show (List.replicate xs.length none++bQ σ idx).length=(xs++bP X.N idx).length
  rw [List.length_append,List.length_append,List.length_replicate]
  unfold bQ bP
  rw [List.length_map,List.length_map]
end
section
variable {X:Cx} {elt target iter:Expr} {ifs:List Expr} {scope:Scope} {pos:Pos} {xs:List Str} {idx:List Nat} {wi:TI} {g:CB->TG} {tt:CB->TT} {te:CB->TE}
theorem xh {pins:List (Addr×Obj)} {σ:St} {H2:Hp} {s2:Shared} {fp:List Addr} {it:Addr} {tn:Nat->Heap->Prop} {J:It} {Q:V->Hp->Prop} {RR:Value->Addr->Result->Shared->Prop} {E:Value->Shared->Prop} (hc:X.calm=true) (S:qO X scope xs idx)
  (hg:∀c,PG (jg X scope (xs++bP X.N idx) c) target (g c)) (ht:∀c,vt (jg X scope (xs++bP X.N idx) c) ifs (tt c)) (he:∀c,PE (jg X scope (xs++bP X.N idx) c) elt (te c))
  (I2:Inv X pins σ H2 s2) (T:Turn X.prog X.w X.K target J fp it tn) (Eg:tn 0 s2.heap) (f2:∀b∈fp,vx X pins H2 b)
  (h:∀D,H2 D=none->∃W:Nat->Nat->List V->Hp->Prop,(∃m,W 0 m [] (upd H2 D (.lst [])))/\
   ∀i m ys H',W i m ys H'->(J.stop i H'/\Q (.ref D) H')\/(J.go i H'/\∃N:List V->Hp->Prop,(∀nM qH,N nM qH->∃m',m' < m/\W (i+1) m' nM qH)/\∀(c:CB) (own:St),own.length=xs.length->∀x H2,J.Bv i H' x H2->g c x (own++bQ σ idx) H2 fun σ3 H3=>
    (∃du,du.length=xs.length/\σ3=du++bQ σ idx)/\tt c σ3 H3 fun b H4=>if b=true then te c σ3 H4 fun y H5=>H5 D=some (.lst ys)/\ys.length < sizeLine/\N (ys++[y]) (upd H5 D (.lst (ys++[y]))) else N ys H4))
  (hRR:∀D C σ' H' s',s2.heap.objs.size<=C->Inv (jg X scope (xs++bP X.N idx) ⟨C,dy X.env scope.names [],s2,H2,fp⟩) [] σ' H' s'->Q (.ref D) H'->RR (.ref D) C (.ok .next) s') :
  wpAny (model X.prog X.w) X.A (newList []) (fun acc s₃=>wpAny (model X.prog X.w) X.A (newFunctionEnv scope X.env.globals (dy X.env scope.names []) [] X.env.qual none .none (some X.env)) (fun V' s₄=>
   codeAny (model X.prog X.w) X.A (.compStart (.ListComp elt [⟨target,iter,ifs,0⟩] scope pos) 0 (.ref it) acc { V' with scope:=relabel scope X.env }) (RR acc V'.locals) s₄) E s₃) E s2:=by
 refine wpAny_newObj_type (wpAny_newFunctionEnv S.g7 (by intro y hy;simp at hy) (fun h₁ Ru Mh=>?_) S.kind)
 dsimp only at Ru Mh ⊢
 generalize hH2:s2.heap.push { cls:=.type "list",dict:=none,data:=.seq ([]:List Value).toArray }=HH at Ru Mh ⊢
 have hCs:HH.objs.size=s2.heap.objs.size+1:=by rw [<-hH2,Heap.size_push]
 have Xx:s2.heap.objs.size≠HH.objs.size:=by rw [hCs];exact Nat.ne_of_lt (Nat.lt_succ_self _)
 have RP:s2.heap.objs.size<=HH.objs.size:=by rw [hCs];exact Nat.le_succ _
 have old:∀b o,s2.heap.get? b=some o->h₁.get? b=some o:=fun b o e=>Mh.extBut b o (by rw [hCs];exact Nat.ne_of_lt (Nat.lt_succ_of_lt (Heap.lt_size e))) (Heap.get?_push_of_some _ (hH2 ▸ Heap.get?_push_of_some _ e))
 have wZ:∃n,h₁.get? s2.heap.objs.size=some { cls:=.type "list",data:=.seq #[] n }:=⟨_,Mh.extBut _ _ Xx (Heap.get?_push_of_some _ (hH2 ▸ Heap.get?_push_size _ rfl))⟩
 have NX:tn 0 h₁:=T.keep _ _ _ Eg fun b _ o e=>old b o e
 obtain ⟨W,⟨m0,w0⟩,turn⟩:=h s2.heap.objs.size I2.fresh
 have loop:∀s₃:Shared,s₃={ s2 with heap:=h₁,toks:=s2.toks+([]:List (Str×Value)).length }->
   codeAny (model X.prog X.w) X.A (.compLoop (.ListComp elt [⟨target,iter,ifs,0⟩] scope pos) 0 (.ref it) (.ref s2.heap.objs.size) (compEnvC scope (dy X.env scope.names []) HH.objs.size X.env)) (RR (.ref s2.heap.objs.size) HH.objs.size) s₃:=by
  rintro s₃ rfl
  have I3:=I2.block (t':=s2.toks+([]:List (Str×Value)).length) (H1:=H2) S f2 (fun b hb=>let ⟨o,e,_⟩:=T.obj _ _ Eg b hb;⟨o,e⟩) RP Xx (Nat.le_refl _) Ru old wZ
  generalize hY:jg X scope (xs++bP X.N idx) ⟨HH.objs.size,dy X.env scope.names [],s2,H2,fp⟩=Y at I3
  have eY:Y=jg X scope (xs++bP X.N idx) ⟨HH.objs.size,dy X.env scope.names [],s2,H2,fp⟩:=hY.symm
  have nof:∀b∈fp,b∉Y.fs:=fun b hb z=>by
   rw [eY] at z
   rcases List.mem_cons.mp (I2.nR b z) with q | q
   ·exact (f2 b hb).2.1 q
   ·exact (f2 b hb).2.2.1 q
  have stat:∀{H':Hp},(∀b∈fp,H' b=none)->∀b∈fp,vx Y [] H' b:=fun {H'} hn b hb=>by
   have lt:b < s2.heap.objs.size:=let ⟨o,e,_⟩:=T.obj _ _ Eg b hb;Heap.lt_size e
   refine ⟨hn b hb,?_,nof b hb,.inl (by rw [eY];exact hb),fun x c e=>?_,fun p hp=>?_⟩
   ·rw [eY];exact Nat.ne_of_lt (Nat.lt_of_lt_of_le lt RP)
   ·rw [eY] at e
    have o8:=ou (env:=X.env) scope.names [] (fun y hy e=>I2.ok.has y.1 (S.free y hy e).2) (fun p hp=>nomatch hp)
    exact (f2 b hb).2.2.2.2.1 x c (o8 (x,c) (PySem.mem_of_lookup e))
   ·rw [eY] at hp;exact nomatch hp
  have T':Turn Y.prog Y.w Y.K target J fp it tn:=by rw [eY];exact T
  have hg':PG Y target (g ⟨HH.objs.size,dy X.env scope.names [],s2,H2,fp⟩):=by rw [eY];exact hg _
  have Rg:vt Y ifs (tt ⟨HH.objs.size,dy X.env scope.names [],s2,H2,fp⟩):=by rw [eY];exact ht _
  have he':PE Y elt (te ⟨HH.objs.size,dy X.env scope.names [],s2,H2,fp⟩):=by rw [eY];exact he _
  have hcY:Y.calm=true:=by rw [eY];exact hc
  have eA:Y.A=X.A:=by rw [eY]
  have eP:Y.prog=X.prog:=by rw [eY]
  have eW:Y.w=X.w:=by rw [eY]
  have eE:Y.env=compEnvC scope (dy X.env scope.names []) HH.objs.size X.env:=by rw [eY]
  have eX:Y.xe=fun _ _=>False:=by rw [eY]
  have fin:∀σ' H' s',Inv Y [] σ' H' s'->Q (.ref s2.heap.objs.size) H'->RR (.ref s2.heap.objs.size) HH.objs.size (.ok .next) s':=fun σ' H' s' I' q=>hRR _ _ σ' H' s' RP (by rw [<-eY];exact I') q
  rw [<-eE,<-eA,<-eP,<-eW]
  have fr0:∀b∈fp,(upd H2 s2.heap.objs.size (.lst [])) b=none:=fun b hb=>by
   have lt:b < s2.heap.objs.size:=let ⟨o,e,_⟩:=T.obj _ _ Eg b hb;Heap.lt_size e
   rw [aq (Nat.ne_of_lt lt)];exact (f2 b hb).1
  refine jR (fun n s'=>∃i ys own H',own.length=xs.length/\Inv Y [] (own++bQ σ idx) H' s'/\tn i s'.heap/\(∀b∈fp,H' b=none)/\W i n ys H') ?_ m0
   ⟨0,[],_,_,List.length_replicate,I3,NX,fr0,w0⟩
  rintro n s4 ⟨i,ys,own,H4,aAB,I4,st4,fr4,w4⟩
  rcases turn i n ys H4 w4 with ⟨stop,qn⟩ | ⟨go,NN,hNN,step⟩
  ·exact cy (T'.done Y rfl rfl rfl hcY i [] s4 _ H4 _ I4 (stat fr4) st4 stop) fun r s5 ⟨hr,I5⟩=>by subst hr;exact fin _ _ _ I5 qn
  ·refine cy (T'.item Y rfl rfl rfl hcY i [] s4 _ H4 _ I4 (stat fr4) st4 go) fun r s5 ⟨u,hr,h5⟩=>?_
   subst hr
   refine cy h5 fun _ s6 ⟨x,H6,I6,r6,y6,Yb,fr6⟩=>?_
   have I6':=I6.pinned (stat fr6) (T'.obj _ _ Yb)
   have step':=step ⟨HH.objs.size,dy X.env scope.names [],s2,H2,fp⟩ own aAB x H6 y6
   refine wpAny_mono (hg' _ s6 _ H6 x u _ I6' r6 step') (fun _ s7 ⟨σ7,H7,I7,q7⟩=>?_) (fun _ _ z=>by rw [eX] at z;exact z)
   obtain ⟨⟨Ze,ho7,e7⟩,q7⟩:=q7
   refine wpAny_mono (Rg _ s7 σ7 H7 _ I7 q7) (fun b s8 ⟨H8,I8,q8⟩=>?_) (fun _ _ z=>by rw [eX] at z;exact z)
   have again:∀{H9:Hp} {s9:Shared} {nM:List V},Inv Y ([]++p7 fp s6.heap) σ7 H9 s9->NN nM H9->∃m,m < n/\∃i ys own H',own.length=xs.length/\Inv Y [] (own++bQ σ idx) H' s9/\tn i s9.heap/\(∀b∈fp,H' b=none)/\W i m ys H':=fun {H9 s9 nM} I9 n9=>by
    obtain ⟨m',hm,w9⟩:=hNN _ _ n9
    rw [e7] at I9
    refine ⟨m',hm,i+1,nM,Ze,H9,ho7,I9.mQ,T'.keep _ _ _ Yb fun b hb o e=>(I9.pin (b,o) (List.mem_append_right _ (List.mem_append_right _ (iU hb e)))).1,fun b hb=>?_,w9⟩
    obtain ⟨o,e,d⟩:=T'.obj _ _ Yb b hb
    exact (I9.pin (b,o) (List.mem_append_right _ (List.mem_append_right _ (iU hb e)))).2.1
   cases b with
   | false=>exact again I8 q8
   | true=>
    refine wpAny_mono (he' _ s8 σ7 H8 _ I8 q8) (fun u9 s9 ⟨y,H9,I9,r9,hy,hz,q9⟩=>?_) (fun _ _ z=>by rw [eX] at z;exact z)
    have ap:=fh (X:=Y) _ s9 σ7 H9 (.ref s2.heap.objs.size) [y] (.ref s2.heap.objs.size) [u9] (fun _ Nz=>NN (ys++[y]) Nz) I9 rfl (.cons r9 .nil) ⟨_,ys,y,rfl,rfl,hy,hz,q9⟩
    refine wpAny_mono ap (fun _ xY ⟨_,Nz,I10,_,q10⟩=>again I10 q10) (fun _ _ z=>by rw [eX] at z;exact z)
 exact codeAny_compStart_list (loop _ rfl) (T.self _ 0 _ _ _ NX (loop _ rfl))
theorem Lj (hc:X.calm=true) (S:qO X scope xs idx) (hi:PI X target iter wi)
  (hg:∀c,PG (jg X scope (xs++bP X.N idx) c) target (g c)) (ht:∀c,vt (jg X scope (xs++bP X.N idx) c) ifs (tt c)) (he:∀c,PE (jg X scope (xs++bP X.N idx) c) elt (te c))
  (hs:∀x,foldedSetIterable iter X.env x=pure x:=by intro _;rfl):PE X (.ListComp elt [⟨target,iter,ifs,0⟩] scope pos) (pU wi xs.length idx g tt te):=by
 intro pins s σ H Q I h
 rw [eval_ListComp]
 have Iv:closureFor scope X.env=pure (dy X.env scope.names []):=iC fun y hy e=>I.ok.has y.1 (S.free y hy e).2
 refine wpAny_comprehension_free (use:=none) rfl hs Iv S.kind S.loc (cy (hi pins s σ H _ I h) fun xv s₁ h₁=>cy h₁ fun Xa s₂ h₂=>?_)
 obtain ⟨it,fp,tn,J,H2,e,I2,T,Eg,f2,hW⟩:=h₂
 subst e
 refine xh (Q:=Q) (RR:=fun acc C=>compPost (model X.prog X.w) X.A X.xe none (EP X pins σ Q) acc C) hc S hg ht he I2 T Eg f2 hW ?_
 intro D C σ' H' s' hC I' q
 obtain ⟨m',hn,_⟩:=I'.loc
 refine ⟨m',hn,fun h'' U4=>?_⟩
 obtain ⟨hh,gg,d,t,os⟩:=s'
 obtain rfl:os=s₂.os:=I'.os
 have Cn:s₂.heap.get? C=none:=Heap.get?_none_of_le hC
 refine ⟨.ref D,H',I2.call (s:=s₂) (h':=h'') (g':=gg) (d':=d) (t':=t) (ch:=fp) (I'.base.but Cn U4) (I'.bh.but I'.free U4) I'.bare (fun b hb=>?_),rfl,q⟩
 obtain ⟨_,f1,_,f3,f4,f5⟩:=f2 b hb
 exact ⟨f3,f1,f4,f5⟩
end
theorem yV {lo:Int} {n k:Nat} {idx:List Nat} {g:CB->TG} {tt:CB->TT} {te:CB->TE} {σ:St} {Q:VK} {H1:Hp} {D:Addr} (Pv:Nat->List V->Hp->Prop) (h0:Pv 0 [] (upd H1 D (.lst [])))
  (hs:∀i ys H,i < n->Pv i ys H->∀(c:CB) (own:St),own.length=k->g c (.int (lo+i)) (own++bQ σ idx) H fun σ3 H3=>
   (∃du,du.length=k/\σ3=du++bQ σ idx)/\tt c σ3 H3 fun b H4=>if b=true then te c σ3 H4 fun y H5=>H5 D=some (.lst ys)/\ys.length < sizeLine/\Pv (i+1) (ys++[y]) (upd H5 D (.lst (ys++[y]))) else Pv (i+1) ys H4)
  (hd:∀ys H,Pv n ys H->Q (.ref D) H) :
  ∃W:Nat->Nat->List V->Hp->Prop,(∃m,W 0 m [] (upd H1 D (.lst [])))/\
   ∀i m ys H',W i m ys H'->((zh lo n).stop i H'/\Q (.ref D) H')\/((zh lo n).go i H'/\∃N:List V->Hp->Prop,(∀nM qH,N nM qH->∃m',m' < m/\W (i+1) m' nM qH)/\∀(c:CB) (own:St),own.length=k->∀x H2,(zh lo n).Bv i H' x H2->g c x (own++bQ σ idx) H2 fun σ3 H3=>
    (∃du,du.length=k/\σ3=du++bQ σ idx)/\tt c σ3 H3 fun b H4=>if b=true then te c σ3 H4 fun y H5=>H5 D=some (.lst ys)/\ys.length < sizeLine/\N (ys++[y]) (upd H5 D (.lst (ys++[y]))) else N ys H4):=by
 refine ⟨fun i m ys H=>m=n - i/\i<=n/\Pv i ys H,⟨n,by simp,Nat.zero_le _,h0⟩,?_⟩
 rintro i m ys H ⟨rfl,hi,p⟩
 by_cases gi:i < n
 ·refine .inr ⟨gi,Pv (i+1),fun nM H' p'=>⟨n - (i+1),by omega,rfl,gi,p'⟩,fun c own ho x H' y=>?_⟩
  obtain ⟨e,y⟩:=y
  subst e y
  exact hs i ys _ gi p c own ho
 ·have e:i=n:=by omega
  subst e
  exact .inl ⟨Nat.le_refl _,hd ys H p⟩
theorem DK {K:PySem.W.Frag} {a:Addr} {zs:List V} {k:Nat} {idx:List Nat} {g:CB->TG} {tt:CB->TT} {te:CB->TE} {σ:St} {Q:VK} {H1:Hp} {D:Addr} (Pv:Nat->List V->Hp->Prop) (h0:Pv 0 [] (upd H1 D (.lst [])))
  (hl:∀i ys H,i<=zs.length->Pv i ys H->mG K H a zs)
  (hs:∀i x ys H,zs[i]? = some x->Pv i ys H->∀(c:CB) (own:St),own.length=k->g c x (own++bQ σ idx) H fun σ3 H3=>
   (∃du,du.length=k/\σ3=du++bQ σ idx)/\tt c σ3 H3 fun b H4=>if b=true then te c σ3 H4 fun y H5=>H5 D=some (.lst ys)/\ys.length < sizeLine/\Pv (i+1) (ys++[y]) (upd H5 D (.lst (ys++[y]))) else Pv (i+1) ys H4)
  (hd:∀ys H,Pv zs.length ys H->Q (.ref D) H) :
  ∃W:Nat->Nat->List V->Hp->Prop,(∃m,W 0 m [] (upd H1 D (.lst [])))/\
   ∀i m ys H',W i m ys H'->((zi K a).stop i H'/\Q (.ref D) H')\/((zi K a).go i H'/\∃N:List V->Hp->Prop,(∀nM qH,N nM qH->∃m',m' < m/\W (i+1) m' nM qH)/\∀(c:CB) (own:St),own.length=k->∀x H2,(zi K a).Bv i H' x H2->g c x (own++bQ σ idx) H2 fun σ3 H3=>
    (∃du,du.length=k/\σ3=du++bQ σ idx)/\tt c σ3 H3 fun b H4=>if b=true then te c σ3 H4 fun y H5=>H5 D=some (.lst ys)/\ys.length < sizeLine/\N (ys++[y]) (upd H5 D (.lst (ys++[y]))) else N ys H4):=by
 refine ⟨fun i m ys H=>m=zs.length - i/\i<=zs.length/\Pv i ys H,⟨zs.length,by simp,Nat.zero_le _,h0⟩,?_⟩
 rintro i m ys H ⟨rfl,hi,p⟩
 have q:=hl i ys H hi p
 by_cases gi:i < zs.length
 ·refine .inr ⟨⟨zs,zs[i],q,by simp [gi]⟩,Pv (i+1),fun nM H' p'=>⟨zs.length - (i+1),by omega,rfl,gi,p'⟩,fun c own ho x H' y=>?_⟩
  obtain ⟨e,y⟩:=y
  subst e
  exact hs i x ys _ (y zs q) p c own ho
 ·have e:i=zs.length:=by omega
  subst e
  exact .inl ⟨⟨zs,q,Nat.le_refl _⟩,hd ys H p⟩
theorem Qv {own:St} {k:St} {x:V} (h:own.length=1):(own++k).set 0 (some x)=[some x]++k:=by
 match own,h with
 | [_],_=>rfl
theorem xj {lo:Int} {n:Nat} {idx:List Nat} {tt:CB->TT} {te:CB->TE} {σ:St} {Q:VK} {H1:Hp} {D:Addr} (Pv:Nat->List V->Hp->Prop) (h0:Pv 0 [] (upd H1 D (.lst [])))
  (hs:∀i ys H,i < n->Pv i ys H->∀(c:CB),tt c (some (.int (lo+i))::bQ σ idx) H fun b H4=>if b=true then te c (some (.int (lo+i))::bQ σ idx) H4 fun y H5=>H5 D=some (.lst ys)/\ys.length < sizeLine/\Pv (i+1) (ys++[y]) (upd H5 D (.lst (ys++[y]))) else Pv (i+1) ys H4)
  (hd:∀ys H,Pv n ys H->Q (.ref D) H) :
  ∃W:Nat->Nat->List V->Hp->Prop,(∃m,W 0 m [] (upd H1 D (.lst [])))/\
   ∀i m ys H',W i m ys H'->((zh lo n).stop i H'/\Q (.ref D) H')\/((zh lo n).go i H'/\∃N:List V->Hp->Prop,(∀nM qH,N nM qH->∃m',m' < m/\W (i+1) m' nM qH)/\∀(c:CB) (own:St),own.length=1->∀x H2,(zh lo n).Bv i H' x H2->cV 0 x (own++bQ σ idx) H2 fun σ3 H3=>
    (∃du,du.length=1/\σ3=du++bQ σ idx)/\tt c σ3 H3 fun b H4=>if b=true then te c σ3 H4 fun y H5=>H5 D=some (.lst ys)/\ys.length < sizeLine/\N (ys++[y]) (upd H5 D (.lst (ys++[y]))) else N ys H4):=
 yV (g:=fun _=>cV 0) Pv h0 (fun i ys H hi p c own ho=>by
  show (∃du,du.length=1/\(own++bQ σ idx).set 0 _=du++bQ σ idx)/\tt c ((own++bQ σ idx).set 0 _) H _
  rw [Qv ho]
  exact ⟨⟨[_],rfl,rfl⟩,hs i ys H hi p c⟩) hd
theorem yW {K:PySem.W.Frag} {a:Addr} {zs:List V} {idx:List Nat} {tt:CB->TT} {te:CB->TE} {σ:St} {Q:VK} {H1:Hp} {D:Addr} (Pv:Nat->List V->Hp->Prop) (h0:Pv 0 [] (upd H1 D (.lst [])))
  (hl:∀i ys H,i<=zs.length->Pv i ys H->mG K H a zs)
  (hs:∀i x ys H,zs[i]? = some x->Pv i ys H->∀(c:CB),tt c (some x::bQ σ idx) H fun b H4=>if b=true then te c (some x::bQ σ idx) H4 fun y H5=>H5 D=some (.lst ys)/\ys.length < sizeLine/\Pv (i+1) (ys++[y]) (upd H5 D (.lst (ys++[y]))) else Pv (i+1) ys H4)
  (hd:∀ys H,Pv zs.length ys H->Q (.ref D) H) :
  ∃W:Nat->Nat->List V->Hp->Prop,(∃m,W 0 m [] (upd H1 D (.lst [])))/\
   ∀i m ys H',W i m ys H'->((zi K a).stop i H'/\Q (.ref D) H')\/((zi K a).go i H'/\∃N:List V->Hp->Prop,(∀nM qH,N nM qH->∃m',m' < m/\W (i+1) m' nM qH)/\∀(c:CB) (own:St),own.length=1->∀x H2,(zi K a).Bv i H' x H2->cV 0 x (own++bQ σ idx) H2 fun σ3 H3=>
    (∃du,du.length=1/\σ3=du++bQ σ idx)/\tt c σ3 H3 fun b H4=>if b=true then te c σ3 H4 fun y H5=>H5 D=some (.lst ys)/\ys.length < sizeLine/\N (ys++[y]) (upd H5 D (.lst (ys++[y]))) else N ys H4):=
 DK (g:=fun _=>cV 0) Pv h0 hl (fun i x ys H hi p c own ho=>by
  show (∃du,du.length=1/\(own++bQ σ idx).set 0 _=du++bQ σ idx)/\tt c ((own++bQ σ idx).set 0 _) H _
  rw [Qv ho]
  exact ⟨⟨[_],rfl,rfl⟩,hs i x ys H hi p c⟩) hd
end L2
end
section
namespace L2
open PySem PySem.Spec PyProof.Rows
def aA7 (z:Str) (lo hi:Option Int):Str:=⟨((z.cps.toList.drop (HT.cJ z.length 0 lo)).take (HT.cJ z.length z.length hi - HT.cJ z.length 0 lo)).toArray⟩
theorem iO {n:Nat} (h:n<=1000):n<=sizeLine:=Nat.le_of_lt (Nat.lt_of_le_of_lt h (by decide))
section
variable {X:Cx}
def P8:V->Option Int->Option Int->Hp->VK->Prop:=fun x lo hi H Q=>∃z,x=.str z/\z.length<=sizeLine/\Q (.str (aA7 z lo hi)) H
def Pw (K:PySem.W.Frag) (te ts:TE):TE:=fun σ H Q=>te σ H fun x H1=>ts σ H1 fun y H2=>∃a xs,x=.ref a/\y=.int (-1)/\mG K H2 a xs/\∀p,H2 p=none->Q (.ref p) (upd H2 p (.lst xs.reverse))
theorem Jz (c:Value):dA X (.builtin "isinstance") (fun vs H Q=>∃x t b n,vs=[x,.ty n]/\nv X.K H x t/\PySem.W.kitOne X.K t (.type n)=some b/\Q (.bl b) H):=by
 intro pins s σ H vs us Q I rv h
 obtain ⟨x,t,b,n,rfl,ty,e,q⟩:=h
 obtain ⟨u,v,rfl,ru,rv'⟩:=rv.two
 obtain rfl:v=Value.type n:=rv'
 exact Df I ru ty e fun tk=>⟨.bl b,H,I.tok _,rfl,q⟩
def V0 (xs ys:List V):Bool:=xs.length == ys.length && (List.range xs.length).all fun j=>Eo (xs.getD j .non) (ys.getD j .non)
def uB:V->List V->Hp->VK->Prop:=fun x vs H Q=>∃a aE,x=.ref a/\vs=[]/\H a=some (.dK aE)/\Q .non (upd H a (.dK []))
end
section
variable {X:Cx} {elt target iter:Expr} {ifs:List Expr} {scope:Scope} {pos spos py:Pos} {xs:List Str} {idx:List Nat} {wi:TI} {g:CB->TG} {tt:CB->TT} {te:CB->TE}
theorem K8 {i:Nat} {y:Str} (hN:X.N.Nodup) (hi0:X.N[i]? = some y) (hy:X.env.scope.names.lookup y=some .local) (hc:X.calm=true) (S:qO X scope xs idx) (hi:PI X target iter wi)
  (hg:∀c,PG (jg X scope (xs++bP X.N idx) c) target (g c)) (ht:∀c,vt (jg X scope (xs++bP X.N idx) c) ifs (tt c)) (he:∀c,PE (jg X scope (xs++bP X.N idx) c) elt (te c))
  (hsw:swapsWith (.ListComp elt [⟨target,iter,ifs,0⟩] scope pos) (some (.Name y py)) spos.line X.env=pure true:=by rfl)
  (hs:∀x,foldedSetIterable iter X.env x=pure x:=by intro _;rfl):PS X (.Assign [.Name y py] (.ListComp elt [⟨target,iter,ifs,0⟩] scope pos) spos) (pV (pU wi xs.length idx g tt te) (cV i)):=by
 intro pins s σ H D I h
 have Iv:closureFor scope X.env=pure (dy X.env scope.names []):=iC fun y hy e=>I.ok.has y.1 (S.free y hy e).2
 rw [exec_Assign_Name_used _ _ _ _ hsw]
 refine wpAny_bind (wpAny_standAt (wpAny_bind ?_))
 show wpAny _ X.A (do let _ <-comprehension (.ListComp elt [⟨target,iter,ifs,0⟩] scope pos) scope X.env _ (newList []) false (eval iter X.env) (some (assign (.Name y py) X.env))) _ _ s
 refine wpAny_bind (wpAny_mono (wpAny_comprehension_free (use:=some (assign (.Name y py) X.env)) (Q:=fun _ s'=>SP X pins D .next s') rfl hs Iv S.kind S.loc
  (cy (hi pins s σ H _ I h) fun xv s₁ h₁=>cy h₁ fun Xa s₂ h₂=>?_)) (fun _ s' hq=>wpAny_pure (wpAny_pure hq)) fun _ _ e=>e)
 obtain ⟨it,fp,tn,J,H2,e,I2,T,Eg,f2,hW⟩:=h₂
 subst e
 refine xh (Q:=fun v H'=>cV i v σ H' D.nx) (RR:=fun acc C=>compPost (model X.prog X.w) X.A X.xe (some (assign (.Name y py) X.env)) (fun _ s'=>SP X pins D .next s') acc C) hc S hg ht he I2 T Eg f2 hW ?_
 intro DD C σ' H' s' hC I' q
 show wpAny _ X.A (assign (.Name y py) X.env (.ref DD)) _ _ _
 obtain ⟨hh,gg,d,t,os⟩:=s'
 obtain rfl:os=s₂.os:=I'.os
 have Cn:s₂.heap.get? C=none:=Heap.get?_none_of_le hC
 have I3:Inv X pins σ H' { s₂ with heap:=hh,gens:=gg,drawn:=d,toks:=t }:=I2.call (s:=s₂) (h':=hh) (g':=gg) (d':=d) (t':=t) (ch:=fp) (I'.base.but Cn (Heap.SameBut.refl _ _)) I'.bh I'.bare (fun b hb=>by
  obtain ⟨_,f1,_,f3,f4,f5⟩:=f2 b hb
  exact ⟨f3,f1,f4,f5⟩)
 obtain ⟨m',hn,_⟩:=I'.loc
 have hLC:X.env.locals≠C:=Nat.ne_of_lt (Nat.lt_of_lt_of_le I2.lt hC)
 refine wpAny_assign_Name (rY I3 hN hi0 (.inl hy) (v:=.ref DD) rfl (fun T7 I4 ⟨a,hs4,ha⟩=>?_) (.inr hy))
 have haC:C≠a:=by
  rcases ha with e | e
  ·rw [e];exact Ne.symm hLC
  ·obtain ⟨v,q⟩:=I2.cell y a e
   exact Nat.ne_of_gt (Nat.lt_of_lt_of_le q.lt hC)
 refine ⟨m',hn.sameBut hs4 haC,fun h3 hs3=>?_⟩
 obtain ⟨hh4,gg4,d4,t4,os4⟩:=T7
 have I5:Inv X pins (σ.set i (some (.ref DD))) H' { heap:=h3,gens:=gg4,drawn:=d4,toks:=t4,os:=os4 }:=
  I4.turned (s:={ heap:=hh4,gens:=gg4,drawn:=d4,toks:=t4,os:=os4 }) (h':=h3) (t':=t4) (it:=C) (fun b o hb e=>(hs3.2 b hb).trans e) I'.free (Ne.symm hLC) (.inr (Nat.le_trans I2.sz hC)) (fun x c e z=>by
   obtain ⟨v,q⟩:=I2.cell x c e
   exact absurd (Nat.lt_of_lt_of_le q.lt hC) (by rw [z];exact Nat.lt_irrefl _)) (fun p hp z=>by
   have:=(I2.pin p hp).1
   rw [z,Cn] at this;cases this)
 exact ⟨_,H',I5,q⟩
end
end L2
end
section
namespace L2
open PySem PySem.Spec PyProof.Rows
def DG (ib:Scope) (N:List Str) (scope:Scope) (idx:List Nat):Bool:=
 scope.kind == .function && scope.names.all (fun y=>y.2 != .cell) && scope.names.all (fun y=>y.2 != .local || scope.names.lookup y.1 == some .local) &&
 scope.names.all (fun y=>y.2 != .free || (scope.names.lookup y.1 == some .free && (ib.names.lookup y.1 == some .cell || ib.names.lookup y.1 == some .free))) &&
 idx.all (fun i=>match N[i]? with | some y=>scope.names.lookup y == some .free | none=>false)
theorem tL {X:Cx} {scope:Scope} {xs:List Str} {idx:List Nat} {ib:Scope} {N:List Str} (h:DG ib N scope idx=true) (e1:X.env.scope=ib:=by rfl) (e2:X.N=N:=by rfl):qO X scope xs idx:=by
 unfold DG at h
 simp only [Bool.and_eq_true] at h
 refine hide fun gG hG=>?_
 obtain ⟨⟨⟨⟨h1,h2⟩,h3⟩,h4⟩,h5⟩:=h
 refine hG ?_
 refine ⟨by simpa using h1,fun y hy e=>?_,fun y hy e=>?_,fun y hy e=>?_,fun i hi=>?_⟩
 ·have:=List.all_eq_true.mp h2 y hy
  rw [e] at this;exact absurd this (by decide)
 ·have:=List.all_eq_true.mp h3 y hy
  rw [e] at this;simpa using this
 ·have:=List.all_eq_true.mp h4 y hy
  rw [e] at this
  have t:(scope.names.lookup y.1 == some NameKind.free && (ib.names.lookup y.1 == some .cell || ib.names.lookup y.1 == some .free))=true:=by simpa using this
  rw [Bool.and_eq_true,Bool.or_eq_true] at t
  refine ⟨by simpa using t.1,?_⟩
  show X.env.scope.names.lookup y.1=_\/X.env.scope.names.lookup y.1=_
  rw [e1]
  exact t.2.imp (by simp) (by simp)
 ·have:=List.all_eq_true.mp h5 i hi
  rw [e2]
  cases e:N[i]? with
  | none=>rw [e] at this;cases this
  | some y=>rw [e] at this;exact ⟨y,rfl,by simpa using this⟩
theorem xB {α:Type} (a:α) (xs:List α):tV (a::xs) 0=some a:=gR (j:=0) rfl
theorem Bi {α:Type} (a b:α) (xs:List α):tV (a::b::xs) 1=some b:=gR (j:=1) rfl
theorem Bh {α:Type} (a b c:α) (xs:List α):tV (a::b::c::xs) 2=some c:=gR (j:=2) rfl
theorem Bg {α:Type} (a b c d:α) (xs:List α):tV (a::b::c::d::xs) 3=some d:=gR (j:=3) rfl
theorem JL {α:Type} (a b c d e:α) (xs:List α):tV (a::b::c::d::e::xs) 4=some e:=gR (j:=4) rfl
theorem JK {α:Type} (a b c d e f:α) (xs:List α):tV (a::b::c::d::e::f::xs) 5=some f:=gR (j:=5) rfl
theorem yI:De 6 1=some 1:=rfl
theorem yH:De 6 2=some 2:=rfl
theorem yF:De 6 3=some 3:=rfl
theorem yE:De 6 4=some 4:=rfl
theorem yD:De 6 5=some 5:=rfl
theorem Bb (i:Int):jd i 48271/\jd i 40693/\jd i 3/\jd i 4294967296:=⟨.inr ⟨by decide,by decide⟩,.inr ⟨by decide,by decide⟩,.inr ⟨by decide,by decide⟩,.inr ⟨by decide,by decide⟩⟩
theorem Jv (i:Int):jd i 48271:=(Bb i).1
theorem Ju (i:Int):jd i 40693:=(Bb i).2.1
theorem Jt (i:Int):jd i 3:=(Bb i).2.2.1
theorem Js (i:Int):jd i 4294967296:=(Bb i).2.2.2
theorem Bc (i:Int):jd 5 i/\jd 3 i/\jd 7 i/\jd 10 i:=⟨.inl ⟨by decide,by decide⟩,.inl ⟨by decide,by decide⟩,.inl ⟨by decide,by decide⟩,.inl ⟨by decide,by decide⟩⟩
theorem y4 (i:Int):jd 5 i:=(Bc i).1
theorem y3 (i:Int):jd 3 i:=(Bc i).2.1
theorem y0 (i:Int):jd 7 i:=(Bc i).2.2.1
theorem yZ (i:Int):jd 10 i:=(Bc i).2.2.2
theorem yU:Wz 10 18:=⟨by decide,by decide,by decide⟩
def Kf (t u:TS):TS:=fun D σ H=>∃N:St->Hp->Prop,t { D with nx:=N } σ H/\∀σ' H',N σ' H'->u D σ' H'
theorem K4 {X:Cx} {st:Stmt} {rest:List Stmt} {t u:TS} (h1:PS X st t) (h2:vr X rest u):vr X (st::rest) (Kf t u):=by
 intro pins s σ H D I ⟨N,hn,hu⟩
 refine wpAny_execs_cons (cy (h1 pins s σ H { D with nx:=N } I hn) fun f s1 q=>?_)
 cases f with
 | next=>
  refine hide fun gG hG=>?_
  obtain ⟨σ',H',I',q⟩:=q
  refine hG ?_
  exact h2 pins s1 σ' H' D I' (hu σ' H' q)
 | ret v=>exact q
 | brk=>exact q
 | cont=>exact q
theorem JH {ns:List Int} {k:Int} (h0:0<=k) (h:k < (ns.length:Int)):∃v:Int,tV (ns.map V.int) k=some (.int v):=by
 have hk:k.toNat < ns.length:=by lia
 have ek:k=((k.toNat:Nat):Int):=by lia
 have q:tV (ns.map V.int) ((k.toNat:Nat):Int)=some (.int ns[k.toNat]):=gR (by rw [List.getElem?_map,List.getElem?_eq_getElem hk] <;> rfl)
 rw [<-ek] at q
 exact ⟨_,q⟩
section
variable {X:Cx}
theorem kR.imp {f:Value->Value->Sem Value} {r r':R2} (h:kR X f r) (i:∀x y H Q,r' x y H Q->r x y H Q):kR X f r':=fun pins s σ H x y v u Q I rx ry q=>h pins s σ H x y v u Q I rx ry (i _ _ _ _ q)
theorem Nw.imp {r r':R2} (h:Nw X r) (i:∀x y H Q,r' x y H Q->r x y H Q):Nw X r':=fun value slice pins s σ H x y v u Q I rx ry q hs=>h value slice pins s σ H x y v u Q I rx ry (i _ _ _ _ q) hs
theorem dA.imp {f:Value} {r r':List V->Hp->VK->Prop} (h:dA X f r) (i:∀x H Q,r' x H Q->r x H Q):dA X f r':=fun pins s σ H vs us Q I rv q=>h pins s σ H vs us Q I rv (i _ _ _ q)
theorem J5.imp {r r':V->Option Int->Option Int->Hp->VK->Prop} (h:J5 X r) (i:∀x lo hi H Q,r' x lo hi H Q->r x lo hi H Q):J5 X r':=fun pins s σ H x v vl vu lo hi sl Q I rx hs pl pu q=>h pins s σ H x v vl vu lo hi sl Q I rx hs pl pu (i _ _ _ _ _ q)
theorem bC {K:PySem.W.Frag} {H:Hp} {a:Addr} {xs:List V} (h:H a=some (.lst xs)):mG K H a xs:=mG.of h
theorem bR {K:PySem.W.Frag} {H:Hp} {a:Addr} {xs:List V} (h:H a=some (.tup xs)):rE K H a xs:=rE.of h
def Gy:R2:=fun x y H Q=>∃p i,x=.ref p/\y=.int i/\∃xs,H p=some (.lst xs)/\∃v,tV xs i=some v/\Q v H
theorem iu:Nw X Gy:=L8.imp fun x y H Q ⟨p,i,e1,e2,xs,h,v,e3,q⟩=>⟨p,xs,i,v,e1,e2,bC h,e3,q⟩
def KR:R2:=fun x y H Q=>∃p i,x=.ref p/\y=.int i/\∃xs,H p=some (.tup xs)/\∃v,tV xs i=some v/\Q v H
theorem o5:Nw X KR:=Q8.imp fun x y H Q ⟨p,i,e1,e2,xs,h,v,e3,q⟩=>⟨p,xs,i,v,e1,e2,bR h,e3,q⟩
def P9:R2:=fun x y H Q=>∃z i,x=.str z/\y=.int i/\z.length<=sizeLine/\∃c,tV z.cps.toList i=some c/\Q (.str ⟨#[c]⟩) H
def KN:V->Option Int->Option Int->Hp->VK->Prop:=fun x lo hi H Q=>∃a,x=.ref a/\∃xs,H a=some (.lst xs)/\∀p,H p=none->Q (.ref p) (upd H p (.lst (gE xs lo hi)))
theorem Yn:J5 X KN:=zG.imp fun x lo hi H Q ⟨a,e,xs,h,q⟩=>⟨a,xs,e,bC h,q⟩
def KJ:V->Option Int->Option Int->Hp->VK->Prop:=fun x lo hi H Q=>∃a,x=.ref a/\∃xs,H a=some (.tup xs)/\¬(HT.cJ xs.length 0 lo=0/\HT.cJ xs.length xs.length hi=xs.length)/\∀p,H p=none->Q (.ref p) (upd H p (.tup (gE xs lo hi)))
theorem Ym:J5 X KJ:=P1.imp fun x lo hi H Q ⟨a,e,xs,h,n,q⟩=>⟨a,xs,e,bR h,n,q⟩
def zP:List V->Hp->VK->Prop:=fun vs H Q=>∃p,vs=[.ref p]/\∃xs,H p=some (.lst xs)/\Q (.int xs.length) H
theorem iD:dA X (.builtin "len") zP:=nq.imp fun x H Q ⟨p,e,xs,h,q⟩=>⟨p,xs,e,.inl (bC h),q⟩
def zO:List V->Hp->VK->Prop:=fun vs H Q=>∃p,vs=[.ref p]/\∃xs,H p=some (.tup xs)/\Q (.int xs.length) H
theorem fU:dA X (.builtin "len") zO:=nq.imp fun x H Q ⟨p,e,xs,h,q⟩=>⟨p,xs,e,.inr (bR h),q⟩
def uE:List V->Hp->VK->Prop:=fun vs H Q=>∃p,vs=[.ref p]/\∃xs,H p=some (.lst xs)/\∀l,H l=none->Q (.ref l) (upd H l (.lst xs))
theorem y8:dA X (.type "list") uE:=vj.imp fun x H Q ⟨p,e,xs,h,q⟩=>⟨p,xs,e,.inl (bC h),q⟩
def x6:List V->Hp->VK->Prop:=fun vs H Q=>∃p,vs=[.ref p]/\∃xs,H p=some (.tup xs)/\∀l,H l=none->Q (.ref l) (upd H l (.lst xs))
def pz:List V->Hp->VK->Prop:=fun vs H Q=>∃p,vs=[.ref p]/\∃xs,H p=some (.lst xs)/\∀l,H l=none->Q (.ref l) (upd H l (.tup xs))
theorem fJ:dA X (.type "tuple") pz:=rC.imp fun x H Q ⟨p,e,xs,h,q⟩=>⟨p,xs,e,.inl ⟨bC h,q⟩⟩
def x8:List V->Hp->VK->Prop:=fun vs H Q=>∃a,vs=[.ref a]/\∃aE,H a=some (.dK aE)/\∀p,H p=none->Q (.ref p) (upd H p (.lst (aE.map fun kv=>kV kv.1)))
def x9:List V->Hp->VK->Prop:=fun vs H Q=>∃a,vs=[.ref a]/\∃aE,H a=some (.dK aE)/\∀p,H p=none->Q (.ref p) (upd H p (.dK aE))
def uC:List V->Hp->VK->Prop:=fun vs H Q=>∃a,vs=[.ref a]/\∃ss:List Str,H a=some (.lst (ss.map V.str))/\ss.length < 64/\
 ∀ss':List Str,ss'.Perm ss->sortedS ss'=true->∀p,H p=none->Q (.ref p) (upd H p (.lst (ss'.map V.str)))
def Gx:V->List V->Hp->VK->Prop:=fun x vs H Q=>∃sep a,x=.str sep/\vs=[.ref a]/\∃ss:List Str,H a=some (.lst (ss.map V.str))/\JoinOk sep ss=true/\Q (.str (Txt.join sep ss)) H
def Qa (neg:Bool):R2:=fun x y H Q=>∃p,y=.ref p/\∃xs,H p=some (.lst xs)/\gq x=true/\xs.all gq=true/\Q (.bl (if neg then !Od x xs else Od x xs)) H
def GF (neg:Bool):R2:=fun x y H Q=>∃p,y=.ref p/\∃xs,H p=some (.tup xs)/\gq x=true/\xs.all gq=true/\Q (.bl (if neg then !Od x xs else Od x xs)) H
theorem Qy:kR X (compareOp .In) (GF false):=Cr.imp fun x y H Q ⟨p,e,xs,h,f1,f2,q⟩=>⟨p,xs,e,.inr (bR h),f1,f2,q⟩
theorem sN:kR X (compareOp .NotIn) (GF true):=uI.imp fun x y H Q ⟨p,e,xs,h,f1,f2,q⟩=>⟨p,xs,e,.inr (bR h),f1,f2,q⟩
def Qb (neg:Bool):R2:=fun x y H Q=>∃a b,x=.ref a/\y=.ref b/\∃xs,H a=some (.lst xs)/\∃ys,H b=some (.lst ys)/\xs.all gq=true/\ys.all gq=true/\Q (.bl (if neg then !V0 xs ys else V0 xs ys)) H
def KS (K:PySem.W.Frag):List V->Hp->VK->Prop:=fun vs H Q=>∃x n,vs=[x,.ty n]/\∃t,nv K H x t/\∃b,PySem.W.kitOne K t (.type n)=some b/\Q (.bl b) H
theorem tO:dA X (.builtin "isinstance") (KS X.K):=(Jz .none).imp fun x H Q ⟨y,n,e,t,ty,b,h,q⟩=>⟨y,t,b,n,e,ty,h,q⟩
def KQ:V->V->V->Hp->(Hp->Prop)->Prop:=fun o i v H Q=>∃p k,o=.ref p/\i=.int k/\∃xs,H p=some (.lst xs)/\∃j,De xs.length k=some j/\Q (upd H p (.lst (xs.set j v)))
theorem mX:Ea X KQ:=fun pins s σ H o i v ov iv u Q I ro ri rv ⟨p,k,e1,e2,xs,h,j,hj,q⟩=>set_list pins s σ H o i v ov iv u Q I ro ri rv ⟨p,xs,k,j,e1,e2,h,hj,q⟩
theorem O5:Sb X (fun o i H Q=>Gy o i H Q):=by
 intro pins s σ H o i ov iv Q I ro ri h
 refine hide fun gG hG=>?_
 obtain ⟨p,i,rfl,rfl,xs,hp,z,he,q⟩:=h
 refine hG ?_
 cases ro
 refine hide fun gG hG=>?_
 obtain ⟨t,rfl⟩:=ri
 obtain ⟨its,r,pl,hz⟩:=I.list (bC hp)
 obtain ⟨j,h1,h2,h3,h4,h5⟩:=vo he
 obtain ⟨w,ew,Gb⟩:=r.get h2
 refine hG ?_
 have hl:=r.length
 have hn:=qc
 have fin:EP X pins σ Q w s:=⟨z,H,I,Gb,q⟩
 by_cases h0:0<=i
 ·have hj:i.toNat=j:=by
   rw [seqIndex_of h0 h5] at h1
   exact Option.some.inj h1
  exact wpAny_getItem_list pl.isList h0 (by lia) (by rw [hj];simpa using ew) fin
 ·have hj:(i+(its.toArray.size:Int)).toNat=j:=by
   rw [seqIndex_neg (by lia) h4] at h1
   rw [List.size_toArray,<-hl]
   exact Option.some.inj h1
  exact wpAny_getItem_list_neg pl.isList (by lia) (by rw [List.size_toArray] <;> lia) (by lia) (by rw [hj];simpa using ew) fin
end
end L2
namespace L2
open PySem PySem.Spec PyProof.Rows
theorem Hr {α:Type} {C:List α->Prop} (h:∀a,C [a]):∀us:List α,us.length=1->C us
 | [a],_=>h a
theorem of2 {α:Type} {C:List α->Prop} (h:∀a b,C [a,b]):∀us:List α,us.length=2->C us
 | [a,b],_=>h a b
theorem Zg {α:Type} {C:List α->Prop} (h:∀a b c,C [a,b,c]):∀us:List α,us.length=3->C us
 | [a,b,c],_=>h a b c
end L2
end
section
namespace L2
open PySem PySem.Spec PyProof.Rows
structure HC (X:Cx) (N:List Str) (sc:Scope):Prop where
 n:X.N=N
 s:X.env.scope=sc
def Zf (N:List Str) (sc:Scope) (i:Nat) (x:Str):Bool:=
 N[i]? == some x && (sc.names.lookup x == some .local || sc.names.lookup x == some .cell || sc.names.lookup x == some .free) && !(x == ("__debug__" : Str)) && !(x == ("__classdict__" : Str))
def JW (N:List Str) (sc:Scope) (i:Nat) (x:Str):Bool:=N[i]? == some x && (sc.names.lookup x == some .local || sc.names.lookup x == some .cell)
def Cw (N:List Str) (sc:Scope) (i:Nat) (x:Str):Bool:=N[i]? == some x && sc.names.lookup x == some .local
def okG (sc:Scope) (x:Str):Bool:=sc.names.lookup x == some .globalImplicit
section
variable {X:Cx} {N:List Str} {sc:Scope} {x:Str} {pos:Pos}
theorem pvk (hc:HC X N sc) (i:Nat) (h:Zf N sc i x=true):PE X (.Name x pos) (vI i):=by
 unfold Zf at h
 simp only [Bool.and_eq_true,Bool.or_eq_true,beq_iff_eq,Bool.not_eq_true'] at h
 obtain ⟨⟨⟨h1,h2⟩,h3⟩,h4⟩:=h
 refine G7 (by rw [hc.n];exact h1) ?_ h3 h4
 unfold S9
 rw [hc.s]
 rcases h2 with (h2 | h2) | h2
 ·exact .inl h2
 ·exact .inr (.inl h2)
 ·exact .inr (.inr h2)
theorem cW (hc:HC X N sc) (h:okG sc x=true):Gl X x:=by
 show X.env.scope.names.lookup x=some .globalImplicit
 rw [hc.s];simpa [okG] using h
theorem iT (hc:HC X N sc) {i:Nat} (h:JW N sc i x=true):X.N[i]? = some x/\Loc X.env.scope x:=by
 unfold JW at h
 simp only [Bool.and_eq_true,Bool.or_eq_true,beq_iff_eq] at h
 refine ⟨by rw [hc.n];exact h.1,?_⟩
 unfold Loc;rw [hc.s];exact h.2
theorem jE (hc:HC X N sc) {i:Nat} (h:Cw N sc i x=true):X.N[i]? = some x/\X.env.scope.names.lookup x=some .local:=by
 unfold Cw at h
 simp only [Bool.and_eq_true,beq_iff_eq] at h
 exact ⟨by rw [hc.n];exact h.1,by rw [hc.s];exact h.2⟩
theorem pgk (hc:HC X N sc) (nd:N.Nodup) (hf:∀x,X.fn x=true) (i:Nat) (h:JW N sc i x=true):PG X (.Name x pos) (cV i):=
 zZ (by rw [hc.n];exact nd) (iT hc h).1 (iT hc h).2 (.inl (hf x))
theorem pgb (hc:HC X N sc) (nd:N.Nodup) (i:Nat) (h:Cw N sc i x=true):PG X (.Name x pos) (cV i):=
 zZ (by rw [hc.n];exact nd) (jE hc h).1 (.inl (jE hc h).2) (.inr (jE hc h).2)
theorem zT {e:Expr} {te:TE} {pos':Pos} (hc:HC X N sc) (nd:N.Nodup) (hf:∀x,X.fn x=true) (i:Nat) (h:JW N sc i x=true) (he:PE X e te) (hs:swapsWith e (some (.Name x pos')) pos.line X.env=pure false:=by rfl) :
  PS X (.Assign [.Name x pos'] e pos) (pV te (cV i)):=
 Qg (by rw [hc.n];exact nd) (iT hc h).1 (iT hc h).2 he hs (.inl (hf x))
theorem K6 {e:Expr} {te:TE} {op:Operator} {ti:Nu} {pos':Pos} (hc:HC X N sc) (nd:N.Nodup) (hf:∀x,X.fn x=true) (i:Nat) (h:JW N sc i x=true) (he:PE X e te) (ho:R' X op ti):PS X (.AugAssign (.Name x pos') op e pos) (Kg i te ti):=
 Ql (by rw [hc.n];exact nd) (iT hc h).1 (iT hc h).2 he ho (.inl (hf x))
end
def cG (scope ib:Scope):Scope:=
 { scope with names:=scope.names.map fun (n,k)=>if (k == .free && ib.kind == .function && ib.names.lookup n == some .cell) then (n,.cell) else (n,k) }
theorem vT {scope ib:Scope} {env:Env} (h:env.scope=ib):relabel scope env=cG scope ib:=by
 subst h;rfl
theorem iy {X:Cx} {N:List Str} {ib scope:Scope} {xs:List Str} {idx:List Nat} (hc:HC X N ib) (c:CB):HC (jg X scope (xs++bP X.N idx) c) (xs++bP N idx) (cG scope ib):=
 ⟨by show xs++bP X.N idx=_;rw [hc.n],vT hc.s⟩
section
variable {X:Cx} {N:List Str} {ib:Scope} {elt target iter:Expr} {ifs:List Expr} {scope:Scope} {pos spos py:Pos} {xs:List Str} {idx:List Nat} {wi:TI} {g:CB->TG} {tt:CB->TT} {te:CB->TE}
theorem vZ (hc:HC X N ib) (xs:List Str) (idx:List Nat) (Iw:X.calm=true) (S:DG ib N scope idx=true) (hi:PI X target iter wi)
  (hg:∀c,HC (jg X scope (xs++bP X.N idx) c) (xs++bP N idx) (cG scope ib)->PG (jg X scope (xs++bP X.N idx) c) target (g c))
  (ht:∀c,HC (jg X scope (xs++bP X.N idx) c) (xs++bP N idx) (cG scope ib)->vt (jg X scope (xs++bP X.N idx) c) ifs (tt c))
  (he:∀c,HC (jg X scope (xs++bP X.N idx) c) (xs++bP N idx) (cG scope ib)->PE (jg X scope (xs++bP X.N idx) c) elt (te c))
  (hs:∀x,foldedSetIterable iter X.env x=pure x:=by intro _;rfl):PE X (.ListComp elt [⟨target,iter,ifs,0⟩] scope pos) (pU wi xs.length idx g tt te):=
 Lj Iw (tL S hc.s hc.n) hi (fun c=>hg c (iy hc c)) (fun c=>ht c (iy hc c)) (fun c=>he c (iy hc c)) hs
theorem vX {y:Str} (hc:HC X N ib) (nd:N.Nodup) (i:Nat) (h:Cw N ib i y=true) (xs:List Str) (idx:List Nat) (Iw:X.calm=true) (S:DG ib N scope idx=true) (hi:PI X target iter wi)
  (hg:∀c,HC (jg X scope (xs++bP X.N idx) c) (xs++bP N idx) (cG scope ib)->PG (jg X scope (xs++bP X.N idx) c) target (g c))
  (ht:∀c,HC (jg X scope (xs++bP X.N idx) c) (xs++bP N idx) (cG scope ib)->vt (jg X scope (xs++bP X.N idx) c) ifs (tt c))
  (he:∀c,HC (jg X scope (xs++bP X.N idx) c) (xs++bP N idx) (cG scope ib)->PE (jg X scope (xs++bP X.N idx) c) elt (te c))
  (hsw:swapsWith (.ListComp elt [⟨target,iter,ifs,0⟩] scope pos) (some (.Name y py)) spos.line X.env=pure true)
  (hs:∀x,foldedSetIterable iter X.env x=pure x:=by intro _;rfl):PS X (.Assign [.Name y py] (.ListComp elt [⟨target,iter,ifs,0⟩] scope pos) spos) (pV (pU wi xs.length idx g tt te) (cV i)):=
 K8 (by rw [hc.n];exact nd) (jE hc h).1 (jE hc h).2 Iw (tL S hc.s hc.n) hi (fun c=>hg c (iy hc c)) (fun c=>ht c (iy hc c)) (fun c=>he c (iy hc c)) hsw hs
end
end L2
namespace L2
open PySem PySem.Spec PyProof.Rows
@[irreducible] def rF (X:Cx) (st:List Stmt) (t:TS):Prop:=vr X st t
theorem rF.to {X:Cx} {st:List Stmt} {t:TS} (h:rF X st t):vr X st t:=by unfold rF at h;exact h
theorem rF.of {X:Cx} {st:List Stmt} {t:TS} (h:vr X st t):rF X st t:=by unfold rF;exact h
section
variable {X:Cx} {st:Stmt} {rest:List Stmt} {t u:TS} {pos:Pos}
theorem KD:rF X [] rR:=.of K3
theorem KC (h1:PS X st t):rF X [st] t:=.of (K1 h1)
theorem Gp (h1:PS X st t) (h2:rF X rest u):rF X (st::rest) (BK t u):=.of (GR h1 h2.to)
theorem KH (h1:PS X st t) (h2:rF X rest u):rF X (st::rest) (Kf t u):=.of (K4 h1 h2.to)
theorem Ua {c:Expr} {a b:List Stmt} {tc:TT} (hc:PT X c tc) (ha:rF X a t) (hb:rF X b u):PS X (.If c a b pos) (BM tc t u):=Ue hc ha.to hb.to
theorem Gq {c:Expr} {body:List Stmt} {tc:TT} {tb:TS} (hp:PassesOwn (model X.prog X.w) X.A X.env X.xe) (hc:PT X c tc) (hb:rF X body tb):PS X (.While c body [] pos) (xQ tc tb):=GX hp hc hb.to
theorem Gr {tg iter:Expr} {body:List Stmt} {wi:TI} {g:TG} {tb:TS} (hp:PassesOwn (model X.prog X.w) X.A X.env X.xe) (hc:X.calm=true) (hi:PI X tg iter wi) (hg:PG X tg g) (hb:rF X body tb)
  (hs:∀x,foldedSetIterable iter X.env x=pure x:=by intro _;rfl):PS X (.For tg iter body [] pos) (Kd wi g tb):=Qi hp hc hi hg hb.to hs
end
theorem iK.okK {P:Program} {w:World} {K:PySem.W.Frag} {mg:Str->Option Value} {base:Heap} {x qual:Str} {st:Stmt} {f:Addr} {fd:FuncData} {N ps:List Str} {k:Nat} {sp:Sp} (F:iK K x qual st f fd) (S:aT N ps (ag st)) (len:∀vs H Q E,sp vs H Q E->vs.length=ps.length)
  (dN:∀(cC:Value) (A:Around) (outer:List Env) (s:Shared) (H:Hp) (vs:List V) (Q:VK) (E:XK),bW k (A.deeper (envOfC qual (ag st) s.heap.objs.size f cC))->sp vs H Q E->
   HC (eJ eL P w K mg base N qual (ag st) f cC A outer s H E).qP N (ag st)->(∀x,(eJ eL P w K mg base N qual (ag st) f cC A outer s H E).qP.fn x=true)->
   ∃t,rF (eJ eL P w K mg base N qual (ag st) f cC A outer s H E).qP (aJ st) t/\t { nx:=fun _ H'=>Q .non H',rt:=Q } (start N vs) H):bO P w K mg base eL (k+1) f fd ps sp:=
 F.ok S len fun cC A outer s H vs Q E hr h=>let ⟨t,h1,h2⟩:=dN cC A outer s H vs Q E hr h ⟨rfl,rfl⟩ fun _=>rfl;⟨t,h1.to,h2⟩
end L2
namespace L2
open PySem PySem.Spec PyProof.Rows
def qK (J:It) (g:TG) (tb:TS) (D:Ends) (σ:St) (H:Hp):Prop:=∃W:Nat->Nat->St->Hp->Prop,(∃m,W 0 m σ H)/\∀i m σ H,W i m σ H->
 (J.stop i H/\D.nx σ H)\/(J.go i H/\∃N:St->Hp->Prop,(∀σ' H',N σ' H'->∃m',m' < m/\W (i+1) m' σ' H')/\∀x H',J.Bv i H x H'->g x σ H' fun σ2 H2=>tb { D with nx:=N,ct:=N,bk:=D.nx } σ2 H2)
theorem t9 {wi:TI} {g:TG} {tb:TS} {D:Ends} {σ:St} {H:Hp}:Kd wi g tb D σ H=wi σ H (fun J H1=>qK J g tb D σ H1):=rfl
def gX (J:It) (k:Nat) (idx:List Nat) (g:CB->TG) (tt:CB->TT) (te:CB->TE) (σ:St) (Q:VK) (H1:Hp):Prop:=∀D,H1 D=none->∃W:Nat->Nat->List V->Hp->Prop,(∃m,W 0 m [] (upd H1 D (.lst [])))/\
 ∀i m ys H',W i m ys H'->(J.stop i H'/\Q (.ref D) H')\/(J.go i H'/\∃N:List V->Hp->Prop,(∀nM qH,N nM qH->∃m',m' < m/\W (i+1) m' nM qH)/\∀(c:CB) (own:St),own.length=k->∀x H2,J.Bv i H' x H2->g c x (own++bQ σ idx) H2 fun σ3 H3=>
  (∃du,du.length=k/\σ3=du++bQ σ idx)/\tt c σ3 H3 fun b H4=>if b=true then te c σ3 H4 fun y H5=>H5 D=some (.lst ys)/\ys.length < sizeLine/\N (ys++[y]) (upd H5 D (.lst (ys++[y]))) else N ys H4)
theorem pR {wi:TI} {k:Nat} {idx:List Nat} {g:CB->TG} {tt:CB->TT} {te:CB->TE} {σ:St} {H:Hp} {Q:VK}:pU wi k idx g tt te σ H Q=wi σ H (fun J H1=>gX J k idx g tt te σ Q H1):=rfl
theorem yR {lo:Int} {n:Nat} {g:TG} {tb:TS} {D:Ends} {σ:St} {H:Hp} (Pv:Nat->St->Hp->Prop) (h0:Pv 0 σ H)
  (hs:∀i σ H,i < n->Pv i σ H->g (.int (lo+i)) σ H fun σ2 H2=>tb { D with nx:=Pv (i+1),ct:=Pv (i+1),bk:=D.nx } σ2 H2) (hd:∀σ H,Pv n σ H->D.nx σ H):qK (zh lo n) g tb D σ H:=Dp Pv h0 hs hd
theorem eI {K:PySem.W.Frag} {a:Addr} {xs:List V} {g:TG} {tb:TS} {D:Ends} {σ:St} {H:Hp} (Pv:Nat->St->Hp->Prop) (h0:Pv 0 σ H) (hl:∀i σ H,i<=xs.length->Pv i σ H->H a=some (.lst xs))
  (hs:∀i x σ H,xs[i]? = some x->Pv i σ H->g x σ H fun σ2 H2=>tb { D with nx:=Pv (i+1),ct:=Pv (i+1),bk:=D.nx } σ2 H2) (hd:∀σ H,Pv xs.length σ H->D.nx σ H):qK (zi K a) g tb D σ H:=
 Je Pv h0 (fun i σ H hi p=>bC (hl i σ H hi p)) hs hd
theorem gp {K:PySem.W.Frag} {a:Addr} {xs:List V} {g:TG} {tb:TS} {D:Ends} {σ:St} {H:Hp} (Pv:Nat->St->Hp->Prop) (h0:Pv 0 σ H) (hl:∀i σ H,i<=xs.length->Pv i σ H->H a=some (.tup xs))
  (hs:∀i x σ H,xs[i]? = some x->Pv i σ H->g x σ H fun σ2 H2=>tb { D with nx:=Pv (i+1),ct:=Pv (i+1),bk:=D.nx } σ2 H2) (hd:∀σ H,Pv xs.length σ H->D.nx σ H):qK (Ny K a) g tb D σ H:=
 MT Pv h0 (fun i σ H hi p=>bR (hl i σ H hi p)) hs hd
theorem xk {lo:Int} {n:Nat} {idx:List Nat} {tt:CB->TT} {te:CB->TE} {σ:St} {Q:VK} {H1:Hp} (Pv:Addr->Nat->List V->Hp->Prop) (h0:∀D,H1 D=none->Pv D 0 [] (upd H1 D (.lst [])))
  (hs:∀D,H1 D=none->∀i ys H,i < n->Pv D i ys H->∀(c:CB),tt c (some (.int (lo+i))::bQ σ idx) H fun b H4=>if b=true then te c (some (.int (lo+i))::bQ σ idx) H4 fun y H5=>H5 D=some (.lst ys)/\ys.length < sizeLine/\Pv D (i+1) (ys++[y]) (upd H5 D (.lst (ys++[y]))) else Pv D (i+1) ys H4)
  (hd:∀D,H1 D=none->∀ys H,Pv D n ys H->Q (.ref D) H):gX (zh lo n) 1 idx (fun _=>cV 0) tt te σ Q H1:=
 fun D hD=>xj (Pv D) (h0 D hD) (hs D hD) (hd D hD)
theorem vh {K:PySem.W.Frag} {a:Addr} {zs:List V} {idx:List Nat} {tt:CB->TT} {te:CB->TE} {σ:St} {Q:VK} {H1:Hp} (Pv:Addr->Nat->List V->Hp->Prop) (h0:∀D,H1 D=none->Pv D 0 [] (upd H1 D (.lst [])))
  (hl:∀D,H1 D=none->∀i ys H,i<=zs.length->Pv D i ys H->H a=some (.lst zs))
  (hs:∀D,H1 D=none->∀i x ys H,zs[i]? = some x->Pv D i ys H->∀(c:CB),tt c (some x::bQ σ idx) H fun b H4=>if b=true then te c (some x::bQ σ idx) H4 fun y H5=>H5 D=some (.lst ys)/\ys.length < sizeLine/\Pv D (i+1) (ys++[y]) (upd H5 D (.lst (ys++[y]))) else Pv D (i+1) ys H4)
  (hd:∀D,H1 D=none->∀ys H,Pv D zs.length ys H->Q (.ref D) H):gX (zi K a) 1 idx (fun _=>cV 0) tt te σ Q H1:=
 fun D hD=>yW (Pv D) (h0 D hD) (fun i ys H hi p=>bC (hl D hD i ys H hi p)) (hs D hD) (hd D hD)
end L2
namespace L2
open PySem PySem.Spec PyProof.Rows
def xR (ss:List Str):TA:=fun _ H Q=>Q (List.map V.str ss) H
end L2
end
section
namespace L2
open PySem PySem.Spec PyProof.Rows
structure ZE (X:Cx) (e:Expr) (t:TE):Prop where
 to:PE X e t
structure ZT (X:Cx) (e:Expr) (t:TT):Prop where
 to:PT X e t
structure ZW (X:Cx) (e:Expr) (t:TT):Prop where
 to:PW X e t
structure ZA (X:Cx) (e:List Expr) (t:TA):Prop where
 to:PA X e t
structure ZS (X:Cx) (e:Stmt) (t:TS):Prop where
 to:PS X e t
structure Bk (X:Cx) (e:List Stmt) (t:TS):Prop where
 to:vr X e t
structure ZG (X:Cx) (e:Expr) (t:TG):Prop where
 to:PG X e t
structure Nr (X:Cx) (e:List Expr) (t:TT):Prop where
 to:vt X e t
structure ZO (X:Cx) (e:Option Expr) (t:TO):Prop where
 to:PO X e t
structure ZI (X:Cx) (tg iter:Expr) (t:TI):Prop where
 to:PI X tg iter t
structure ZC (X:Cx) (op:CmpOp) (a b:Expr) (t:TE):Prop where
 to:PC X op a b t
theorem gY {X:Cx} {b:Bool} {j:Nat} {pos:Pos}:ZE X (Expr.Constant (Const.bool b) j pos) (tC (V.bl b)):=⟨Uj⟩
theorem ai {X:Cx} {i:Int} {j:Nat} {pos:Pos}:ZE X (Expr.Constant (Const.int i) j pos) (tC (V.int i)):=⟨Qt⟩
theorem J8 {X:Cx} {x:Str} {j:Nat} {pos:Pos}:ZE X (Expr.Constant (Const.str x) j pos) (tC (V.str x)):=⟨Qq⟩
theorem av {X:Cx} {N:List Str} {sc:Scope} {x:Str} {pos:Pos} (h1:HC X N sc) (i:Nat) (h2:Zf N sc i x=true):ZE X (Expr.Name x pos) (vI i):=⟨pvk h1 i h2⟩
theorem vD {X:Cx} {x:Str} {v:V} {u:Value} {pos:Pos} (h1:Gl X x) (h2:Cx.mg X x=none) (h3:bootBuiltins x=some u) (h4:RelV v u) (h5:autoParam (x≠Str.ofString "__name__") uG._auto_1) (h6:autoParam ((x == Str.ofString "__debug__")=false) uG._auto_2):ZE X (Expr.Name x pos) (tC v):=⟨uG h1 h2 h3 h4 h5 h6⟩
theorem dO {X:Cx} {es:List Expr} {t:TA} {pos:Pos} (h1:ZA X es t):ZE X (Expr.List es pos) (Fn t):=⟨Qs h1.to⟩
theorem iN {X:Cx} {es:List Expr} {t:TA} {pos:Pos} {x1:Nat} (h1:ZA X es t):ZE X (Expr.Tuple es x1 pos) (Fh t):=⟨Qp h1.to⟩
theorem Bt {X:Cx} {pos:Pos}:ZE X (Expr.Dict [] [] pos) pQ:=⟨Hb⟩
theorem aV {X:Cx} {a b:Expr} {ta tb:TE} {pos:Pos} {op:Operator} {r:R2} (h1:kR X (binaryOp op) r) (h2:ZE X a ta) (h3:ZE X b tb):ZE X (Expr.BinOp a op b pos) (Fl r ta tb):=⟨Uh h1 h2.to h3.to⟩
theorem J9 {X:Cx} {a:Expr} {ta:TE} {pos:Pos} (h1:ZE X a ta):ZE X (Expr.UnaryOp UnaryOp.Not a pos) (vL ta):=⟨Qr h1.to⟩
theorem mO {X:Cx} {a b:Expr} {ta tb:TE} {pos:Pos} {op:CmpOp} {r:R2} (h1:kR X (compareOp op) r) (h2:ZE X a ta) (h3:ZE X b tb) (h4:behindInMarks op b=false):ZE X (Expr.Compare a [op] [b] pos) (Fl r ta tb):=⟨Lk h1 h2.to h3.to h4⟩
theorem vC {X:Cx}:ZO X none mR:=⟨Lc⟩
theorem mL {X:Cx} {e:Expr} {te:TE} (h1:ZE X e te):ZO X (some e) (vK te):=⟨Lb h1.to⟩
theorem nJ {X:Cx} {e:Expr} {te:TE} {lo hi:Option Expr} {tl th:TO} {pos p2:Pos} {r:V->Option Int->Option Int->Hp->VK->Prop} (h1:J5 X r) (h2:ZE X e te) (h3:ZO X lo tl) (h4:ZO X hi th):ZE X (Expr.Subscript e (Expr.Slice lo hi none p2) pos) (Tp r te tl th):=⟨G9 h1 h2.to h3.to h4.to⟩
theorem mM {X:Cx} {o i:Expr} {pos:Pos} {td ty:TE} (h1:Around.units (Cx.A X)+1 < cLine) (h2:ZE X o td) (h3:ZE X i ty) (h4:Sd i):ZE X (Expr.Subscript o i pos) (rV td ty):=⟨Li h1 h2.to h3.to h4⟩
theorem bE {X:Cx} {a b:Expr} {ta tb:TE} {pos:Pos} {r:R2} (h1:Nw X r) (h2:ZE X a ta) (h3:ZE X b tb) (h4:Bo b):ZE X (Expr.Subscript a b pos) (Fl r ta tb):=⟨Ui h1 h2.to h3.to h4⟩
theorem dX {X : Cx} {N : List Str} {ib : Scope} {elt target iter : Expr} {ifs : List Expr} {scope : Scope} {pos : Pos} {wi : TI} {g : CB → TG} {tt : CB → TT} {te : CB → TE} (h1 : HC X N ib) (xs : List Str) (idx : List Nat) (h2 : Cx.calm X = true) (h3 : DG ib N scope idx = true) (h4 : ZI X target iter wi) (h5 : (∀ (c : CB),
                HC (jg X scope (xs ++ bP (Cx.N X) idx) c) (xs ++ bP N idx) (cG scope ib) →
                  ZG (jg X scope (xs ++ bP (Cx.N X) idx) c) target (g c))) (h6 : (∀ (c : CB),
                  HC (jg X scope (xs ++ bP (Cx.N X) idx) c) (xs ++ bP N idx) (cG scope ib) →
                    Nr (jg X scope (xs ++ bP (Cx.N X) idx) c) ifs (tt c))) (h7 : (∀ (c : CB),
                    HC (jg X scope (xs ++ bP (Cx.N X) idx) c) (xs ++ bP N idx) (cG scope ib) →
                      ZE (jg X scope (xs ++ bP (Cx.N X) idx) c) elt (te c))) (h8 : autoParam (∀ (x : Value), foldedSetIterable iter (Cx.env X) x = pure x) vZ._auto_1) : ZE X (Expr.ListComp elt [{ target := target, iter := iter, ifs := ifs, is_async := 0 }] scope pos)
                      (pU wi (List.length xs) idx g tt te) := ⟨vZ h1 xs idx h2 h3 h4.to (fun c z => (h5 c z).to) (fun c z => (h6 c z).to) (fun c z => (h7 c z).to) h8⟩
theorem ao {X:Cx}:ZA X [] BL:=⟨yd⟩
theorem ae {X:Cx} {e:Expr} {es:List Expr} {te:TE} {t:TA} (h1:ZE X e te) (h2:ZA X es t) (h3:autoParam (starEach (e::es) (Cx.env X)=(false,eval e (Cx.env X))::starEach es (Cx.env X)) pB._auto_1):ZA X (e::es) (rX te t):=⟨pB h1.to h2.to h3⟩
theorem pJ {X:Cx} {N:List Str} {sc:Scope} {x:Str} {pos:Pos} (h1:HC X N sc) (h2:List.Nodup N) (i:Nat) (h3:Cw N sc i x=true):ZG X (Expr.Name x pos) (cV i):=⟨pgb h1 h2 i h3⟩
theorem fQ {X:Cx}:Nr X [] Fg:=⟨G3⟩
theorem ic {X:Cx} {e:Expr} {t:TT} (h1:ZT X e t):Nr X [e] t:=⟨G0 h1.to⟩
theorem pI {X:Cx} {tg a:Expr} {ta:TA} {p pos:Pos} (h1:Gl X (Str.ofString "range")) (h2:Cx.mg X (Str.ofString "range")=none) (h3:ZA X [a] ta) (h4:autoParam (starEach [a] (Cx.env X)=[(false,eval a (Cx.env X))]) sI._auto_1):ZI X tg (Expr.Call (Expr.Name (Str.ofString "range") p) [a] [] pos) (wR ta):=⟨sI h1 h2 h3.to h4⟩
theorem dq {X:Cx} {tg l:Expr} {tl:TE} (h1:ZE X l tl):ZI X tg l (wU (Cx.K X) tl):=⟨Le h1.to⟩
theorem fE {X:Cx} {tg l:Expr} {tl:TE} (h1:ZE X l tl):ZI X tg l (HX (Cx.K X) tl):=⟨Qn h1.to⟩
theorem xK {X:Cx} {o i:Expr} {td ty:TE} (h1:Around.units (Cx.A X)+1 < cLine) (h2:ZE X i ty) (h3:ZE X o td):ZC X CmpOp.NotIn i o (ua ty td):=⟨Cp h1 h2.to h3.to⟩
theorem J6 {X:Cx} {a b:Expr} {pos:Pos} {op:CmpOp} {t:TE} (h1:ZC X op a b t) (h2:autoParam (behindInMarks op b=false) GQ._auto_1):ZT X (Expr.Compare a [op] [b] pos) (tB t):=⟨GQ h1.to h2⟩
theorem bK {X:Cx} {a b:Expr} {ta tb:TE} {pos:Pos} {op:CmpOp} {r:R2} (h1:kR X (compareOp op) r) (h2:ZE X a ta) (h3:ZE X b tb) (h4:behindInMarks op b=false):ZT X (Expr.Compare a [op] [b] pos) (vJ (Fl r ta tb)):=⟨K0 h1 h2.to h3.to h4⟩
theorem gI {X:Cx} {a:Expr} {pos:Pos} {tA:TT} (h1:ZT X a tA):ZT X (Expr.UnaryOp UnaryOp.Not a pos) (Fm tA):=⟨Qf h1.to⟩
theorem pL {X:Cx} {e:Expr} {t:TT} (h1:ZW X e t):ZT X e t:=⟨PW.pt h1.to⟩
theorem cL {X:Cx} {e:Expr} {t:TE} (h1:ZE X e t) (h2:autoParam
    (∀(whole:Sem Value),
     PySem.isTrue e (Cx.env X) whole=do
      let v <-whole
      standAt (Expr.pos e)
      holding [v] (truthy v))
    GP._auto_1):ZT X e (tB t):=⟨GP h1.to h2⟩
theorem mH {X:Cx} {a:Expr} {pos:Pos} {tA:TT} (h1:ZT X a tA):ZW X (Expr.BoolOp BoolOp.And [a] pos) tA:=⟨KZ h1.to⟩
theorem t5 {X:Cx} {a:Expr} {pos:Pos} {tA:TT} (h1:ZT X a tA):ZW X (Expr.BoolOp BoolOp.Or [a] pos) tA:=⟨Qd h1.to⟩
theorem pd {X:Cx} {a b:Expr} {pos:Pos} {tA JV:TT} {rest:List Expr} (h1:ZT X a tA) (h2:ZW X (Expr.BoolOp BoolOp.And (b::rest) pos) JV):ZW X (Expr.BoolOp BoolOp.And (a::b::rest) pos) (Fs tA JV):=⟨Qe h1.to h2.to⟩
theorem xI {X:Cx} {a b:Expr} {pos:Pos} {tA JV:TT} {rest:List Expr} (h1:ZT X a tA) (h2:ZW X (Expr.BoolOp BoolOp.Or (b::rest) pos) JV):ZW X (Expr.BoolOp BoolOp.Or (a::b::rest) pos) (Tr tA JV):=⟨Ub h1.to h2.to⟩
theorem aD {X : Cx} {CX : Br} {k : Nat} {f : Addr} {fd : FuncData} {ps : List Str} {sp : Sp} {oi : List V} {ds : List Value} {E : XK} {x : Str} {p pos : Pos} {e : Expr} {es : List Expr} {t : TA} (h1 : bO (Cx.prog X) (Cx.w X) (Cx.K X) (Cx.mg X) (Cx.base X) CX k f fd ps sp) (h2 : bW k (Cx.A X)) (h3 : Gl X x) (h4 : Cx.mg X x = some (Value.ref f)) (h5 : W.keepIn (Cx.K X) (Value.ref f) = true) (h6 : Binds (Cx.K X) fd ps ds) (h7 : Vals oi ds) (h8 : Passes CX X E) (h9 : ZA X (e :: es) t) (VM : autoParam ((x == Str.ofString "__debug__") = false) pA._auto_1) (VL : autoParam (starEach (e :: es) (Cx.env X) = (false, eval e (Cx.env X)) :: starEach es (Cx.env X))
                          pA._auto_2) (h12 : autoParam
                            ((List.any (backTo pos (starEach es (Cx.env X))) fun (x : Bool × Sem Value) => Prod.fst x) =
                              false)
                            pA._auto_3) : ZE X (Expr.Call (Expr.Name x p) (e :: es) [] pos) (vN sp oi E t) := ⟨pA h1 h2 h3 h4 h5 h6 h7 h8 h9.to VM VL h12⟩
theorem dQ {X : Cx} {x : Str} {p pos : Pos} {e : Expr} {es : List Expr} {t : TA} {T : String} {r : List V → Hp → VK → Prop} (h1 : dA X (Value.type T) r) (h2 : Gl X x) (h3 : Cx.mg X x = none) (h4 : bootBuiltins x = some (Value.type T)) (h5 : ZA X (e :: es) t) (h6 : autoParam (x ≠ Str.ofString "__name__") il._auto_1) (h7 : autoParam ((x == Str.ofString "__debug__") = false) il._auto_2) (h8 : autoParam (starEach (e :: es) (Cx.env X) = (false, eval e (Cx.env X)) :: starEach es (Cx.env X))
                    il._auto_3) (h9 : autoParam
                      ((List.any (backTo pos (starEach es (Cx.env X))) fun (x : Bool × Sem Value) => Prod.fst x) =
                        false)
                      il._auto_4) : ZE X (Expr.Call (Expr.Name x p) (e :: es) [] pos) (Py r t) := ⟨il h1 h2 h3 h4 h5.to h6 h7 h8 h9⟩
theorem bA {X : Cx} {x : Str} {p pos : Pos} {e : Expr} {es : List Expr} {t : TA} {id : String} {r : List V → Hp → VK → Prop} (h1 : dA X (Value.builtin id) r) (h2 : Gl X x) (h3 : Cx.mg X x = none) (h4 : bootBuiltins x = some (Value.builtin id)) (h5 : ZA X (e :: es) t) (h6 : autoParam (x ≠ Str.ofString "__name__") jA._auto_1) (h7 : autoParam ((x == Str.ofString "__debug__") = false) jA._auto_2) (h8 : autoParam (starEach (e :: es) (Cx.env X) = (false, eval e (Cx.env X)) :: starEach es (Cx.env X))
                    jA._auto_3) (h9 : autoParam
                      ((List.any (backTo pos (starEach es (Cx.env X))) fun (x : Bool × Sem Value) => Prod.fst x) =
                        false)
                      jA._auto_4) : ZE X (Expr.Call (Expr.Name x p) (e :: es) [] pos) (Py r t) := ⟨jA h1 h2 h3 h4 h5.to h6 h7 h8 h9⟩
theorem nL {X : Cx} {o e : Expr} {es : List Expr} {to : TE} {t : TA} {name : Str} {apos cA : Pos} {T id : String} {r : V → List V → Hp → VK → Prop} (h1 : PlainAttrs T) (h2 : Slot T name id) (h3 : typeOf (Value.builtin id) = pure (Value.type "method_descriptor")) (h4 : MtR X id r) (h5 : ZE X o to) (h6 : ZA X (e :: es) t) (h7 : autoParam (attributeBase o name (Cx.env X) (eval o (Cx.env X)) = eval o (Cx.env X)) sL._auto_1) (h8 : autoParam
                    ((((List.all (backTo cA (starEach (e :: es) (Cx.env X))) fun (x : Bool × Sem Value) =>
                            !Prod.fst x) &&
                          List.all (backToKw cA (keywordEach [] (Cx.env X))) fun (x : Option Str × Sem Value) =>
                            Option.isSome (Prod.fst x)) &&
                        decide
                          ((List.length (e :: es) + List.length ([] : List Keyword) + if List.isEmpty ([] : List Keyword) = true then 0 else 1) < 30)) =
                      true)
                    sL._auto_2) (h9 : autoParam ((Pos.endLine apos == Pos.line cA) = true) sL._auto_3) (VM : autoParam (starEach (e :: es) (Cx.env X) = (false, eval e (Cx.env X)) :: starEach es (Cx.env X))
                        sL._auto_4) (VL : autoParam
                          ((List.any (backTo cA (starEach es (Cx.env X))) fun (x : Bool × Sem Value) => Prod.fst x) =
                            false)
                          sL._auto_5) : ZE X (Expr.Call (Expr.Attribute o name apos) (e :: es) [] cA) (Ts (Cx.K X) T r to t) := ⟨sL h1 h2 h3 h4 h5.to h6.to h7 h8 h9 VM VL⟩
theorem aR {X:Cx} {e:Expr} {te:TE} {pos:Pos} (h1:ZE X e te):ZS X (Stmt.Return (some e) pos) (Fj te):=⟨Qh h1.to⟩
theorem cZ {X:Cx} {e:Expr} {te:TE} {pos:Pos} (h1:ZE X e te) (h2:autoParam (swapsWith e none (Pos.line pos) (Cx.env X)=pure false) zU._auto_1):ZS X (Stmt.Expr e pos) (vM te):=⟨zU h1.to h2⟩
theorem nH {X : Cx} {N : List Str} {ib : Scope} {elt target iter : Expr} {ifs : List Expr} {scope : Scope} {pos spos py : Pos} {wi : TI} {g : CB → TG} {tt : CB → TT} {te : CB → TE} {y : Str} (h1 : HC X N ib) (h2 : List.Nodup N) (i : Nat) (h3 : Cw N ib i y = true) (xs : List Str) (idx : List Nat) (h4 : Cx.calm X = true) (h5 : DG ib N scope idx = true) (h6 : ZI X target iter wi) (h7 : (∀ (c : CB),
                      HC (jg X scope (xs ++ bP (Cx.N X) idx) c) (xs ++ bP N idx) (cG scope ib) →
                        ZG (jg X scope (xs ++ bP (Cx.N X) idx) c) target (g c))) (h8 : (∀ (c : CB),
                        HC (jg X scope (xs ++ bP (Cx.N X) idx) c) (xs ++ bP N idx) (cG scope ib) →
                          Nr (jg X scope (xs ++ bP (Cx.N X) idx) c) ifs (tt c))) (h9 : (∀ (c : CB),
                          HC (jg X scope (xs ++ bP (Cx.N X) idx) c) (xs ++ bP N idx) (cG scope ib) →
                            ZE (jg X scope (xs ++ bP (Cx.N X) idx) c) elt (te c))) (VM : swapsWith
                              (Expr.ListComp elt [{ target := target, iter := iter, ifs := ifs, is_async := 0 }] scope
                                pos)
                              (some (Expr.Name y py)) (Pos.line spos) (Cx.env X) =
                            pure true) (VL : autoParam (∀ (x : Value), foldedSetIterable iter (Cx.env X) x = pure x) vX._auto_1) : ZS X
                              (Stmt.Assign [Expr.Name y py]
                                (Expr.ListComp elt [{ target := target, iter := iter, ifs := ifs, is_async := 0 }] scope
                                  pos)
                                spos)
                              (pV (pU wi (List.length xs) idx g tt te) (cV i)) := ⟨vX h1 h2 i h3 xs idx h4 h5 h6.to (fun c z => (h7 c z).to) (fun c z => (h8 c z).to) (fun c z => (h9 c z).to) VM VL⟩
theorem aM {X:Cx} {N:List Str} {sc:Scope} {x:Str} {pos:Pos} {e:Expr} {te:TE} {pos':Pos} (h1:HC X N sc) (h2:List.Nodup N) (h3:(∀(x:Str),Cx.fn X x=true)) (i:Nat) (h4:JW N sc i x=true) (h5:ZE X e te) (h6:autoParam (swapsWith e (some (Expr.Name x pos')) (Pos.line pos) (Cx.env X)=pure false) zT._auto_1):ZS X (Stmt.Assign [Expr.Name x pos'] e pos) (pV te (cV i)):=⟨zT h1 h2 h3 i h4 h5.to h6⟩
theorem mK {X:Cx} {o i value:Expr} {pos pos':Pos} {td ty tv:TE} (h1:Around.units (Cx.A X)+1 < cLine) (h2:ZE X o td) (h3:ZE X i ty) (h4:ZE X value tv) (h5:swapsWith value (some (Expr.Subscript o i pos')) (Pos.line pos) (Cx.env X)=pure false):ZS X (Stmt.Assign [Expr.Subscript o i pos'] value pos) (pY td ty tv):=⟨K9 h1 h2.to h3.to h4.to h5⟩
theorem iL {X : Cx} {pos : Pos} {tg e : Expr} {te : TE} {g : TG} (h1 : ZE X e te) (h2 : ZG X tg g) (h3 : autoParam (swapsWithSole [tg] e (Pos.line pos) (Cx.env X) = pure false) uF._auto_1) (h4 : autoParam (swappedStores [tg] e (Cx.env X) = pure none) uF._auto_2) (h5 : autoParam
              (List.map (fun (x : Bool × (Value → Sem Unit)) => Prod.snd x) (assignEach [tg] (Cx.env X)) =
                [assign tg (Cx.env X)])
              uF._auto_3) : ZS X (Stmt.Assign [tg] e pos) (pV te g) := ⟨uF h1.to h2.to h3 h4 h5⟩
theorem iM {X : Cx} {pos : Pos} {o i : Expr} {to ti : TE} {t : zf} (h1 : ZE X o to) (h2 : ZE X i ti) (h3 : Ea X t) (h4 : autoParam
            (∀ (v : Value),
              assign (Expr.Subscript o i pos) (Cx.env X) v = do
                let ov ← holding [v] (eval o (Cx.env X))
                let iv ← holding [v, ov] (eval i (Cx.env X))
                standAt pos
                holding [v, ov, iv] (setItem ov iv v)
                release [v, ov, iv] [])
            G5._auto_1) : ZG X (Expr.Subscript o i pos) (Jd to ti t) := ⟨G5 h1.to h2.to h3 h4⟩
theorem vB {X : Cx} {pos : Pos} {o i e : Expr} {to ti te : TE} {xP : V → V → Hp → VK → Prop} {Pt : Nu} {xO : zf} {op : Operator} {Ff : Pos} (h1 : ZE X o to) (h2 : ZE X i ti) (h3 : Sb X xP) (h4 : ZE X e te) (h5 : R' X op Pt) (h6 : Ea X xO) (h7 : autoParam
                  (∀ (ov iv new : Value),
                    augStore i ov iv new = do
                      holding [new, ov, iv] (setItem ov iv new)
                      release [new, ov, iv] []
                      pure Flow.next)
                  zV._auto_1) : ZS X (Stmt.AugAssign (Expr.Subscript o i Ff) op e pos) (vO to ti te xP Pt xO) := ⟨zV h1.to h2.to h3 h4.to h5 h6 h7⟩
theorem Et {X:Cx} {N:List Str} {sc:Scope} {x:Str} {pos:Pos} {e:Expr} {te:TE} {op:Operator} {ti:Nu} {pos':Pos} (h1:HC X N sc) (h2:List.Nodup N) (h3:(∀(x:Str),Cx.fn X x=true)) (i:Nat) (h4:JW N sc i x=true) (h5:ZE X e te) (h6:R' X op ti):ZS X (Stmt.AugAssign (Expr.Name x pos') op e pos) (Kg i te ti):=⟨K6 h1 h2 h3 i h4 h5.to h6⟩
theorem cE {X:Cx} {t u:TS} {pos:Pos} {c:Expr} {a b:List Stmt} {tc:TT} (h1:ZT X c tc) (h2:Bk X a t) (h3:Bk X b u):ZS X (Stmt.If c a b pos) (BM tc t u):=⟨Ua h1.to (.of h2.to) (.of h3.to)⟩
theorem rH {X:Cx} {pos:Pos} {c:Expr} {body:List Stmt} {tc:TT} {tb:TS} (h1:PassesOwn (model (Cx.prog X) (Cx.w X)) (Cx.A X) (Cx.env X) (Cx.xe X)) (h2:ZT X c tc) (h3:Bk X body tb):ZS X (Stmt.While c body [] pos) (xQ tc tb):=⟨Gq h1 h2.to (.of h3.to)⟩
theorem nI {X:Cx} {N:List Str} {sc:Scope} {x:Str} {pos:Pos} (h1:HC X N sc) (h2:List.Nodup N) (h3:(∀(x:Str),Cx.fn X x=true)) (i:Nat) (h4:JW N sc i x=true):ZG X (Expr.Name x pos) (cV i):=⟨pgk h1 h2 h3 i h4⟩
theorem dB {X:Cx} {pos:Pos} {tg iter:Expr} {body:List Stmt} {wi:TI} {g:TG} {tb:TS} (h1:PassesOwn (model (Cx.prog X) (Cx.w X)) (Cx.A X) (Cx.env X) (Cx.xe X)) (h2:Cx.calm X=true) (h3:ZI X tg iter wi) (h4:ZG X tg g) (h5:Bk X body tb) (h6:autoParam (∀(x:Value),foldedSetIterable iter (Cx.env X) x=pure x) Gr._auto_1):ZS X (Stmt.For tg iter body [] pos) (Kd wi g tb):=⟨Gr h1 h2 h3.to h4.to (.of h5.to) h6⟩
theorem bF {X:Cx}:Bk X [] rR:=⟨rF.to KD⟩
theorem az {X:Cx} {st:Stmt} {t:TS} (h1:ZS X st t):Bk X [st] t:=⟨rF.to (KC h1.to)⟩
theorem au {X:Cx} {st:Stmt} {rest:List Stmt} {t u:TS} (h1:ZS X st t) (h2:Bk X rest u):Bk X (st::rest) (BK t u):=⟨rF.to (Gp h1.to (.of h2.to))⟩
theorem js {X:Cx} {st:Stmt} {rest:List Stmt} {t u:TS} (h1:ZS X st t) (h2:Bk X rest u):Bk X (st::rest) (Kf t u):=⟨rF.to (KH h1.to (.of h2.to))⟩
theorem iK.pD {P:Program} {w:World} {K:PySem.W.Frag} {mg:Str->Option Value} {base:Heap} {x qual:Str} {st:Stmt} {f:Addr} {fd:FuncData} {N ps:List Str} {k:Nat} {sp:Sp} (F:iK K x qual st f fd) (S:aT N ps (ag st)) (len:∀vs H Q E,sp vs H Q E->vs.length=ps.length)
  (dN:∀(cC:Value) (A:Around) (outer:List Env) (s:Shared) (H:Hp) (vs:List V) (Q:VK) (E:XK),bW k (A.deeper (envOfC qual (ag st) s.heap.objs.size f cC))->sp vs H Q E->
   HC (eJ eL P w K mg base N qual (ag st) f cC A outer s H E).qP N (ag st)->(∀x,(eJ eL P w K mg base N qual (ag st) f cC A outer s H E).qP.fn x=true)->
   ∃t,Bk (eJ eL P w K mg base N qual (ag st) f cC A outer s H E).qP (aJ st) t/\t { nx:=fun _ H'=>Q .non H',rt:=Q } (start N vs) H):bO P w K mg base eL (k+1) f fd ps sp:=
 F.okK S len fun cC A outer s H vs Q E hr h hc hf=>let ⟨t,h1,h2⟩:=dN cC A outer s H vs Q E hr h hc hf;⟨t,.of h1.to,h2⟩
end L2
end
section
namespace L2
open PySem PySem.Spec PyProof.Rows
def ow (w:World):Bool:=w.params.followText "set-order"
theorem LW (t:SetTable) (es:Array (Int×Value)) (h:Int) (x:Value):(layNew t es h x).2.1.led=t.led:=by
 unfold layNew
 split
 ·dsimp only;unfold SetTable.orStandIn
  split <;> rfl
 ·rfl
theorem HQ {mask finger moves:Nat} {led plain:Bool} {hs:Array Int} {t':SetTable} {o:Array Nat} (h:SetTable.laid mask finger moves led plain hs=some (t',o)):t'.led=led/\t'.plain=plain:=by
 unfold SetTable.laid at h
 cases q:SetTable.layClean mask hs with
 | none=>rw [q] at h;cases h
 | some owner=>rw [q] at h;cases h;exact ⟨rfl,rfl⟩
theorem Cg (t:SetTable) (es:Array (Int×Value)) (k:Nat):(relayAll t es k).2.1.led=t.led:=by
 unfold relayAll
 split
 ·rename_i t' o q
  dsimp only
  split
  ·exact (HQ q).1
  ·rfl
 ·rfl
def aAR (w:World) (p:Str×Tok):Int×Value:=(hashStr w p.1,.str p.1 p.2)
def dm (es:Array (Int×Value)) (ep:Nat) (t:SetTable):Obj:={ cls:=.type "set",dict:=none,data:=.set es ep t }
structure aBy (w:World) (h:Heap) (a:Addr) (l:List (Str×Tok)):Prop where
 ex:∃es ep t,h.get? a=some (dm es ep t)/\es.toList=l.map (aAR w)/\t.fits es.size=true/\t.led = !ow w/\(l≠[]->t.plain=false)
 nd:(l.map (·.1)).Nodup
 sz:l.length < scanBound
section
variable {P:Program} {w:World} {A:Around} {E:Value->Shared->Prop} {s:Shared} {a:Addr} {l:List (Str×Tok)}
end
end L2
end
section
namespace L2
open PySem PySem.Spec PyProof.Rows
section
variable {P:Program} {w:World} {A:Around} {R:Result->Shared->Prop} {I:Addr} {fp wr:List Addr} {G:Array GenState->Array GenState->Prop} {n:Nat} {Pv:Nat->Value->Prop} {St:Nat->Shared->Prop}
end
section
variable {P:Program} {w:World} {A:Around} {E:Value->Shared->Prop} {s:Shared}
theorem zK {x:Value} {Q:Value->Shared->Prop} (h:Q (.ref s.heap.objs.size) { s with heap:=s.heap.push (dm #[] 0 (.fresh 0 0 (!ow w))) }) :
  codeAny (model P w) A (.call (.builtin "set.__new__") ⟨[.type "set",x],[]⟩) (wants Q E) s:=by
 refine codeAny_of_tree ?_
 refine wpAny_bind (m:=checkBuiltinCall "set.__new__" ⟨[.type "set",x],[]⟩) (wpAny_of_eq (PySem.F.newCall_set_1 x) (wpAny_pure ⟨plainId_quiet PySem.F.plain_set_new _,codeAny_builtin PySem.F.entry_set_new ?_⟩))
 rw [Around.under_plainId PySem.F.plain_set_new _]
 unfold Builtin.«set.__new__» Builtin.Frozenset.newClass
 have yL:=sub_set_self
 obtain ⟨hp,g,d,tk,os⟩:=s
 dsimp only
 wp_walk
 refine wpAny_askSetting (wpAny_pure ?_)
 dsimp only
 simp only [newObj]
 refine wpAny_bind (wpAny_alloc (wpAny_pure (wpAny_pure h)))
end
end L2
end
section
namespace L2
open PySem PySem.Spec PyProof.Rows
theorem dC:Slot "set_iterator" "__next__" "set_iterator.__next__":=
 .of (owner:="set_iterator") (n:="__next__") (by rw [typeLookup_type,builtinLookup_eq_fast];kernel_rfl) (by decide +kernel) (by decide +kernel) (by decide +kernel)
  (.inl (by decide +kernel)) (by rw [isSubtype_type];kernel_rfl)
theorem mV:Slot "set_iterator" "__iter__" "set_iterator.__iter__":=
 .of (owner:="set_iterator") (n:="__iter__") (by rw [typeLookup_type,builtinLookup_eq_fast];kernel_rfl) (by decide +kernel) (by decide +kernel) (by decide +kernel)
  (.inl (by decide +kernel)) (by rw [isSubtype_type];kernel_rfl)
theorem kI:entryFor table "set_iterator.__next__" = some Builtin.«set_iterator.__next__»:=entryFor_of_tree (by kernel_rfl)
theorem qW:entryFor table "set_iterator.__iter__" = some Builtin.«dict_keyiterator.__iter__»:=
 entryFor_alias (id':="dict_keyiterator.__iter__") (by kernel_rfl) rfl (by decide +kernel) (by kernel_rfl)
theorem qX:entryFor table "set.__iter__" = some Builtin.«frozenset.__iter__»:=
 entryFor_alias (id':="frozenset.__iter__") (by kernel_rfl) rfl (by decide +kernel) (by kernel_rfl)
theorem vQ:Manifest.owners.lookup (String.ofList "rotareti_tes".toList.reverse)=some Manifest.sig_set_iterator:=by kernel_rfl
theorem mW (a:Value):argsOk "set_iterator.__next__" ⟨[a],[]⟩:=by
 unfold argsOk;rw [signature?_of (id:="set_iterator.__next__") (n:="__txen__".toList) (o:="rotareti_tes".toList) (by kernel_rfl) vQ];kernel_rfl
theorem um (a:Value):argsOk "set_iterator.__iter__" ⟨[a],[]⟩:=by
 unfold argsOk;rw [signature?_of (id:="set_iterator.__iter__") (n:="__reti__".toList) (o:="rotareti_tes".toList) (by kernel_rfl) vQ];kernel_rfl
end L2
end
section
namespace L2
open PySem PySem.Spec PyProof.Rows
def kJ (first:Value) (i n ep:Nat) (a:Addr):Obj:={ cls:=.type "set_iterator",data:=.fields #[first,.int i 0,.ref a,.int n 0,.int ep 0] }
section
variable {P:Program} {w:World} {A:Around} {E:Value->Shared->Prop} {s:Shared} {a I:Addr} {es:Array (Int×Value)} {t:SetTable} {ep i n:Nat} {first:Value}
theorem mU (hI:s.heap.get? I=some (kJ first i n ep a)):s.TypeIs (.ref I) "set_iterator":=⟨_,hI,rfl⟩
theorem zH {Q:Value->Shared->Prop} (hI:s.heap.get? I=some (kJ first i n ep a)) (q:Q (.ref I) s):wpAny (model P w) A (pyIter (.ref I)) Q E s:=by
 refine wpAny_pyIter_slot (mU hI) mV (wpAny_call_entry mV (mU hI) qW ?_ (um _))
 exact wpAny_pure ⟨_,rfl,"set_iterator",_,mU hI,dC.lookup,q⟩
theorem FN {slot:Nat} {tk:Tok} {r:Option (Value×Nat)} {Q:Option Value->Shared->Prop} (hh:A.handled=none) (hI:s.heap.get? I=some (kJ (.int slot tk) i n ep a)) (hS:s.heap.get? a=some (dm es ep t)) (hf:t.fits es.size=true) (hn:es.size=n)
  (hx:∀(B:Around) (E':Value->Shared->Prop) (Q':Option (Value×Nat)->Shared->Prop),Q' r s->wpAny (model P w) B (setNext a slot i ep) Q' E' s)
  (q:match r with
   | some (x,nx)=>∀h',h'.get? I=some (kJ (.int (nx:Int) 0) (i+1) n ep a)->Heap.SameBut I s.heap h'->Q (some x) { s with heap:=h' }
   | none=>∀h',Heap.ExtBut I s.heap h'->Q none { s with heap:=h' }):wpAny (model P w) A (pyNext (.ref I)) Q E s:=by
 have hT:=mU hI
 unfold pyNext
 refine wpAny_bind (wpAny_attempt (wpAny_callSpecial?_slot (name:=Str.ofString "__next__") hT dC (wpAny_call_entry dC hT kI ?_ (mW _))))
 unfold Builtin.«set_iterator.__next__»
 refine wpAny_bind (m:=slotArgs _ _ _) (wpAny_pure ?_)
 refine wpAny_bind (wpAny_fieldsOf hI rfl ?_)
 refine wpAny_bind (m:=setEntries a) (wpAny_setEntries_of hS rfl hf ?_)
 rw [if_neg (by rw [hn];simp)]
 refine wpAny_bind (m:=setNext a slot i ep) (hx _ _ _ ?_)
 cases r with
 | some p=>
  obtain ⟨x,nx⟩:=p
  dsimp only at q ⊢
  refine wpAny_bind (m:=setField (.ref I) 0 (rawInt nx)) (wpAny_setField_rec hI (by simp) fun h1 e1 TY=>?_)
  refine wpAny_bind (m:=setField (.ref I) 1 (rawInt (i+1))) (wpAny_setField_rec e1 (by simp) fun h2 e2 YK=>?_)
  exact wpAny_pure ⟨x,rfl,wpAny_pure (q h2 (by rw [e2];rfl) (TY.trans YK))⟩
 | none=>
  dsimp only at q ⊢
  refine wpAny_bind (m:=setField (.ref I) 2 .none) (wpAny_setField_rec hI (by simp) fun h1 e1 TY=>?_)
  refine wpAny_bind (m:=newExc (.type "StopIteration") []) ?_
  simp only [newExc,newTuple]
  refine wpAny_bind (wpAny_newObj_type ?_ (by size_fits))
  refine wpAny_bind (m:=firstArgMember _ _) (wpAny_of_eq (a:=Value.none) (by first | rfl | (simp only [firstArgMember];rfl)) ?_)
  refine wpAny_newObj_type (wpAny_raiseNew_none hh ?_) (by size_fits)
  refine wpAny_bind (wpAny_isInstance (T:="StopIteration") (b:=true) ⟨_,Heap.get?_push_size _ rfl,rfl⟩ isSubtype_stop ?_)
  exact wpAny_pure (q _ ((TY.extBut.push _).push _))
theorem FK {p:Addr} {vs:Array Value} {c:Nat} {r:Option Value} {Q:Option Value->Shared->Prop} (hh:A.handled=none) (hI:s.heap.get? I=some (kJ (.ref p) i n ep a)) (hS:s.heap.get? a=some (dm es ep t)) (hf:t.fits es.size=true) (hn:es.size=n)
  (hp:s.heap.get? p=some { cls:=.type "tuple",data:=.seq vs c })
  (hv:match r with | some x=>∃(k:Nat) (z:Int),vs[i]? = some (.int k 0)/\es[k]? = some (z,x) | none=>vs[i]? = none)
  (q:match r with
   | some x=>∀h',h'.get? I=some (kJ (.ref p) (i+1) n ep a)->Heap.SameBut I s.heap h'->Q (some x) { s with heap:=h' }
   | none=>∀h',Heap.ExtBut I s.heap h'->Q none { s with heap:=h' }):wpAny (model P w) A (pyNext (.ref I)) Q E s:=by
 have hT:=mU hI
 unfold pyNext
 refine wpAny_bind (wpAny_attempt (wpAny_callSpecial?_slot (name:=Str.ofString "__next__") hT dC (wpAny_call_entry dC hT kI ?_ (mW _))))
 unfold Builtin.«set_iterator.__next__»
 refine wpAny_bind (m:=slotArgs _ _ _) (wpAny_pure ?_)
 refine wpAny_bind (wpAny_fieldsOf hI rfl ?_)
 refine wpAny_bind (m:=setEntries a) (wpAny_setEntries_of hS rfl hf ?_)
 rw [if_neg (by rw [hn];simp)]
 refine wpAny_bind (m:=seqItems? (.ref p)) (wpAny_seqItems hp rfl ?_)
 cases r with
 | some x=>
  obtain ⟨k,z,e1,e2⟩:=hv
  dsimp only at q ⊢
  simp only [Int.toNat_natCast,e1]
  refine wpAny_bind (m:=setNextDrawn a k ep) ?_
  unfold setNextDrawn
  refine wpAny_bind (wpAny_setState_of hS rfl hf ?_)
  dsimp only
  rw [if_neg (by simp)]
  simp only [e2]
  refine wpAny_pure ?_
  refine wpAny_bind (m:=setField (.ref I) 1 (rawInt (i+1))) (wpAny_setField_rec hI (by simp) fun h2 e2 YK=>?_)
  exact wpAny_pure ⟨x,rfl,wpAny_pure (q h2 (by rw [e2];rfl) YK)⟩
 | none=>
  dsimp only at q hv ⊢
  simp only [Int.toNat_natCast,hv]
  refine wpAny_bind (m:=setField (.ref I) 0 (rawInt 0)) (wpAny_setField_rec hI (by simp) fun h0 e0 sb0=>?_)
  refine wpAny_bind (m:=setField (.ref I) 2 .none) (wpAny_setField_rec e0 (by simp) fun h1 e1 TY=>?_)
  refine wpAny_bind (m:=newExc (.type "StopIteration") []) ?_
  simp only [newExc,newTuple]
  refine wpAny_bind (wpAny_newObj_type ?_ (by size_fits))
  refine wpAny_bind (m:=firstArgMember _ _) (wpAny_of_eq (a:=Value.none) (by first | rfl | (simp only [firstArgMember];rfl)) ?_)
  refine wpAny_newObj_type (wpAny_raiseNew_none hh ?_) (by size_fits)
  refine wpAny_bind (wpAny_isInstance (T:="StopIteration") (b:=true) ⟨_,Heap.get?_push_size _ rfl,rfl⟩ isSubtype_stop ?_)
  exact wpAny_pure (q _ (((sb0.trans TY).extBut.push _).push _))
end
end L2
end
section
namespace L2
open PySem PySem.Spec PyProof.Rows
theorem lV {α:Type}:∀(l:List α) (i:Nat) (x:α),l[i]? = some x->(x::l.eraseIdx i).Perm l
 | [],i,x,h=>by cases i <;> cases h
 | y::l,0,x,h=>by cases h;exact List.Perm.refl _
 | y::l,i+1,x,h=>by
  rw [List.getElem?_cons_succ] at h
  rw [List.eraseIdx_cons_succ]
  exact (List.Perm.swap y x _).trans ((lV l i x h).cons y)
theorem zY {α:Type} (next:Nat->Nat):∀(f k:Nat) (l:List α) (out:Array α),l.length=f->(pickOrder.go next f k l out).toList.Perm (out.toList++l)
 | 0,k,l,out,h=>by
  rw [List.length_eq_zero_iff.mp h,List.append_nil]
  unfold pickOrder.go
  exact List.Perm.refl _
 | f+1,k,l,out,h=>by
  unfold pickOrder.go
  have lt:next k % l.length < l.length:=Nat.mod_lt _ (by lia)
  have e:l[next k % l.length]? = some l[next k % l.length]:=List.getElem?_eq_getElem lt
  rw [e]
  dsimp only
  refine (zY next f (k+1) _ _ (by rw [List.length_eraseIdx_of_lt lt];lia)).trans ?_
  rw [Array.toList_push,List.append_assoc]
  exact (lV l _ _ e).append_left _
theorem sF {α:Type} (next:Nat->Nat) (xs:Array α):(pickOrder next xs).toList.Perm xs.toList:=by
 unfold pickOrder
 have:=zY next xs.size 0 xs.toList #[] Array.length_toList
 simpa using this
section
variable {P:Program} {w:World} {A:Around} {E:Value->Shared->Prop}
theorem tJ {α:Type}:∀(n:Nat) (xs:List α) (s:Shared) (Q:List α->Shared->Prop),xs.length=n->(∀ys d,ys.Perm xs->Q ys { s with drawn:=d })->wpAny (model P w) A (drawOrder n xs) Q E s
 | 0,xs,s,Q,h,q=>by
  have:xs=[]:=List.length_eq_zero_iff.mp h
  subst this
  unfold drawOrder
  exact wpAny_pure (by cases s;exact q [] _ (List.Perm.refl _))
 | n+1,[],s,Q,h,q=>by cases h
 | n+1,x::xs,s,Q,h,q=>by
  unfold drawOrder
  have lt:w.draws .order (s.drawn.get .order) % (x::xs).length < (x::xs).length:=Nat.mod_lt _ (by simp)
  refine wpAny_bind (m:=choose .order (x::xs).length) (fun Γ p hΓ=>?_)
  refine ⟨by simp,?_⟩
  have e:(x::xs)[w.draws .order (s.drawn.get .order) % (x::xs).length]? = some (x::xs)[w.draws .order (s.drawn.get .order) % (x::xs).length]:=List.getElem?_eq_getElem lt
  show wpAny (model P w) A (match (x::xs)[w.draws .order (s.drawn.get .order) % (x::xs).length]? with
   | some y=>do let r <-drawOrder n ((x::xs).eraseIdx (w.draws .order (s.drawn.get .order) % (x::xs).length));pure (y::r)
   | none=>unsupported "internal:drawOrder") Q E { s with drawn:=s.drawn.bump .order }
  rw [e]
  dsimp only
  refine wpAny_bind (tJ n _ _ _ (by rw [List.length_eraseIdx_of_lt lt];simp at h ⊢;lia) fun ys d hp=>wpAny_pure ?_)
  exact q _ d ((hp.cons _).trans (lV _ _ _ e))
variable {s:Shared} {a:Addr} {es:Array (Int×Value)} {t:SetTable} {ep slot i:Nat}
theorem iZ {Q:Bool->Shared->Prop} (q:Q (ow w) s):wpAny (model P w) A setsByText Q E s:=by
 unfold setsByText
 exact wpAny_bind (wpAny_askSetting (wpAny_pure q))
theorem wj {Q:Option (Value×Nat)->Shared->Prop} (hb:ow w=true) (hS:s.heap.get? a=some (dm es ep t)) (hf:t.fits es.size=true) (q:Q (((pickOrder (w.params.setOrder a ep) es)[i]?).map fun e=>(e.2,slot)) s) :
  wpAny (model P w) A (setNext a slot i ep) Q E s:=by
 unfold setNext
 refine wpAny_bind (wpAny_setState_of hS rfl hf (wpAny_bind (iZ ?_)))
 rw [hb]
 dsimp only
 rw [if_pos rfl,if_neg (by simp)]
 refine wpAny_bind ?_
 unfold setWalk
 refine wpAny_bind (wpAny_setState_of hS rfl hf (wpAny_bind (iZ ?_)))
 rw [hb,if_pos rfl]
 exact wpAny_bind (wpAny_askSetting (wpAny_pure (wpAny_pure q)))
end
end L2
end
section
namespace L2
open PySem PySem.Spec PyProof.Rows
section
variable {P:Program} {w:World} {B:Around} {a I:Addr} {es:Array (Int×Value)} {t:SetTable} {ep n:Nat} {ord:List Value}
theorem rN (slotAt:Nat->Nat) (hh:B.handled=none) (qQ:a≠I) (hf:t.fits es.size=true) (hn:es.size=n) (ho:ord.length=n)
  (hx:∀i,i<=n->∀(s:Shared) (C:Around) (E':Value->Shared->Prop) (Q':Option (Value×Nat)->Shared->Prop),s.heap.get? a=some (dm es ep t)->Q' ((ord[i]?).map fun v=>(v,slotAt (i+1))) s->wpAny (model P w) C (setNext a (slotAt i) i ep) Q' E' s) :
  WalksS P w B I [I,a] [I] (fun x y=>y=x) n (fun i v=>ord[i]? = some v) (fun i s=>s.heap.get? I=some (kJ (.int (slotAt i) 0) i n ep a)/\s.heap.get? a=some (dm es ep t)) where
 sub:=fun b hb=>by rw [List.mem_singleton.mp hb];exact List.mem_cons_self
 grefl:=fun _=>rfl
 gtrans:=fun _ _ _ h1 h2=>h2.trans h1
 frame:=fun i s h' tk st _ k=>⟨k I (by simp) _ st.1,k a (by simp) _ st.2⟩
 item:=fun i s Q E hi st q=>by
  have e:ord[i]? = some ord[i]:=List.getElem?_eq_getElem (by rw [ho];exact hi)
  refine FN (r:=some (ord[i],slotAt (i+1))) hh st.1 st.2 hf hn (fun C E' Q' hq=>hx i (Nat.le_of_lt hi) s C E' Q' st.2 (by rw [e];exact hq)) fun h' h1 h2=>?_
  exact q _ _ e ⟨h1,h2.extBut a _ qQ st.2⟩ ⟨fun b o hb z=>h2.extBut b o (fun y=>hb (by rw [y];exact List.mem_singleton.mpr rfl)) z,rfl,rfl,rfl,Nat.le_refl _⟩
 done:=fun s Q E st q=>by
  have e:ord[n]? = none:=List.getElem?_eq_none (by rw [ho];exact Nat.le_refl _)
  refine FN (r:=none) hh st.1 st.2 hf hn (fun C E' Q' hq=>hx n (Nat.le_refl _) s C E' Q' st.2 (by rw [e];exact hq)) fun h' h1=>?_
  exact q _ ⟨fun b o hb z=>h1 b o (fun y=>hb (by rw [y];exact List.mem_singleton.mpr rfl)) z,rfl,rfl,rfl,Nat.le_refl _⟩
 self:=fun i s Q E st q=>zH st.1 q
theorem Bx {p:Addr} {pl:List Nat} {c:Nat} (hh:B.handled=none) (qQ:a≠I) (hnp:p≠I) (hf:t.fits es.size=true) (hn:es.size=n) (ho:ord.length=n) (hl:pl.length=n)
  (hx:∀i:Nat,i < n->∃(k:Nat) (z:Int) (x:Value),pl[i]? = some k/\es[k]? = some (z,x)/\ord[i]? = some x) :
  WalksS P w B I [I,a,p] [I] (fun x y=>y=x) n (fun i v=>ord[i]? = some v)
   (fun i s=>s.heap.get? I=some (kJ (.ref p) i n ep a)/\s.heap.get? a=some (dm es ep t)/\s.heap.get? p=some { cls:=.type "tuple",data:=.seq (pl.map fun (j:Nat)=>Value.int j 0).toArray c }) where
 sub:=fun b hb=>by rw [List.mem_singleton.mp hb];exact List.mem_cons_self
 grefl:=fun _=>rfl
 gtrans:=fun _ _ _ h1 h2=>h2.trans h1
 frame:=fun i s h' tk st _ k=>⟨k I (by simp) _ st.1,k a (by simp) _ st.2.1,k p (by simp) _ st.2.2⟩
 item:=fun i s Q E hi st q=>by
  obtain ⟨k,z,x,e1,e2,e3⟩:=hx i hi
  refine FK (r:=some x) hh st.1 st.2.1 hf hn st.2.2 ⟨k,z,by simp [e1],e2⟩ fun h' h1 h2=>?_
  exact q _ _ e3 ⟨h1,h2.extBut a _ qQ st.2.1,h2.extBut p _ hnp st.2.2⟩ ⟨fun b o hb z=>h2.extBut b o (fun y=>hb (by rw [y];exact List.mem_singleton.mpr rfl)) z,rfl,rfl,rfl,Nat.le_refl _⟩
 done:=fun s Q E st q=>by
  refine FK (r:=none) hh st.1 st.2.1 hf hn st.2.2 (by simp [hl]) fun h' h1=>?_
  exact q _ ⟨fun b o hb z=>h1 b o (fun y=>hb (by rw [y];exact List.mem_singleton.mpr rfl)) z,rfl,rfl,rfl,Nat.le_refl _⟩
 self:=fun i s Q E st q=>zH st.1 q
end
section
variable {P:Program} {w:World} {A:Around} {E:Value->Shared->Prop} {s:Shared} {a:Addr} {l:List (Str×Tok)}
end
end L2
end
section
namespace L2
open PySem PySem.Spec PyProof.Rows
section
variable {P:Program} {w:World} {A:Around} {E:Value->Shared->Prop} {s:Shared} {a:Addr} {l:List (Str×Tok)}
theorem FP {Q:Bool->Shared->Prop} (hT:s.TypeIs (.ref a) "set") (q:Q false s):wpAny (model P w) A (Builtin.List.listLengthHint (.ref a)) Q E s:=by
 unfold Builtin.List.listLengthHint
 refine wpAny_bind (wpAny_specialOf hT PySem.F.slot_set_len.lookup ?_)
 generalize hid:("set.__len__" : String)=id0
 wp_delta
 rw [show splitId id0=some ("set","__len__") from by subst hid;decide +kernel]
 subst hid
 refine wpAny_bind (wpAny_isInstance (T:="set") (b:=true) hT (by rw [isSubtype_type];kernel_rfl) ?_)
 refine wpAny_ite_split (fun z=>absurd z (by decide)) (fun _=>wpAny_ite_split (fun _=>?_) (fun z=>absurd (by decide +kernel) z))
 exact wpAny_bind (wpAny_typeOf hT (wpAny_pure q))
end
theorem Inv.same {X:Cx} {pins:List (Addr×Obj)} {σ:List (Option V)} {H:Hp} {s s':Shared} (I:Inv X pins σ H s) (hh:s'.heap=s.heap) (hg:s'.gens=s.gens) (ho:s'.os=s.os):Inv X pins σ H s':=
 ⟨I.ok,by rw [ho];exact I.os,by rw [hg];exact I.bare,by rw [hh];exact I.base,by rw [hh];exact I.loc,by rw [hh];exact I.cell,I.free,I.iz,by rw [hh];exact I.pin,by rw [hh];exact I.bh,I.len⟩
def TxS (w:World) (p:Addr) (ss:List Str):HO:=.ext fun h=>∃l,aBy w h p l/\∀z,z∈l.map (·.1)↔z∈ss
section
variable {X:Cx}
theorem sQ {α:Type} [DecidableEq α]:∀{l m:List α},l.Nodup->(∀x∈l,x∈m)->l.length<=m.length
 | [],m,_,_=>Nat.zero_le _
 | x::l,m,h,k=>by
  have hx:=k x List.mem_cons_self
  have:=sQ (m:=m.erase x) (List.nodup_cons.mp h).2 fun y hy=>(List.mem_erase_of_ne (fun (e:y=x)=>(List.nodup_cons.mp h).1 (by rw [<-e];exact hy))).mpr (k y (List.mem_cons_of_mem _ hy))
  rw [List.length_erase_of_mem hx] at this
  have p:0 < m.length:=List.length_pos_of_mem hx
  rw [List.length_cons];lia
end
end L2
end
section
namespace L2
open PySem PySem.Spec PyProof.Rows
theorem t8 (K:PySem.W.Frag) (z:Str) (H:Hp):WM K "str" (.str z) H=True:=eq_true rfl
theorem cU {α:Type} [DecidableEq α]:∀{l r:List α},l.Nodup->(∀x∈l,x∈r)->l.length<=r.length
 | [],_,_,_=>Nat.zero_le _
 | x::l,r,hn,hs=>by
  have hx:=hs x List.mem_cons_self
  have tf:=List.nodup_cons.mp hn
  have:=cU (l:=l) (r:=r.erase x) tf.2 fun y hy=>(List.mem_erase_of_ne (fun e:y=x=>tf.1 (by rw [<-e];exact hy))).mpr (hs y (List.mem_cons_of_mem _ hy))
  rw [List.length_erase_of_mem hx] at this
  have h0:0 < r.length:=List.length_pos_of_mem hx
  rw [List.length_cons];lia
end L2
end
section
namespace L2
open PySem PySem.Spec PyProof.Rows
section
variable {X:Cx}
def Gv (w:World):List V->Hp->VK->Prop:=fun vs H Q=>∃a,vs=[.ref a]/\∃ss:List Str,H a=some (.lst (ss.map V.str))/\ss.length < 4000/\∀p,H p=none->Q (.ref p) (upd H p (TxS w p ss))
def p6 (w:World):List V->Hp->VK->Prop:=fun vs H Q=>∃a,vs=[.ref a]/\∃ss:List Str,H a=some (TxS w a ss)/\ss.length < 64/\
 ∀ss':List Str,(∀z,z∈ss'↔z∈ss)->ss'.Nodup->sortedS ss'=true->∀p,H p=none->Q (.ref p) (upd H p (.lst (ss'.map V.str)))
def zS:List V->Hp->VK->Prop:=fun vs H Q=>∃a,vs=[.ref a]/\∃bs:List Bool,H a=some (.lst (bs.map V.bl))/\Q (.bl (bs.all id)) H
theorem JD:∀{bs:List Bool} {us:List Value},Vals (bs.map V.bl) us->∀(i:Nat) (v:Value),us[i]? = some v->v=.bool (bs.getD i true):=by
 intro bs
 induction bs with
 | nil=>intro us r i v h;cases r;cases i <;> cases h
 | cons b bs ih=>
  intro us r i v h
  rw [List.map_cons] at r
  cases r with
  | cons r1 r2=>
   cases r1
   cases i with
   | zero=>cases h;rfl
   | succ i=>exact ih r2 i v (by simpa using h)
theorem all_range:∀(bs:List Bool),((List.range bs.length).all fun i=>bs.getD i true)=bs.all id
 | []=>rfl
 | b::bs=>by
  rw [List.length_cons,List.range_succ_eq_map,List.all_cons,List.all_map,List.all_cons,<-all_range bs]
  rfl
theorem DQ (hh:X.A.handled=none):dA X (.builtin "all") zS:=by
 intro pins s σ H vs us Q I rv h
 obtain ⟨a,rfl,bs,hq,q⟩:=h
 obtain ⟨u,rfl,ru⟩:=vals1 rv
 cases ru
 obtain ⟨its,r,pl,hz⟩:=I.list (bC hq)
 have hl:=r.length
 rw [List.length_map] at hl
 have lt:a < s.heap.objs.size:=let ⟨_,e,_⟩:=pl.isList;Heap.lt_size e
 refine call_all_walkS (wpAny_pyIter_list pl.isList ⟨s.heap.objs.size,_,_,_,its.toArray.size,_,_,fun i=>bs.getD i true,rfl,(Walks.list (A:=X.A.in1) hh _ a (Nat.ne_of_lt lt) its.toArray).toS,⟨⟨_,Heap.get?_push_size _ rfl,rfl,rfl⟩,(pl.isList).push _⟩,?_,fun s' mv=>?_⟩)
 ·intro i v s1 Q1 E1 hv hq1
  have:v=.bool (bs.getD i true):=JD r i v (by simpa using hv)
  subst this
  exact wpAny_pure hq1
 ·rw [List.size_toArray,<-hl,all_range]
  have k:∀b o,s.heap.get? b=some o->s'.heap.get? b=some o:=fun b o e=>mv.heap b o (fun z=>absurd (Heap.lt_size e) (by rw [List.mem_singleton.mp z];exact Nat.lt_irrefl _)) (Heap.get?_push_of_some _ e)
  have I1:Inv X pins σ H { s with heap:=s'.heap,toks:=s.toks }:=I.un (Un.kept k) (I.bh.kept k)
  exact ⟨.bl (bs.all id),H,I1.same rfl mv.gens mv.os,rfl,q⟩
end
end L2
end
section
namespace L2
open PySem PySem.Spec PyProof.Rows
section
variable {P:Program} {w:World} {κ:Type} [DecidableEq κ] {knd:PySem.KeyKind P w κ} {A:Around} {E:Value->Shared->Prop} {s:Shared} {a b:Addr} {aE HS:List (κ×Value)}
end
section
variable {X:Cx}
def Qc (neg:Bool):R2:=fun x y H Q=>∃a b,x=.ref a/\y=.ref b/\∃aE,H a=some (.dK aE)/\H b=some (.dK aE)/\(∀kv∈aE,∃c,kv.2=.bl c)/\Q (.bl (!neg)) H
def pZ:V->List V->Hp->VK->Prop:=fun x vs H Q=>∃a b,x=.ref a/\vs=[.ref b]/\a≠b/\∃aE,H a=some (.dK aE)/\∃more,H b=some (.dK more)/\aE.length+more.length<=sizeLine/\Q .non (upd H a (.dK (QJ aE more)))
end
end L2
end
section
namespace L2
open PySem PySem.Spec PyProof.Rows
section
variable {X:Cx} {pins:List (Addr×Obj)} {s:Shared} {σ:St} {H:Hp} {A:Around}
theorem ph {xs:List V} {us:List Value} {j:Nat} {x:V} (r:Vals xs us) (h:j < us.toArray.size) (e:xs[j]? = some x):RelV x us.toArray[j]:=by
 have h':j < us.length:=by simpa using h
 obtain ⟨u,eu,ru⟩:=r.get e
 have:=List.getElem?_eq_getElem h'
 rw [eu] at this
 have e1:us.toArray[j]=u:=by simpa using (Option.some.inj this).symm
 rw [e1];exact ru
end
end L2
end
section
namespace L2
open PySem PySem.Spec PyProof.Rows
section
variable {P:Program} {w:World} {A:Around} {E:Value->Shared->Prop} {s:Shared}
theorem xl {T:String} {r d:Addr} {n:Nat} {Pd:Nat->Value->Prop} {OK:Heap->Prop} {Q:List Value->Shared->Prop} (K:PySem.W.KdlSrc P w T r d n Pd OK) (hh:A.handled=none) (bh:OK s.heap) (hn:n<=sizeLine)
  (q:∀(s':Shared) (vs:List Value),(∀b o,s.heap.get? b=some o->s'.heap.get? b=some o)->s.heap.objs.size<=s'.heap.objs.size->s'.gens=s.gens->s'.os=s.os->vs.length=n->(∀(j:Nat) v,vs[j]? = some v->Pd j v)->Q vs s'):wpAny (model P w) A (collect (.ref r)) Q E s:=by
 have lt:=K.there _ bh
 unfold collect
 refine wpAny_bind (wpAny_runValue (codeAny_builtin entry_proto_collect' ?_))
 rw [Around.under_plainId PySem.F.plain_proto_collect _]
 refine wpAny_bind (m:=newList []) (wpAny_newObj_type ?_)
 refine wpAny_pure ⟨plainId_quiet PySem.F.plain_list_iadd _,codeAny_builtin entry_list_iadd' ?_⟩
 rw [Around.under_plainId PySem.F.plain_list_iadd _]
 let L0:Obj:={ cls:=.type "list",data:=.seq ([]:List Value).toArray }
 have k0:∀b o,s.heap.get? b=some o->(s.heap.push L0).get? b=some o:=fun b o e=>Heap.get?_push_of_some _ e
 have hL:(s.heap.push L0).get? s.heap.objs.size=some L0:=Heap.get?_push_size _ rfl
 show wpAny _ A.in1 (Builtin.List.listExtendWith (.ref s.heap.objs.size) (.ref r) (.ref s.heap.objs.size)) _ _ { s with heap:=s.heap.push L0 }
 let R0:Result->Shared->Prop:=fun r s'=>match r with
  | .ok (.ret v)=>wpAny (model P w) A (match v with
   | .ref a=>do
    let o <-load a
    match o.data with
     | .seq xs _=>pure xs.toList
     | _=>unsupported "internal:collect"
   | _=>unsupported "internal:collect") Q E s'
  | .ok _=>False
  | .error e=>E e s'
 refine PySem.W.kdl_extend (R:=R0) (s:={ s with heap:=s.heap.push L0 }) K hh (K.keep _ _ bh fun b _ o e=>k0 b o e) s.heap.objs.size (Nat.ne_of_gt lt.1) (Nat.ne_of_gt lt.2) _ 0 hL (fun h' tk acc c hk hS wZ=>?_) hn
 refine wpAny_bind (m:=load s.heap.objs.size) (wpAny_load hS (wpAny_pure ?_))
 exact q _ acc.toList (fun b o e=>hk b o (Nat.ne_of_lt (Heap.lt_size e)) (k0 b o e)) (Nat.le_of_lt (Heap.lt_size hS)) rfl rfl (by rw [Array.length_toList];exact wZ.1) fun j v e=>wZ.2 j v (by rw [<-Array.getElem?_toList];exact e)
end
section
variable {X:Cx}
end
end L2
end
section
namespace L2
open PySem PySem.Spec PyProof.Rows
section
variable {X:Cx} {tg:Expr}
end
section
variable {X:Cx}
end
end L2
end
section
namespace L2
open PySem PySem.Spec PyProof.Rows
theorem jQ {K:PySem.W.Frag} {a:Addr} {zs:List V} {idx:List Nat} {tt:CB->TT} {te:CB->TE} {σ:St} {Q:VK} {H1:Hp} (Pv:Addr->Nat->List V->Hp->Prop) (h0:∀D,H1 D=none->Pv D 0 [] (upd H1 D (.lst [])))
  (hl:∀D,H1 D=none->∀i ys H,i<=zs.length->Pv D i ys H->H a=some (.tup zs))
  (hs:∀D,H1 D=none->∀i x ys H,zs[i]? = some x->Pv D i ys H->∀(c:CB),tt c (some x::bQ σ idx) H fun b H4=>if b=true then te c (some x::bQ σ idx) H4 fun y H5=>H5 D=some (.lst ys)/\ys.length < sizeLine/\Pv D (i+1) (ys++[y]) (upd H5 D (.lst (ys++[y]))) else Pv D (i+1) ys H4)
  (hd:∀D,H1 D=none->∀ys H,Pv D zs.length ys H->Q (.ref D) H):gX (Ny K a) 1 idx (fun _=>cV 0) tt te σ Q H1:=by
 intro D hD
 refine ⟨fun i m ys H=>m=zs.length - i/\i<=zs.length/\Pv D i ys H,⟨zs.length,by simp,Nat.zero_le _,h0 D hD⟩,?_⟩
 rintro i m ys H ⟨rfl,hi,p⟩
 by_cases gi:i < zs.length
 ·refine .inr ⟨⟨zs,zs[i],bR (hl D hD i ys H hi p),List.getElem?_eq_getElem gi⟩,Pv D (i+1),fun nM H' p'=>⟨zs.length - (i+1),by omega,rfl,gi,p'⟩,fun c own ho y H' yl=>?_⟩
  obtain ⟨e,hy⟩:=yl
  subst e
  have ey:=hy zs (bR (hl D hD i ys H' hi p))
  show (∃du,du.length=1/\(own++bQ σ idx).set 0 _=du++bQ σ idx)/\tt c ((own++bQ σ idx).set 0 _) H' _
  rw [Qv ho]
  exact ⟨⟨[_],rfl,rfl⟩,hs D hD i y ys H' ey p c⟩
 ·have e:i=zs.length:=by omega
  subst e
  exact .inl ⟨⟨zs,bR (hl D hD _ ys H hi p),Nat.le_refl _⟩,hd D hD ys H p⟩
section
variable {X:Cx}
end
end L2
end
section
namespace L2
open PySem PySem.Spec PyProof.Rows
section
variable {X:Cx}
def P' (neg:Bool):R2:=fun x y H Q=>∃c d,x=.bl c/\y=.bl d/\Q (.bl (if neg then c != d else c == d)) H
end
end L2
end
section
namespace L2
open PySem PySem.Spec PyProof.Rows
section
variable {X:Cx}
theorem Jx {prog:Program} {w:World} {A:Around} {E:Value->Shared->Prop} {s:Shared} {t b:Addr} {ws:List Value} {Q:Value->Shared->Prop} (ht:IsTup s.heap t (([]:List Value)).toArray) (hb:IsTup s.heap b ws.toArray)
  (h1:Q (.ref b) s):wpAny (model prog w) A (binaryOp .Add (.ref t) (.ref b)) Q E s:=by
 obtain ⟨⟨cls,dd,data,sl⟩,ho,hc,n,hd⟩:=id ht
 obtain ⟨⟨V9,Pa,data2,BW⟩,J1,Oy,n2,hd2⟩:=id hb
 simp only at hc hd Oy hd2
 subst hc hd Oy hd2
 exact concat_meets ⟨_,ho,rfl⟩ ⟨_,J1,rfl⟩ noFill_tuple_add seq_tuple_add PySem.F.slot_tuple_add PySem.F.entry_tuple_add (PySem.F.args_tuple_add_2 _ _)
   (tuple_addW0 t b _ ws.toArray n n2 dd Pa sl BW rfl) ⟨ho,J1,h1⟩
def zQ:R2:=fun x y H Q=>∃a b,x=.ref a/\y=.ref b/\∃xs,H a=some (.tup xs)/\∃ys,H b=some (.tup ys)/\xs.length+ys.length<=sizeLine/\
 ∀p H',bU H H'->(∀c,c≠p->H' c=H c)->H' p=some (.tup (xs++ys))->Q (.ref p) H'
theorem v3:kR X (binaryOp .Add) zQ:=by
 intro pins s σ H x y v u Q I rx ry h
 obtain ⟨a,b,rfl,rfl,xs,ha,ys,hb,hz,q⟩:=h
 by_cases hx:xs=[]
 ·subst hx
  cases rx;cases ry
  obtain ⟨its,r1,p1,_⟩:=I.tuple (bR ha)
  obtain ⟨wD,r2,p2,_⟩:=I.tuple (bR hb)
  cases r1
  exact Jx p1 p2 ⟨.ref b,H,I,rfl,q b H (bU.refl H) (fun _ _=>rfl) hb⟩
 ·exact Lp pins s σ H _ _ v u Q I rx ry ⟨a,b,xs,ys,rfl,rfl,bR ha,bR hb,hx,hz,fun e=>q a H (bU.refl H) (fun _ _=>rfl) (by rw [e,List.append_nil];exact ha),fun _ p hp=>q p _ (fun b u e=>by rw [aq (aj e hp)];exact e) (fun c hc=>aq hc) ah⟩
end
end L2
end
section
namespace L2
open PySem PySem.Spec PyProof.Rows
section
variable {X:Cx}
def aBz (lo st:Int) (n:Nat):It:=⟨fun i _=>i < n,fun i H x H'=>H'=H/\x=.int (lo+i * st),fun i _=>n<=i⟩
def HY (ta:TA):TI:=fun σ H R=>ta σ H fun vs H1=>∃i j:Int,vs=[.int i,.int j,.int 2]/\(0<=i/\i<=1000/\-1<=j/\j<=1000)/\R (aBz i 2 ((j - i+1) / 2).toNat) H1
end
end L2
end
section
namespace L2
open PySem PySem.Spec PyProof.Rows Builtin Builtin.Str
section
variable {X:Cx}
end
end L2
end
section
namespace L2
open PySem PySem.W PyProof.Rows
structure Ord (b:Nat->Nat->Bool) (n:Nat):Prop where
 tr:∀i j k,i < n->j < n->k < n->b i j=true->b j k=true->b i k=true
 asy:∀i j,i < n->j < n->b i j=true->b j i=false
 tot:∀i j,i < n->j < n->i≠j->b i j=true\/b j i=true
abbrev tW (p:Array Nat) (i:Nat):Nat:=p.getD i 0
structure vq (p:Array Nat) (n:Nat):Prop where
 perm:p.Perm (List.range n).toArray
theorem vq.size {p:Array Nat} {n:Nat} (h:vq p n):p.size=n:=by rw [h.perm.size_eq];simp
theorem vq.lt {p:Array Nat} {n:Nat} (h:vq p n) (hn:0 < n) (i:Nat):tW p i < n:=by
 unfold tW
 rw [Array.getD_eq_getD_getElem?]
 by_cases hi:i < p.size
 ·rw [Array.getElem?_eq_getElem hi]
  have:=(h.perm.mem_iff (a:=p[i])).mp (Array.getElem_mem hi)
  simpa using this
 ·rw [Array.getElem?_eq_none (by lia)]
  exact hn
theorem vq.ne {p:Array Nat} {n:Nat} (h:vq p n) {i j:Nat} (hi:i < n) (hj:j < n) (d:i≠j):tW p i≠tW p j:=by
 have nd:p.toList.Nodup:=(Array.perm_iff_toList_perm.mp h.perm).nodup_iff.mpr (by simpa using List.nodup_range)
 have hs:=h.size
 intro e
 unfold tW at e
 rw [Array.getD_eq_getD_getElem?,Array.getD_eq_getD_getElem?,Array.getElem?_eq_getElem (by lia:i < p.size),Array.getElem?_eq_getElem (by lia:j < p.size)] at e
 have e':p.toList[i]'(by simpa using by lia)=p.toList[j]'(by simpa using by lia):=by simpa using e
 exact d ((List.getElem_inj nd).mp e')
def Ef (b:Nat->Nat->Bool) (p:Array Nat) (m:Nat):Prop:=∀i,i+1 < m->b (tW p i) (tW p (i+1))=true
section
variable {b:Nat->Nat->Bool} {n:Nat}
theorem Ef.all (O:Ord b n) {p:Array Nat} (h:vq p n) (hn:0 < n) {m:Nat} (a:Ef b p m) (hm:m<=n):∀d i,i+(d+1) < m->b (tW p i) (tW p (i+(d+1)))=true
 | 0,i,hi=>a i hi
 | d+1,i,hi=>O.tr _ _ _ (h.lt hn _) (h.lt hn _) (h.lt hn _) (Ef.all O h hn a hm d i (by lia)) (a (i+(d+1)) hi)
theorem Ef.lt (O:Ord b n) {p:Array Nat} (h:vq p n) (hn:0 < n) {m:Nat} (a:Ef b p m) (hm:m<=n) {i j:Nat} (Mt:i < j) (hj:j < m):b (tW p i) (tW p j)=true:=by
 have:=Ef.all O h hn a hm (j - i - 1) i (by lia)
 rwa [show i+(j - i - 1+1)=j by lia] at this
end
end L2
end
section
namespace L2
open PySem PySem.W PyProof.Rows
def O6:Bool->Keyed->Array Keyed->Nat->Nat->Nat->StateT SortSt Sem (Option Nat):=sortPriv% PySem.Builtin.gallop
def Z':Array Keyed->Array Keyed->StateT SortSt Sem (Array Keyed):=sortPriv% PySem.Builtin.mergeLo
def mHi:Array Keyed->Array Keyed->StateT SortSt Sem (Array Keyed):=sortPriv% PySem.Builtin.mergeHi
abbrev cF (st:SortSt) (g:Nat):SortSt:=SortSt.mk' (kindOf st) (arrOf st) (pendingOf st) g (failedOf st)
def R9 (lf:Bool) (ky:Keyed) (xs:Array Keyed) (bs i:Nat):StateT SortSt Sem (Option Bool):=do
 let z <-elem' xs (bs+i)
 if lf then lt' z ky else return (<-lt' ky z).map (!·)
theorem RT (lf:Bool) (ky:Keyed) (xs:Array Keyed) (bs m ht:Nat):O6 lf ky xs bs m ht=(do
 let mut lst:=0
 let mut of:=1
 let mut l:=0
 let mut h:=0
 let some rgt <-R9 lf ky xs bs ht | return none
 if rgt then
  let mx:=m - ht
  for _ in [0:m] do
   if of>=mx then break
   let some mo <-R9 lf ky xs bs (ht+of) | return none
   if !mo then break
   lst:=of
   of:=2 * of+1
  l:=ht+lst+1
  h:=ht+min of mx
 else
  let mx:=ht+1
  for _ in [0:m] do
   if of>=mx then break
   let some fd <-R9 lf ky xs bs (ht - of) | return none
   if fd then break
   lst:=of
   of:=2 * of+1
  l:=ht+1 - min of mx
  h:=ht - lst
 for _ in [0:m] do
  if l>=h then break
  let c:=l+(h - l) / 2
  let some mo <-R9 lf ky xs bs c | return none
  if mo then l:=c+1 else h:=c
 return some h):=rfl
theorem QL (a b:Array Keyed):Z' a b=(do
 rule "list.sort.merge-lo"
 let tot:=a.size+b.size
 let fin (o:Array Keyed) (x y:Nat):=o++a.extract x a.size++b.extract y b.size
 let W8 (o:Array Keyed) (x y:Nat):=o++b.extract y b.size++a.extract x a.size
 let mut o:Array Keyed:=#[<-elem' b 0]
 let mut x:=0
 let mut y:=1
 if y == b.size then return fin o x y
 if x+1 == a.size then return W8 o x y
 let mut mg:=gallopOf (<-get)
 for _ in [0:tot] do
  let mut na:=0
  let mut nb:=0
  for _ in [0:tot] do
   let some bw <-lt' (<-elem' b y) (<-elem' a x) | return fin o x y
   if bw then
    o:=o.push (<-elem' b y);y:=y+1;nb:=nb+1;na:=0
    if y == b.size then return fin o x y
    if nb>=mg then break
   else
    o:=o.push (<-elem' a x);x:=x+1;na:=na+1;nb:=0
    if x+1 == a.size then return W8 o x y
    if na>=mg then break
  rule "list.sort.gallop"
  mg:=mg+1
  for _ in [0:tot] do
   if mg > 1 then mg:=mg - 1
   modify fun st=>cF st mg
   let some k <-O6 false (<-elem' b y) a x (a.size - x) 0 | return fin o x y
   na:=k
   if k > 0 then
    o:=o++a.extract x (x+k);x:=x+k
    if x+1 == a.size then return W8 o x y
    if x == a.size then return fin o x y
   o:=o.push (<-elem' b y);y:=y+1
   if y == b.size then return fin o x y
   let some k <-O6 true (<-elem' a x) b y (b.size - y) 0 | return fin o x y
   nb:=k
   if k > 0 then
    o:=o++b.extract y (y+k);y:=y+k
    if y == b.size then return fin o x y
   o:=o.push (<-elem' a x);x:=x+1
   if x+1 == a.size then return W8 o x y
   if na < 7 && nb < 7 then break
  mg:=mg+1
  modify fun st=>cF st mg
 unsupported "internal:list.sort.merge-bound"):=rfl
theorem QM (a b:Array Keyed):mHi a b=(do
 rule "list.sort.merge-hi"
 let tot:=a.size+b.size
 let fin (o:Array Keyed) (x y:Nat):=a.extract 0 x++b.extract 0 y++o.reverse
 let XF (o:Array Keyed) (x y:Nat):=b.extract 0 y++a.extract 0 x++o.reverse
 let mut x:=a.size - 1
 let mut y:=b.size
 let mut o:Array Keyed:=#[<-elem' a x]
 if x == 0 then return fin o x y
 if y == 1 then return XF o x y
 let mut mg:=gallopOf (<-get)
 for _ in [0:tot] do
  let mut na:=0
  let mut nb:=0
  for _ in [0:tot] do
   let some aw <-lt' (<-elem' b (y - 1)) (<-elem' a (x - 1)) | return fin o x y
   if aw then
    x:=x - 1;o:=o.push (<-elem' a x);na:=na+1;nb:=0
    if x == 0 then return fin o x y
    if na>=mg then break
   else
    y:=y - 1;o:=o.push (<-elem' b y);nb:=nb+1;na:=0
    if y == 1 then return XF o x y
    if nb>=mg then break
  rule "list.sort.gallop"
  mg:=mg+1
  for _ in [0:tot] do
   if mg > 1 then mg:=mg - 1
   modify fun st=>cF st mg
   let some e <-O6 false (<-elem' b (y - 1)) a 0 x (x - 1) | return fin o x y
   let k:=x - e
   na:=k
   if k > 0 then
    o:=o++(a.extract e x).reverse;x:=e
    if x == 0 then return fin o x y
   y:=y - 1;o:=o.push (<-elem' b y)
   if y == 1 then return XF o x y
   let some e <-O6 true (<-elem' a (x - 1)) b 0 y (y - 1) | return fin o x y
   let k:=y - e
   nb:=k
   if k > 0 then
    o:=o++(b.extract e y).reverse;y:=e
    if y == 1 then return XF o x y
    if y == 0 then return fin o x y
   x:=x - 1;o:=o.push (<-elem' a x)
   if x == 0 then return fin o x y
   if na < 7 && nb < 7 then break
  mg:=mg+1
  modify fun st=>cF st mg
 unsupported "internal:list.sort.merge-bound"):=rfl
theorem QR (i:Nat):mergeAt' i=(do
 let st <-get
 let (some (sa,na,pw),some (sb,nb,_)):=((pendingOf st)[i]?,(pendingOf st)[i+1]?) | unsupported "internal:list.sort.pending"
 set (setPending st (((pendingOf st).setIfInBounds i (sa,na+nb,pw)).eraseIdxIfInBounds (i+1)))
 let some k <-O6 false (<-elem' (arrOf st) sb) (arrOf st) sa na 0 | return false
 let (sa,na):=(sa+k,na - k)
 if na == 0 then return true
 let some nb <-O6 true (<-elem' (arrOf st) (sa+na - 1)) (arrOf st) sb nb (nb - 1) | return false
 if nb == 0 then return true
 let x:=(arrOf st).extract sa sb
 let y:=(arrOf st).extract sb (sb+nb)
 let mgd <-if na<=nb then Z' x y else mHi x y
 modify fun st=>setArr st (mgd.toList.zipIdx.foldl (fun a (p,j)=>a.setIfInBounds (sa+j) p) (arrOf st))
 return (failedOf (<-get)).isNone):=rfl
end L2
end
section
namespace L2
open PySem PySem.W PyProof.Rows
section
variable {prog:Program} {w:World} {A:Around} {E:Value->Shared->Prop} {s:Shared} {κ:SortKind} {r:Keyed->Int} {U:Keyed->Prop}
def S' (prog:Program) (w:World) (A:Around) (s:Shared) (κ:SortKind) (r:Keyed->Int) (U:Keyed->Prop):Prop:=
 ∀x y (Q:Bool->Shared->Prop),U x->U y->Q (decide (r x < r y)) s->wpAny (model prog w) A (keyLt' κ x.1 y.1) Q (fun _ _=>False) s
theorem FX (C:S' prog w A s κ r U) {x y:Keyed} {Q:Option Bool->SortSt->Prop} {st:SortSt} (hx:U x) (hy:U y) (hk:kindOf st=κ) (h:Q (some (decide (r x < r y))) st):wpS (model prog w) A E s (lt' x y) Q st:=by
 rw [lt'_eq]
 refine wpS_bind (wpS_get ?_)
 rw [hk]
 refine wpS_bind (wpS_lift (wpAny_attempt (wpAny_mono (C x y (fun b s'=>s'=s/\b=decide (r x < r y)) hx hy ⟨rfl,rfl⟩) (fun b s' h'=>?_) fun _ _ hF=>hF.elim)))
 obtain ⟨rfl,rfl⟩:=h'
 exact ⟨rfl,wpS_pure h⟩
theorem cz {xs:Array Keyed} {i:Nat} {Q:Keyed->SortSt->Prop} {st:SortSt} (hi:i < xs.size) (h:Q xs[i] st):wpS (model prog w) A E s (elem' xs i) Q st:=by
 rw [elem'_eq,Array.getElem?_eq_getElem hi]
 exact wpS_pure h
def isA (r:Keyed->Int) (lf:Bool) (ky z:Keyed):Bool:=if lf then decide (r z < r ky) else decide (r z<=r ky)
theorem T5 (C:S' prog w A s κ r U) {lf:Bool} {ky:Keyed} {xs:Array Keyed} {bs i:Nat} {Q:Option Bool->SortSt->Prop} {st:SortSt} (hi:bs+i < xs.size) (hU:∀z∈xs,U z) (hy:U ky) (hk:kindOf st=κ) (h:Q (some (isA r lf ky xs[bs+i])) st) :
  wpS (model prog w) A E s (R9 lf ky xs bs i) Q st:=by
 unfold R9
 refine wpS_bind (cz hi ?_)
 have hu:=hU _ (Array.getElem_mem hi)
 unfold isA at h
 cases lf with
 | true=>exact FX C hu hy hk h
 | false=>
  simp only [Bool.false_eq_true,if_false] at h ⊢
  refine wpS_bind (FX C hy hu hk (wpS_pure ?_))
  have e:(!decide (r ky < r xs[bs+i]))=decide (r xs[bs+i]<=r ky):=by
   rw [Bool.eq_iff_iff];simp
  show Q (some (!decide (r ky < r xs[bs+i]))) st
  rw [e];exact h
theorem sj (C:S' prog w A s κ r U) {lf:Bool} {ky:Keyed} {xs:Array Keyed} {bs m ht:Nat} {Q:Option Nat->SortSt->Prop} {st:SortSt} (hm:bs+m<=xs.size) (hh:ht < m) (hU:∀z∈xs,U z) (hy:U ky) (hk:kindOf st=κ)
  (Yg:∀i j (h1:i<=j) (h2:bs+j < xs.size),j < m->r (xs[bs+i]'(by lia))<=r xs[bs+j])
  (h:∀k,k<=m->(∀i,i < k->∀(h2:bs+i < xs.size),isA r lf ky xs[bs+i]=true)->(∀i,k<=i->i < m->∀(h2:bs+i < xs.size),isA r lf ky xs[bs+i]=false)->Q (some k) st) :
  wpS (model prog w) A E s (O6 lf ky xs bs m ht) Q st:=by
 obtain ⟨f,hf⟩:∃f:Nat->Bool,∀i (h2:bs+i < xs.size),isA r lf ky xs[bs+i]=f i:=⟨fun i=>if h2:bs+i < xs.size then isA r lf ky xs[bs+i] else false,fun i h2=>by dsimp only;rw [dif_pos h2]⟩
 have mono:∀i j,i<=j->j < m->f j=true->f i=true:=fun i j Mt hj e=>by
  have h2:bs+j < xs.size:=by lia
  rw [<-hf j h2] at e
  rw [<-hf i (by lia)]
  have:=Yg i j Mt h2 hj
  unfold isA at e ⊢
  cases lf <;> simp at e ⊢ <;> lia
 have z7:∀i j,i<=j->j < m->f i=false->f j=false:=fun i j Mt hj e=>by
  cases e':f j with
  | false=>rfl
  | true=>rw [mono i j Mt hj e'] at e;cases e
 have h':∀k,k<=m->(∀i,i < k->f i=true)->(∀i,k<=i->i < m->f i=false)->Q (some k) st:=fun k hk1 h1 h2=>
  h k hk1 (fun i hi hb=>by rw [hf];exact h1 i hi) (fun i hi Ms hb=>by rw [hf];exact h2 i hi Ms)
 have ask:∀i (Q':Option Bool->SortSt->Prop),i < m->Q' (some (f i)) st->wpS (model prog w) A E s (R9 lf ky xs bs i) Q' st:=fun i Q' hi q=>by
  have h2:bs+i < xs.size:=by lia
  exact T5 C h2 hU hy hk (by rw [hf i h2];exact q)
 rw [RT]
 refine wpS_bind (ask ht _ hh ?_)
 cases hr:f ht with
 | true=>
  simp only [if_true]
  refine wpS_bind (wpS_mono (wpS_forRange (I:=fun x c bf=>bf=st/\∃la of,c=(none,la,of)/\la < of/\ht+la < m/\x+1<=of/\f (ht+la)=true)
   (Q:=fun c bf=>bf=st/\∃la of,c=(none,la,of)/\la < of/\ht+la < m/\f (ht+la)=true/\(of>=m - ht\/f (ht+of)=false)) ?step ?fin ⟨rfl,0,1,rfl,by lia,by lia,by lia,hr⟩) ?post)
  case post=>
   intro c σ0 eQ
   refine hide fun gG hG=>?_
   obtain ⟨rfl,la,of,rfl,a1,a2,a3,a4⟩:=eQ
   refine hG ?_
   have rn:ht+la+1<=ht+min of (m - ht):=by lia
   have Ai:ht+min of (m - ht)<=m:=by lia
   have Ah:∀i,i < ht+la+1->f i=true:=fun i hi=>mono i _ (by lia) a2 a3
   have Ot:∀i,ht+min of (m - ht)<=i->i < m->f i=false:=fun i hi Ms=>a4.elim (fun a4=>by lia) fun a4=>z7 _ i (by lia) Ms a4
   dsimp only
   generalize ht+la+1=l0 at rn Ah ⊢
   generalize ht+min of (m - ht)=h0 at rn Ai Ot ⊢
   refine wpS_bind (wpS_mono (wpS_forRange (I:=fun x c bf=>bf=σ0/\∃l hI,c=(none,l,hI)/\l<=hI/\hI<=m/\hI - l<=m - x/\(∀i,i < l->f i=true)/\(∀i,hI<=i->i < m->f i=false))
    (Q:=fun c bf=>bf=σ0/\∃hI l,c=(none,l,hI)/\hI<=m/\(∀i,i < hI->f i=true)/\(∀i,hI<=i->i < m->f i=false)) ?bstep ?bfin ⟨rfl,l0,h0,rfl,rn,Ai,by lia,Ah,Ot⟩) ?bpost)
   case bpost=>
    intro c bf eQ
    refine hide fun gG hG=>?_
    obtain ⟨rfl,hI,l,rfl,a1,a2,a3⟩:=eQ
    refine hG ?_
    exact wpS_pure (h' hI a1 a2 a3)
   case bfin=>
    intro c bf eQ
    refine hide fun gG hG=>?_
    obtain ⟨rfl,l,hI,rfl,a1,a2,a3,a4,a5⟩:=eQ
    refine hG ?_
    have:l=hI:=by lia
    subst this
    exact ⟨rfl,l,l,rfl,a2,a4,a5⟩
   case bstep=>
    intro x c bf _ hx qo
    refine hide fun gG hG=>?_
    obtain ⟨rfl,l,hI,rfl,a1,a2,a3,a4,a5⟩:=qo
    refine hG ?_
    dsimp only
    by_cases oN:l>=hI
    ·rw [if_pos oN]
     have:l=hI:=by lia
     subst this
     exact wpS_pure ⟨rfl,l,l,rfl,a2,a4,a5⟩
    ·rw [if_neg oN]
     refine wpS_bind (ask _ _ (by lia) ?_)
     cases hc:f (l+(hI - l) / 2) with
     | true=>
      simp only [if_true]
      exact wpS_pure ⟨rfl,_,_,rfl,by lia,by lia,by lia,fun i hi=>mono i _ (by lia) (by lia) hc,a5⟩
     | false=>
      simp only [Bool.false_eq_true,if_false]
      exact wpS_pure ⟨rfl,_,_,rfl,by lia,by lia,by lia,a4,fun i hi Ms=>z7 _ i hi Ms hc⟩
  case fin=>
   intro c bf eQ
   refine hide fun gG hG=>?_
   obtain ⟨rfl,la,of,rfl,a1,a2,a3,a4⟩:=eQ
   refine hG ?_
   exact ⟨rfl,la,of,rfl,a1,a2,a4,.inl (by lia)⟩
  case step=>
   intro x c bf _ hx qo
   refine hide fun gG hG=>?_
   obtain ⟨rfl,la,of,rfl,a1,a2,a3,a4⟩:=qo
   refine hG ?_
   dsimp only
   by_cases oN:of>=m - ht
   ·rw [if_pos oN]
    exact wpS_pure ⟨rfl,la,of,rfl,a1,a2,a4,.inl oN⟩
   ·rw [if_neg oN]
    refine wpS_bind (ask _ _ (by lia) ?_)
    cases hc:f (ht+of) with
    | true=>
     simp only [Bool.not_true,Bool.false_eq_true,if_false]
     exact wpS_pure ⟨rfl,of,_,rfl,by lia,by lia,by lia,hc⟩
    | false=>
     simp only [Bool.not_false,if_true]
     exact wpS_pure ⟨rfl,la,of,rfl,a1,a2,a4,.inr hc⟩
 | false=>
  simp only [Bool.false_eq_true,if_false]
  refine wpS_bind (wpS_mono (wpS_forRange (I:=fun x c bf=>bf=st/\∃la of,c=(none,la,of)/\la < of/\la<=ht/\x+1<=of/\f (ht - la)=false)
   (Q:=fun c bf=>bf=st/\∃la of,c=(none,la,of)/\la < of/\la<=ht/\f (ht - la)=false/\(of>=ht+1\/f (ht - of)=true)) ?step ?fin ⟨rfl,0,1,rfl,by lia,by lia,by lia,hr⟩) ?post)
  case post=>
   intro c σ0 eQ
   refine hide fun gG hG=>?_
   obtain ⟨rfl,la,of,rfl,a1,a2,a3,a4⟩:=eQ
   refine hG ?_
   have rn:ht+1 - min of (ht+1)<=ht - la:=by lia
   have Ai:ht - la<=m:=by lia
   have Ah:∀i,i < ht+1 - min of (ht+1)->f i=true:=fun i hi=>a4.elim (fun a4=>by lia) fun a4=>mono i _ (by lia) (by lia) a4
   have Ot:∀i,ht - la<=i->i < m->f i=false:=fun i hi Ms=>z7 _ i hi Ms a3
   dsimp only
   generalize ht+1 - min of (ht+1)=l0 at rn Ah ⊢
   generalize ht - la=h0 at rn Ai Ot ⊢
   refine wpS_bind (wpS_mono (wpS_forRange (I:=fun x c bf=>bf=σ0/\∃l hI,c=(none,l,hI)/\l<=hI/\hI<=m/\hI - l<=m - x/\(∀i,i < l->f i=true)/\(∀i,hI<=i->i < m->f i=false))
    (Q:=fun c bf=>bf=σ0/\∃hI l,c=(none,l,hI)/\hI<=m/\(∀i,i < hI->f i=true)/\(∀i,hI<=i->i < m->f i=false)) ?bstep ?bfin ⟨rfl,l0,h0,rfl,rn,Ai,by lia,Ah,Ot⟩) ?bpost)
   case bpost=>
    intro c bf eQ
    refine hide fun gG hG=>?_
    obtain ⟨rfl,hI,l,rfl,a1,a2,a3⟩:=eQ
    refine hG ?_
    exact wpS_pure (h' hI a1 a2 a3)
   case bfin=>
    intro c bf eQ
    refine hide fun gG hG=>?_
    obtain ⟨rfl,l,hI,rfl,a1,a2,a3,a4,a5⟩:=eQ
    refine hG ?_
    have:l=hI:=by lia
    subst this
    exact ⟨rfl,l,l,rfl,a2,a4,a5⟩
   case bstep=>
    intro x c bf _ hx qo
    refine hide fun gG hG=>?_
    obtain ⟨rfl,l,hI,rfl,a1,a2,a3,a4,a5⟩:=qo
    refine hG ?_
    dsimp only
    by_cases oN:l>=hI
    ·rw [if_pos oN]
     have:l=hI:=by lia
     subst this
     exact wpS_pure ⟨rfl,l,l,rfl,a2,a4,a5⟩
    ·rw [if_neg oN]
     refine wpS_bind (ask _ _ (by lia) ?_)
     cases hc:f (l+(hI - l) / 2) with
     | true=>
      simp only [if_true]
      exact wpS_pure ⟨rfl,_,_,rfl,by lia,by lia,by lia,fun i hi=>mono i _ (by lia) (by lia) hc,a5⟩
     | false=>
      simp only [Bool.false_eq_true,if_false]
      exact wpS_pure ⟨rfl,_,_,rfl,by lia,by lia,by lia,a4,fun i hi Ms=>z7 _ i hi Ms hc⟩
  case fin=>
   intro c bf eQ
   refine hide fun gG hG=>?_
   obtain ⟨rfl,la,of,rfl,a1,a2,a3,a4⟩:=eQ
   refine hG ?_
   exact ⟨rfl,la,of,rfl,a1,a2,a4,.inl (by lia)⟩
  case step=>
   intro x c bf _ hx qo
   refine hide fun gG hG=>?_
   obtain ⟨rfl,la,of,rfl,a1,a2,a3,a4⟩:=qo
   refine hG ?_
   dsimp only
   by_cases oN:of>=ht+1
   ·rw [if_pos oN]
    exact wpS_pure ⟨rfl,la,of,rfl,a1,a2,a4,.inl oN⟩
   ·rw [if_neg oN]
    refine wpS_bind (ask _ _ (by lia) ?_)
    cases hc:f (ht - of) with
    | true=>
     simp only [if_true]
     exact wpS_pure ⟨rfl,la,of,rfl,a1,a2,a4,.inr hc⟩
    | false=>
     simp only [Bool.false_eq_true,if_false]
     exact wpS_pure ⟨rfl,of,_,rfl,by lia,by lia,by lia,hc⟩
end
end L2
end
section
namespace L2
open PySem PySem.W PyProof.Rows
theorem aC {M:Model} {A:Around} {E:Value->Shared->Prop} {s:Shared} {σ α:Type} {c:Prop} [Decidable c] {m n:StateT σ Sem α} {Q:α->σ->Prop} {st:σ} (h1:c->wpS M A E s m Q st) (h2:¬c->wpS M A E s n Q st):wpS M A E s (if c then m else n) Q st:=by
 by_cases h:c
 ·rw [if_pos h];exact h1 h
 ·rw [if_neg h];exact h2 h
theorem uo {α:Type} {P R:α->Nat->Prop} {G:Prop} (k:(∀o x,R o x->P o x)->G) (h:∀o x,R o x->P o x):G:=k h
theorem share {P:Nat->Prop} {G:Prop} (k:(∀g,P g)->G) (h:∀g,P g):G:=k h
def gF (r:Keyed->Int) (l:List Keyed):Prop:=l.Pairwise fun x y=>r x<=r y
structure MI (r:Keyed->Int) (tot o ra rb:List Keyed):Prop where
 perm:(o++(ra++rb)).Perm tot
 so:gF r o
 sa:gF r ra
 sb:gF r rb
 la:∀u∈o,∀v∈ra,r u<=r v
 lb:∀u∈o,∀v∈rb,r u<=r v
section
variable {r:Keyed->Int} {tot o ra rb p:List Keyed}
theorem MI.rQ (h:MI r tot o (p++ra) rb) (hp:∀u∈p,∀v∈rb,r u<=r v):MI r tot (o++p) ra rb:=by
 have sa:=List.pairwise_append.mp h.sa
 refine ⟨by simpa [List.append_assoc] using h.perm,List.pairwise_append.mpr ⟨h.so,sa.1,fun u hu v hv=>h.la u hu v (List.mem_append_left _ hv)⟩,sa.2.1,h.sb,fun u hu v hv=>?_,fun u hu v hv=>?_⟩
 ·rcases List.mem_append.mp hu with hu | hu
  ·exact h.la u hu v (List.mem_append_right _ hv)
  ·exact sa.2.2 u hu v hv
 ·rcases List.mem_append.mp hu with hu | hu
  ·exact h.lb u hu v hv
  ·exact hp u hu v hv
theorem MI.rP (h:MI r tot o ra (p++rb)) (hp:∀u∈p,∀v∈ra,r u<=r v):MI r tot (o++p) ra rb:=by
 have sb:=List.pairwise_append.mp h.sb
 refine ⟨?_,List.pairwise_append.mpr ⟨h.so,sb.1,fun u hu v hv=>h.lb u hu v (List.mem_append_left _ hv)⟩,h.sa,sb.2.1,fun u hu v hv=>?_,fun u hu v hv=>?_⟩
 ·refine List.Perm.trans ?_ h.perm
  rw [List.append_assoc]
  refine List.Perm.append_left o ?_
  rw [<-List.append_assoc,<-List.append_assoc]
  exact List.Perm.append_right rb List.perm_append_comm
 ·rcases List.mem_append.mp hu with hu | hu
  ·exact h.la u hu v hv
  ·exact hp u hu v hv
 ·rcases List.mem_append.mp hu with hu | hu
  ·exact h.lb u hu v (List.mem_append_right _ hv)
  ·exact sb.2.2 u hu v hv
theorem MI.M6 (h:MI r tot o ra []):(o++ra).Perm tot/\gF r (o++ra):=⟨by simpa using h.perm,List.pairwise_append.mpr ⟨h.so,h.sa,h.la⟩⟩
theorem MI.M5 (h:MI r tot o [] rb):(o++rb).Perm tot/\gF r (o++rb):=⟨by simpa using h.perm,List.pairwise_append.mpr ⟨h.so,h.sb,h.lb⟩⟩
theorem MI.aAS {z:Keyed} (h:MI r tot o [z] rb) (hz:∀v∈rb,r v<=r z):(o++rb++[z]).Perm tot/\gF r (o++rb++[z]):=by
 have h':=(MI.rP (p:=rb) (rb:=[]) (by simpa using h) fun u hu v hv=>by rw [List.mem_singleton.mp hv];exact hz u hu).M6
 exact h'
end
section
variable {r:Keyed->Int} {a b o:Array Keyed} {x y k:Nat}
abbrev tot (a b:Array Keyed):List Keyed:=a.toList++b.toList
def Good (r:Keyed->Int) (a b R:Array Keyed):Prop:=R.toList.Perm (tot a b)/\gF r R.toList
abbrev vz (r:Keyed->Int) (a b o:Array Keyed) (x y:Nat):Prop:=MI r (tot a b) o.toList (a.toList.drop x) (b.toList.drop y)
theorem fH (a:Array Keyed) (x n:Nat):(a.extract x n).toList=(a.toList.drop x).take (n - x):=by
 rw [Array.toList_extract]
theorem pG (a:Array Keyed) (x:Nat):(a.extract x a.size).toList=a.toList.drop x:=by
 rw [fH,<-Array.length_toList,<-List.length_drop]
 exact List.take_length
theorem w8 (l:List Keyed) (x k:Nat):l.drop x=(l.drop x).take k++l.drop (x+k):=by
 rw [<-List.drop_drop];exact (List.take_append_drop k _).symm
theorem drop_one (a:Array Keyed) {x:Nat} (h:x < a.size):a.toList.drop x=[a[x]]++a.toList.drop (x+1):=by
 rw [List.drop_eq_getElem_cons (by simpa using h)];simp
theorem gM {a:Array Keyed} {x:Nat} {v:Keyed} (h:v∈a.toList.drop x):∃i,∃(hi:x+i < a.size),v=a[x+i]:=by
 obtain ⟨i,hi,e⟩:=List.mem_iff_getElem.mp h
 rw [List.length_drop,Array.length_toList] at hi
 refine ⟨i,by lia,?_⟩
 rw [<-e];simp
theorem fF {a:Array Keyed} {x k:Nat} {v:Keyed} (h:v∈(a.toList.drop x).take k):∃i,∃(hi:x+i < a.size),i < k/\v=a[x+i]:=by
 obtain ⟨i,hi,e⟩:=List.mem_iff_getElem.mp h
 rw [List.length_take,List.length_drop,Array.length_toList] at hi
 refine ⟨i,by lia,by lia,?_⟩
 rw [<-e];simp
theorem eV {a:Array Keyed} (s:gF r a.toList) {i j:Nat} (Mt:i<=j) (hj:j < a.size):r (a[i]'(by lia))<=r a[j]:=by
 rcases Nat.lt_or_eq_of_le Mt with h | h
 ·have:=(List.pairwise_iff_getElem.mp s) i j (by simpa using by lia) (by simpa using hj) h
  simpa using this
 ·subst h;exact Int.le_refl _
theorem MI.sD (h:vz r a b o x y) (hy:y < b.size) (hx:∀i,x<=i->∀(hi:i < a.size),r b[y]<=r a[i]):vz r a b (o.push b[y]) x (y+1):=by
 have h':MI r (tot a b) o.toList (a.toList.drop x) ([b[y]]++b.toList.drop (y+1)):=by rw [<-drop_one b hy];exact h
 have:=h'.rP fun u hu v hv=>by
  obtain ⟨i,hi,rfl⟩:=gM hv
  rw [List.mem_singleton.mp hu]
  exact hx _ (by lia) hi
 show MI r (tot a b) (o.push b[y]).toList _ _
 rw [Array.toList_push];exact this
theorem MI.sE (h:vz r a b o x y) (hx:x < a.size) (hy:∀i,y<=i->∀(hi:i < b.size),r a[x]<=r b[i]):vz r a b (o.push a[x]) (x+1) y:=by
 have h':MI r (tot a b) o.toList ([a[x]]++a.toList.drop (x+1)) (b.toList.drop y):=by rw [<-drop_one a hx];exact h
 have:=h'.rQ fun u hu v hv=>by
  obtain ⟨i,hi,rfl⟩:=gM hv
  rw [List.mem_singleton.mp hu]
  exact hy _ (by lia) hi
 show MI r (tot a b) (o.push a[x]).toList _ _
 rw [Array.toList_push];exact this
theorem MI.Hy (h:vz r a b o x y) (hp:∀i,i < k->∀(hi:x+i < a.size) j,y<=j->∀(hj:j < b.size),r a[x+i]<=r b[j]):vz r a b (o++a.extract x (x+k)) (x+k) y:=by
 have h':MI r (tot a b) o.toList ((a.toList.drop x).take k++a.toList.drop (x+k)) (b.toList.drop y):=by rw [<-w8];exact h
 have:=h'.rQ fun u hu v hv=>by
  refine hide fun gG hG=>?_
  obtain ⟨i,hi,hk,rfl⟩:=fF hu
  obtain ⟨j,hj,rfl⟩:=gM hv
  refine hG ?_
  exact hp i hk hi _ (by lia) hj
 show MI r (tot a b) (o++a.extract x (x+k)).toList _ _
 rw [Array.toList_append,fH,Nat.add_sub_cancel_left]
 exact this
theorem MI.Hx (h:vz r a b o x y) (hp:∀i,i < k->∀(hi:y+i < b.size) j,x<=j->∀(hj:j < a.size),r b[y+i]<=r a[j]):vz r a b (o++b.extract y (y+k)) x (y+k):=by
 have h':MI r (tot a b) o.toList (a.toList.drop x) ((b.toList.drop y).take k++b.toList.drop (y+k)):=by rw [<-w8];exact h
 have:=h'.rP fun u hu v hv=>by
  refine hide fun gG hG=>?_
  obtain ⟨i,hi,hk,rfl⟩:=fF hu
  obtain ⟨j,hj,rfl⟩:=gM hv
  refine hG ?_
  exact hp i hk hi _ (by lia) hj
 show MI r (tot a b) (o++b.extract y (y+k)).toList _ _
 rw [Array.toList_append,fH,Nat.add_sub_cancel_left]
 exact this
theorem MI.fin (h:vz r a b o x y) (e:y=b.size\/x=a.size):Good r a b (o++a.extract x a.size++b.extract y b.size):=by
 unfold Good
 rw [Array.toList_append,Array.toList_append,pG,pG]
 rcases e with e | e
 ·have z:b.toList.drop y=[]:=List.drop_eq_nil_of_le (by simp [e])
  have h':MI r (tot a b) o.toList (a.toList.drop x) []:=by rw [<-z];exact h
  rw [z,List.append_nil];exact h'.M6
 ·have z:a.toList.drop x=[]:=List.drop_eq_nil_of_le (by simp [e])
  have h':MI r (tot a b) o.toList [] (b.toList.drop y):=by rw [<-z];exact h
  rw [z,List.append_nil];exact h'.M5
theorem MI.L1 (h:vz r a b o x y) (e:x+1=a.size) (hl:∀v∈b,r v<=r (a[a.size - 1]'(by lia))):Good r a b (o++b.extract y b.size++a.extract x a.size):=by
 unfold Good
 rw [Array.toList_append,Array.toList_append,pG,pG]
 have z:a.toList.drop x=[a[a.size - 1]'(by lia)]:=by
  rw [drop_one a (by lia),List.drop_eq_nil_of_le (by simp;lia)]
  simp only [List.append_nil]
  congr 2
  lia
 have h':MI r (tot a b) o.toList [a[a.size - 1]'(by lia)] (b.toList.drop y):=by rw [<-z];exact h
 rw [z]
 exact h'.aAS fun v hv=>hl v (by simpa using List.mem_of_mem_drop hv)
end
section
variable {prog:Program} {w:World} {A:Around} {E:Value->Shared->Prop} {s:Shared} {κ:SortKind} {r:Keyed->Int} {U:Keyed->Prop}
theorem T2 (C:S' prog w A s κ r U) {a b:Array Keyed} {Q:Array Keyed->SortSt->Prop} {st:SortSt} (hk:kindOf st=κ) (ha:∀z∈a,U z) (hb:∀z∈b,U z) (sa:gF r a.toList) (sb:gF r b.toList) (na:0 < a.size) (nb:0 < b.size)
  (h0:r b[0]<=r a[0]) (hl:∀v∈b,r v<=r (a[a.size - 1]'(by lia))) (h:∀R g,Good r a b R->Q R (cF st g)):wpS (model prog w) A E s (Z' a b) Q st:=by
 rw [QL]
 refine wpS_bind (wpS_lift (wpAny_rule ⟨rfl,?_⟩))
 refine wpS_bind (cz nb ?_)
 try dsimp only
 have M0:vz r a b #[b[0]] 0 1:=MI.sD (o:=#[]) (x:=0) (y:=0) ⟨by simp,List.Pairwise.nil,by simpa using sa,by simpa using sb,by simp,by simp⟩ nb fun i _ hi=>by
  have:=eV sa (Nat.zero_le i) hi
  lia
 refine aC (fun hz=>?_) (fun hz=>?_)
 ·exact wpS_pure (h _ (gallopOf st) (M0.fin (.inl (by simpa using hz))))
 have Og:=hz
 refine aC (fun hz=>?_) (fun hz=>?_)
 ·exact wpS_pure (h _ (gallopOf st) (M0.L1 (by simpa using hz) hl))
 have rk:=hz
 have Ra:1≠b.size:=by simpa using Og
 have Ic:0+1≠a.size:=by simpa using rk
 clear h0 hz Og rk
 refine wpS_bind (wpS_get ?_)
 refine wpS_bind (wpS_mono (wpS_forRange (I:=fun n c bf=>(∃g,bf=cF st g)/\∃o x y mg,c=(none,o,x,y,mg)/\x+1 < a.size/\y < b.size/\vz r a b o x y/\n+1<=x+y)
  (Q:=fun c bf=>(∃g,bf=cF st g)/\∃R,c.1=some R/\Good r a b R) ?step ?fin ⟨⟨gallopOf st,rfl⟩,_,_,_,_,rfl,by lia,by lia,M0,by lia⟩) ?post)
 case post=>
  intro IW bf eQ
  refine hide fun gG hG=>?_
  obtain ⟨c1,c⟩:=IW
  obtain ⟨⟨g,rfl⟩,R,rfl,hR⟩:=eQ
  refine hG ?_
  exact wpS_pure (h R g hR)
 case fin=>
  intro c bf eQ
  refine hide fun gG hG=>?_
  obtain ⟨_,o,x,y,mg,rfl,hx,hy,M,hn⟩:=eQ
  refine hG ?_
  lia
 case step=>
  clear Ra Ic M0 h
  intro n c bf _ hn qo
  refine hide fun gG hG=>?_
  obtain ⟨⟨g,rfl⟩,o,x,y,mg,rfl,hx,hy,M,Em⟩:=qo
  refine hG ?_
  try dsimp only
  refine wpS_bind (wpS_mono (wpS_forRange (I:=fun n1 d bf=>(∃g,bf=cF st g)/\∃o' x' y' p q,d=(none,o',x',y',p,q)/\x'+1 < a.size/\y' < b.size/\vz r a b o' x' y'/\x+y+n1<=x'+y')
   (Q:=fun d bf=>(∃g,bf=cF st g)/\match d.1 with | some R=>Good r a b R | none=>d.2.2.1+1 < a.size/\d.2.2.2.1 < b.size/\vz r a b d.2.1 d.2.2.1 d.2.2.2.1/\n+2<=d.2.2.1+d.2.2.2.1) ?step1 ?fin1 ⟨⟨g,rfl⟩,o,x,y,0,0,rfl,hx,hy,M,by lia⟩) ?post1)
  case fin1=>
   intro d bf eQ
   refine hide fun gG hG=>?_
   obtain ⟨hg,o',x',y',p,q,rfl,pE,uY,M',tf⟩:=eQ
   refine hG ?_
   exact ⟨hg,pE,uY,M',by simp only;lia⟩
  case step1=>
   clear hx hy M hn
   intro n1 d bf _ pF qo
   refine hide fun gG hG=>?_
   obtain ⟨⟨g,rfl⟩,o,x,y,p,q,rfl,hx,hy,M,tf⟩:=qo
   refine hG ?_
   try dsimp only
   refine wpS_bind (cz hy ?_)
   refine wpS_bind (cz (by lia) ?_)
   refine wpS_bind (FX C (hb _ (Array.getElem_mem _)) (ha _ (Array.getElem_mem _)) hk ?_)
   try dsimp only
   by_cases hc:r b[y] < r a[x]
   ·rw [if_pos (by simpa using hc)]
    refine wpS_bind (cz hy ?_)
    try dsimp only
    have MB:=MI.sD M hy fun i hi h2=>by
     have:=eV sa hi h2
     lia
    refine aC (fun hz=>?_) (fun hz=>?_)
    ·exact wpS_pure ⟨⟨_,rfl⟩,MB.fin (.inl (by simpa using hz))⟩
    have yK:y+1≠b.size:=by simpa using hz
    refine aC (fun hz=>?_) (fun hz=>?_)
    ·exact wpS_pure ⟨⟨_,rfl⟩,hx,(by simp only;lia),MB,by simp only;lia⟩
    ·exact wpS_pure ⟨⟨_,rfl⟩,_,_,_,_,_,rfl,hx,by lia,MB,by lia⟩
   ·rw [if_neg (by simpa using hc)]
    refine wpS_bind (cz (by lia) ?_)
    try dsimp only
    have MB:=MI.sE M (by lia) fun i hi h2=>by
     have:=eV sb hi h2
     lia
    refine aC (fun hz=>?_) (fun hz=>?_)
    ·exact wpS_pure ⟨⟨_,rfl⟩,MB.L1 (by simpa using hz) hl⟩
    have yK:x+1+1≠a.size:=by simpa using hz
    refine aC (fun hz=>?_) (fun hz=>?_)
    ·exact wpS_pure ⟨⟨_,rfl⟩,(by simp only;lia),hy,MB,by simp only;lia⟩
    ·exact wpS_pure ⟨⟨_,rfl⟩,_,_,_,_,_,rfl,by lia,hy,MB,by lia⟩
  case post1=>
   intro IW bf eQ
   refine hide fun gG hG=>?_
   obtain ⟨d1,o1,x1,y1,p1,q1⟩:=IW
   obtain ⟨⟨g,rfl⟩,hd⟩:=eQ
   refine hG ?_
   dsimp only at hd ⊢
   cases d1 with
   | some R=>exact wpS_pure ⟨⟨_,rfl⟩,R,rfl,hd⟩
   | none=>
    refine hide fun gG hG=>?_
    obtain ⟨uZ,Ie,M1,pF⟩:=hd
    refine hG ?_
    clear hx hy M Em hn
    try dsimp only
    refine wpS_bind (wpS_lift (wpAny_rule ⟨rfl,?_⟩))
    refine wpS_bind (wpS_mono (wpS_forRange (I:=fun _ e bf=>(∃g,bf=cF st g)/\∃o' x' y' m' p q,e=(none,o',x',y',m',p,q)/\x'+1 < a.size/\y' < b.size/\vz r a b o' x' y'/\n+2<=x'+y')
     (Q:=fun e bf=>(∃g,bf=cF st g)/\match e.1 with | some R=>Good r a b R | none=>e.2.2.1+1 < a.size/\e.2.2.2.1 < b.size/\vz r a b e.2.1 e.2.2.1 e.2.2.2.1/\n+2<=e.2.2.1+e.2.2.2.1) ?step2 ?fin2 ⟨⟨_,rfl⟩,_,_,_,_,_,_,rfl,uZ,Ie,M1,pF⟩) ?post2)
    case fin2=>
     intro e bf eQ
     refine hide fun gG hG=>?_
     obtain ⟨hg,o',x',y',m',p,q,rfl,pE,uY,M',tf⟩:=eQ
     refine hG ?_
     exact ⟨hg,pE,uY,M',tf⟩
    case post2=>
     intro IW bf eQ
     refine hide fun gG hG=>?_
     obtain ⟨e1,o2,x2,y2,m2,p2,q2⟩:=IW
     obtain ⟨⟨g,rfl⟩,he⟩:=eQ
     refine hG ?_
     dsimp only at he ⊢
     cases e1 with
     | some R=>exact wpS_pure ⟨⟨_,rfl⟩,R,rfl,he⟩
     | none=>
      refine hide fun gG hG=>?_
      obtain ⟨Ei,Oi,M2,El⟩:=he
      refine hG ?_
      refine wpS_bind (wpS_modify (wpS_pure ⟨⟨_,rfl⟩,_,_,_,_,rfl,Ei,Oi,M2,by lia⟩))
    case step2=>
     clear uZ Ie M1 pF
     intro n2 e bf _ El qo
     refine hide fun gG hG=>?_
     obtain ⟨⟨g,rfl⟩,o,x,y,m',p,q,rfl,hx,hy,M,tf⟩:=qo
     refine hG ?_
     try dsimp only
     refine' share (P:=_) (fun H=>aC (fun hm=>?A) (fun hm=>?B)) ?_
     case A=>generalize m' - 1=gg;revert gg;exact H
     case B=>clear hm;generalize m'=gg;revert gg;exact H
     intro gg
     try dsimp only
     refine wpS_bind (wpS_modify ?_)
     refine wpS_bind (cz hy ?_)
     refine wpS_bind (sj C (by lia) (by lia) ha (hb _ (Array.getElem_mem _)) hk (fun i j h1 h2 _=>eV sa (by lia) h2) fun k l1 l2 l3=>?_)
     try dsimp only
     replace l1:x+k<=a.size:=by lia
     have HR:∀i,i < k->∀(h2:x+i < a.size),r a[x+i]<=r b[y]:=fun i hi h2=>by simpa [isA] using l2 i hi h2
     have Ob:∀i,k<=i->∀(h2:x+i < a.size),r b[y] < r a[x+i]:=fun i hi h2=>by have:=l3 i hi (by lia) h2;simpa [isA] using this
     clear l2 l3
     refine' uo (R:=fun o' x'=>x'=x+k/\x'+1 < a.size/\vz r a b o' x' y) (P:=_) (fun H=>aC (fun hz=>?A) (fun hz=>?B)) ?_
     case A=>
      have MA:=MI.Hy (k:=k) M fun i hi h2 j hj Mq=>by
       have e1:=HR i hi h2
       have e2:=eV sb hj Mq
       lia
      refine aC (fun hz=>?_) (fun hz=>?_)
      ·exact wpS_pure ⟨⟨_,rfl⟩,MA.L1 (by simpa using hz) hl⟩
      have hz0:x+k+1≠a.size:=by simpa using hz
      refine aC (fun hz=>?_) (fun hz=>?_)
      ·exact wpS_pure ⟨⟨_,rfl⟩,MA.fin (.inr (by simpa using hz))⟩
      have Og:x+k≠a.size:=by simpa using hz
      have e1:x+k+1 < a.size:=by lia
      obtain ⟨x',pE⟩:∃x',x'=x+k:=⟨_,rfl⟩
      rw [<-pE] at MA e1 ⊢
      generalize o++a.extract x x'=o' at MA ⊢
      exact H o' x' ⟨pE,e1,MA⟩
     case B=>exact H o x ⟨by lia,hx,M⟩
     rintro o x' ⟨pE,uZ,MA⟩
     clear HR
     refine wpS_bind (cz hy ?_)
     try dsimp only
     have MB:=MI.sD MA hy (fun i hi h2=>by
        have:=Ob (i - x) (by lia) (by lia)
        have e:x+(i - x)=i:=by lia
        simp only [e] at this
        lia)
     clear Ob MA M l1 hx
     refine aC (fun hz=>?_) (fun hz=>?_)
     ·exact wpS_pure ⟨⟨_,rfl⟩,MB.fin (.inl (by simpa using hz))⟩
     have rk:y+1≠b.size:=by simpa using hz
     have Oi:y+1 < b.size:=by lia
     clear rk hz
     refine wpS_bind (cz (by lia) ?_)
     refine wpS_bind (sj C (by lia) (by lia) hb (ha _ (Array.getElem_mem _)) hk (fun i j h1 h2 _=>eV sb (by lia) h2) fun k2 l1 l2 l3=>?_)
     try dsimp only
     replace l1:y+1+k2<=b.size:=by lia
     have HR:∀i,i < k2->∀(h2:y+1+i < b.size),r b[y+1+i] < r (a[x']'(by lia)):=fun i hi h2=>by simpa [isA] using l2 i hi h2
     have Ob:∀i,k2<=i->∀(h2:y+1+i < b.size),r (a[x']'(by lia))<=r b[y+1+i]:=fun i hi h2=>by have:=l3 i hi (by lia) h2;simpa [isA] using this
     clear l2 l3
     refine' uo (R:=fun o' y'=>y'=y+1+k2/\y' < b.size/\vz r a b o' x' y') (P:=_) (fun H=>aC (fun hz=>?A) (fun hz=>?B)) ?_
     case A=>
      have MC:=MI.Hx (k:=k2) MB fun i hi h2 j hj Mq=>by
       have e1:=HR i hi h2
       have e2:=eV sa hj Mq
       lia
      refine aC (fun hz=>?_) (fun hz=>?_)
      ·exact wpS_pure ⟨⟨_,rfl⟩,MC.fin (.inl (by simpa using hz))⟩
      have hz4:y+1+k2≠b.size:=by simpa using hz
      have e1:y+1+k2 < b.size:=by lia
      obtain ⟨y',uY⟩:∃y',y'=y+1+k2:=⟨_,rfl⟩
      rw [<-uY] at MC e1 ⊢
      generalize _++b.extract (y+1) y'=o' at MC ⊢
      exact H o' y' ⟨uY,e1,MC⟩
     case B=>exact H _ (y+1) ⟨by lia,Oi,MB⟩
     rintro o' y' ⟨uY,Ie,MC⟩
     clear HR MB
     have MZ:=MI.sE MC (by lia) fun i hi h2=>by
      have:=Ob (i - (y+1)) (by lia) (by lia)
      simpa [show y+1+(i - (y+1))=i by lia] using this
     clear Ob MC l1 Oi
     refine wpS_bind (cz (by lia) ?_)
     try dsimp only
     refine aC (fun hz=>?_) (fun hz=>?_)
     ·exact wpS_pure ⟨⟨_,rfl⟩,(MZ.L1 (by simpa using hz) hl)⟩
     ·have yK:x'+1+1≠a.size:=by simpa using hz
      have e1:x'+1+1 < a.size:=by lia
      have e2:n+2<=x'+1+y':=by lia
      refine aC (fun hz=>?_) (fun hz=>?_)
      ·exact wpS_pure ⟨⟨_,rfl⟩,e1,Ie,MZ,e2⟩
      ·exact wpS_pure ⟨⟨_,rfl⟩,_,_,_,_,_,_,rfl,e1,Ie,MZ,e2⟩
end
end L2
end
section
namespace L2
open PySem PySem.W PyProof.Rows
structure MH (r:Keyed->Int) (tot ra rb o:List Keyed):Prop where
 perm:(ra++rb++o).Perm tot
 so:gF r o
 sa:gF r ra
 sb:gF r rb
 la:∀u∈ra,∀v∈o,r u<=r v
 lb:∀u∈rb,∀v∈o,r u<=r v
section
variable {r:Keyed->Int} {tot o ra rb p:List Keyed}
theorem MH.rP (h:MH r tot ra (rb++p) o) (hp:∀u∈p,∀v∈ra,r v<=r u):MH r tot ra rb (p++o):=by
 have sb:=List.pairwise_append.mp h.sb
 refine ⟨by simpa [List.append_assoc] using h.perm,List.pairwise_append.mpr ⟨sb.2.1,h.so,fun u hu v hv=>h.lb u (List.mem_append_right _ hu) v hv⟩,h.sa,sb.1,fun u hu v hv=>?_,fun u hu v hv=>?_⟩
 ·rcases List.mem_append.mp hv with hv | hv
  ·exact hp v hv u hu
  ·exact h.la u hu v hv
 ·rcases List.mem_append.mp hv with hv | hv
  ·exact sb.2.2 u hu v hv
  ·exact h.lb u (List.mem_append_left _ hu) v hv
theorem MH.rQ (h:MH r tot (ra++p) rb o) (hp:∀u∈p,∀v∈rb,r v<=r u):MH r tot ra rb (p++o):=by
 have sa:=List.pairwise_append.mp h.sa
 refine ⟨?_,List.pairwise_append.mpr ⟨sa.2.1,h.so,fun u hu v hv=>h.la u (List.mem_append_right _ hu) v hv⟩,sa.1,h.sb,fun u hu v hv=>?_,fun u hu v hv=>?_⟩
 ·refine List.Perm.trans ?_ h.perm
  rw [<-List.append_assoc]
  refine List.Perm.append_right o ?_
  rw [List.append_assoc,List.append_assoc]
  exact List.Perm.append_left ra List.perm_append_comm
 ·rcases List.mem_append.mp hv with hv | hv
  ·exact sa.2.2 u hu v hv
  ·exact h.la u (List.mem_append_left _ hu) v hv
 ·rcases List.mem_append.mp hv with hv | hv
  ·exact hp v hv u hu
  ·exact h.lb u hu v hv
theorem MH.M6 (h:MH r tot ra [] o):(ra++o).Perm tot/\gF r (ra++o):=⟨by simpa using h.perm,List.pairwise_append.mpr ⟨h.sa,h.so,h.la⟩⟩
theorem MH.M5 (h:MH r tot [] rb o):(rb++o).Perm tot/\gF r (rb++o):=⟨by simpa using h.perm,List.pairwise_append.mpr ⟨h.sb,h.so,h.lb⟩⟩
theorem MH.aAT {z:Keyed} (h:MH r tot ra [z] o) (hz:∀v∈ra,r z<=r v):([z]++ra++o).Perm tot/\gF r ([z]++ra++o):=by
 have h':=(MH.rQ (p:=ra) (ra:=[]) (by simpa using h) fun u hu v hv=>by rw [List.mem_singleton.mp hv];exact hz u hu).M5
 rw [List.append_assoc];exact h'
end
section
variable {r:Keyed->Int} {a b o:Array Keyed} {x y e:Nat}
abbrev vA (r:Keyed->Int) (a b o:Array Keyed) (x y:Nat):Prop:=MH r (tot a b) (a.toList.take x) (b.toList.take y) o.toList.reverse
theorem Ao (a:Array Keyed) (x:Nat):(a.extract 0 x).toList=a.toList.take x:=by
 rw [fH,List.drop_zero,Nat.sub_zero]
theorem pN (l:List Keyed) {x e:Nat} (h:e<=x):l.take x=l.take e++(l.drop e).take (x - e):=by
 have:=(List.take_append_drop e (l.take x)).symm
 rw [List.take_take,Nat.min_eq_left h,List.drop_take] at this
 exact this
theorem take_one (a:Array Keyed) {x:Nat} (h:x < a.size):a.toList.take (x+1)=a.toList.take x++[a[x]]:=by
 rw [List.take_add_one,List.getElem?_eq_getElem (by simpa using h)];simp
theorem uS {a:Array Keyed} {x:Nat} {v:Keyed} (h:v∈a.toList.take x):∃i,∃(hi:i < a.size),i < x/\v=a[i]:=by
 have h':v∈(a.toList.drop 0).take x:=by simpa using h
 refine hide fun gG hG=>?_
 obtain ⟨i,hi,hx,e⟩:=fF h'
 refine hG ?_
 exact ⟨i,by lia,hx,by rw [e];simp⟩
theorem MH.sD (h:vA r a b o x (y+1)) (hy:y < b.size) (hx:∀i,i < x->∀(hi:i < a.size),r a[i]<=r b[y]):vA r a b (o.push b[y]) x y:=by
 have h':MH r (tot a b) (a.toList.take x) (b.toList.take y++[b[y]]) o.toList.reverse:=by rw [<-take_one b hy];exact h
 have:=h'.rP fun u hu v hv=>by
  refine hide fun gG hG=>?_
  obtain ⟨i,hi,hk,rfl⟩:=uS hv
  refine hG ?_
  rw [List.mem_singleton.mp hu]
  exact hx _ hk hi
 show MH r (tot a b) _ _ (o.push b[y]).toList.reverse
 rw [Array.toList_push,List.reverse_append];exact this
theorem MH.sE (h:vA r a b o (x+1) y) (hx:x < a.size) (hy:∀i,i < y->∀(hi:i < b.size),r b[i]<=r a[x]):vA r a b (o.push a[x]) x y:=by
 have h':MH r (tot a b) (a.toList.take x++[a[x]]) (b.toList.take y) o.toList.reverse:=by rw [<-take_one a hx];exact h
 have:=h'.rQ fun u hu v hv=>by
  refine hide fun gG hG=>?_
  obtain ⟨i,hi,hk,rfl⟩:=uS hv
  refine hG ?_
  rw [List.mem_singleton.mp hu]
  exact hy _ hk hi
 show MH r (tot a b) _ _ (o.push a[x]).toList.reverse
 rw [Array.toList_push,List.reverse_append];exact this
theorem MH.Hy (h:vA r a b o x y) (he:e<=x) (hp:∀i,e<=i->i < x->∀(hi:i < a.size) j,j < y->∀(hj:j < b.size),r b[j]<=r a[i]):vA r a b (o++(a.extract e x).reverse) e y:=by
 have h':MH r (tot a b) (a.toList.take e++(a.toList.drop e).take (x - e)) (b.toList.take y) o.toList.reverse:=by rw [<-pN _ he];exact h
 have:=h'.rQ fun u hu v hv=>by
  refine hide fun gG hG=>?_
  obtain ⟨i,hi,hk,rfl⟩:=fF hu
  obtain ⟨j,hj,Mq,rfl⟩:=uS hv
  refine hG ?_
  exact hp (e+i) (by lia) (by lia) hi _ Mq hj
 show MH r (tot a b) _ _ (o++(a.extract e x).reverse).toList.reverse
 rw [Array.toList_append,Array.toList_reverse,List.reverse_append,List.reverse_reverse,fH]
 exact this
theorem MH.Hx (h:vA r a b o x y) (he:e<=y) (hp:∀i,e<=i->i < y->∀(hi:i < b.size) j,j < x->∀(hj:j < a.size),r a[j]<=r b[i]):vA r a b (o++(b.extract e y).reverse) x e:=by
 have h':MH r (tot a b) (a.toList.take x) (b.toList.take e++(b.toList.drop e).take (y - e)) o.toList.reverse:=by rw [<-pN _ he];exact h
 have:=h'.rP fun u hu v hv=>by
  refine hide fun gG hG=>?_
  obtain ⟨i,hi,hk,rfl⟩:=fF hu
  obtain ⟨j,hj,Mq,rfl⟩:=uS hv
  refine hG ?_
  exact hp (e+i) (by lia) (by lia) hi _ Mq hj
 show MH r (tot a b) _ _ (o++(b.extract e y).reverse).toList.reverse
 rw [Array.toList_append,Array.toList_reverse,List.reverse_append,List.reverse_reverse,fH]
 exact this
theorem MH.fin (h:vA r a b o x y) (e:x=0\/y=0):Good r a b (a.extract 0 x++b.extract 0 y++o.reverse):=by
 unfold Good
 rw [Array.toList_append,Array.toList_append,Array.toList_reverse,Ao,Ao]
 rcases e with e | e
 ·subst e
  exact MH.M5 h
 ·subst e
  rw [List.take_zero,List.append_nil]
  exact MH.M6 h
theorem MH.fst (h:vA r a b o x y) (e:y=1) (nb:0 < b.size) (h0:∀v∈a,r b[0]<=r v):Good r a b (b.extract 0 y++a.extract 0 x++o.reverse):=by
 unfold Good
 rw [Array.toList_append,Array.toList_append,Array.toList_reverse,Ao,Ao]
 subst e
 have z:b.toList.take 1=[b[0]]:=by rw [take_one b nb];rfl
 have h':MH r (tot a b) (a.toList.take x) [b[0]] o.toList.reverse:=by rw [<-z];exact h
 rw [z]
 exact h'.aAT fun v hv=>h0 v (by simpa using List.mem_of_mem_take hv)
end
section
variable {prog:Program} {w:World} {A:Around} {E:Value->Shared->Prop} {s:Shared} {κ:SortKind} {r:Keyed->Int} {U:Keyed->Prop}
theorem T3 (C:S' prog w A s κ r U) {a b:Array Keyed} {Q:Array Keyed->SortSt->Prop} {st:SortSt} (hk:kindOf st=κ) (ha:∀z∈a,U z) (hb:∀z∈b,U z) (sa:gF r a.toList) (sb:gF r b.toList) (na:0 < a.size) (nb:0 < b.size)
  (h0:∀v∈a,r b[0]<=r v) (hl:∀v∈b,r v<=r (a[a.size - 1]'(by lia))) (h:∀R g,Good r a b R->Q R (cF st g)):wpS (model prog w) A E s (mHi a b) Q st:=by
 rw [QM]
 refine wpS_bind (wpS_lift (wpAny_rule ⟨rfl,?_⟩))
 refine wpS_bind (cz (by lia) ?_)
 try dsimp only
 obtain ⟨na',hna⟩:∃na',a.size=na'+1:=⟨a.size - 1,by lia⟩
 have M0:vA r a b #[a[a.size - 1]'(by lia)] (a.size - 1) b.size:=by
  refine MH.sE (o:=#[]) (x:=a.size - 1) (y:=b.size) ⟨?_,List.Pairwise.nil,?_,?_,by simp,by simp⟩ (by lia) fun i hi mE=>hl _ (Array.getElem_mem _)
  ·rw [show a.size - 1+1=a.size by lia,List.take_of_length_le (by simp),List.take_of_length_le (by simp)];simp
  ·rw [show a.size - 1+1=a.size by lia,List.take_of_length_le (by simp)];exact sa
  ·rw [List.take_of_length_le (by simp)];exact sb
 refine aC (fun hz=>?_) (fun Og=>?_)
 ·exact wpS_pure (h _ (gallopOf st) (M0.fin (.inl (by simpa using hz))))
 refine aC (fun hz=>?_) (fun rk=>?_)
 ·exact wpS_pure (h _ (gallopOf st) (M0.fst (by simpa using hz) nb h0))
 have Ra:a.size - 1≠0:=by simpa using Og
 have Ic:b.size≠1:=by simpa using rk
 clear Og rk
 refine wpS_bind (wpS_get ?_)
 refine wpS_bind (wpS_mono (wpS_forRange (a:=0) (I:=fun n c bf=>(∃g,bf=cF st g)/\∃o x y mg,c=(none,x,y,o,mg)/\0 < x/\x<=a.size/\1 < y/\y<=b.size/\vA r a b o x y/\x+y+n+1<=a.size+b.size)
  (Q:=fun c bf=>(∃g,bf=cF st g)/\∃R,c.1=some R/\Good r a b R) ?step ?fin ⟨⟨gallopOf st,rfl⟩,_,a.size - 1,b.size,gallopOf st,rfl,by lia,by lia,by lia,by lia,M0,by lia⟩) ?post)
 case post=>
  intro IW bf eQ
  refine hide fun gG hG=>?_
  obtain ⟨c1,c⟩:=IW
  obtain ⟨⟨g,rfl⟩,R,rfl,hR⟩:=eQ
  refine hG ?_
  exact wpS_pure (h R g hR)
 case fin=>
  intro c bf eQ
  refine hide fun gG hG=>?_
  obtain ⟨_,o,x,y,mg,rfl,hx,Ae,hy,Oj,M,hn⟩:=eQ
  refine hG ?_
  lia
 case step=>
  clear Ra Ic M0 h hna
  intro n c bf _ hn qo
  refine hide fun gG hG=>?_
  obtain ⟨⟨g,rfl⟩,o,x,y,mg,rfl,hx,Ae,hy,Oj,M,Em⟩:=qo
  refine hG ?_
  try dsimp only
  refine wpS_bind (wpS_mono (wpS_forRange (a:=0) (I:=fun n1 d bf=>(∃g,bf=cF st g)/\∃o' x' y' p q,d=(none,x',y',o',p,q)/\0 < x'/\x'<=a.size/\1 < y'/\y'<=b.size/\vA r a b o' x' y'/\x'+y'+n1<=x+y)
   (Q:=fun d bf=>(∃g,bf=cF st g)/\match d.1 with | some R=>Good r a b R | none=>0 < d.2.1/\d.2.1<=a.size/\1 < d.2.2.1/\d.2.2.1<=b.size/\vA r a b d.2.2.2.1 d.2.1 d.2.2.1/\d.2.1+d.2.2.1+n+2<=a.size+b.size) ?step1 ?fin1 ⟨⟨g,rfl⟩,o,x,y,0,0,rfl,hx,Ae,hy,Oj,M,by lia⟩) ?post1)
  case fin1=>
   intro d bf eQ
   refine hide fun gG hG=>?_
   obtain ⟨hg,o',x',y',p,q,rfl,pE,Rc,uY,Rb,M',tf⟩:=eQ
   refine hG ?_
   exact ⟨hg,pE,Rc,uY,Rb,M',by simp only;lia⟩
  case step1=>
   clear hx Ae hy Oj M hn
   intro n1 d bf _ pF qo
   refine hide fun gG hG=>?_
   obtain ⟨⟨g,rfl⟩,o,x,y,p,q,rfl,hx,Ae,hy,Oj,M,tf⟩:=qo
   refine hG ?_
   try dsimp only
   refine hide fun gG hG=>?_
   obtain ⟨x,rfl⟩:∃x1,x=x1+1:=⟨x - 1,by lia⟩
   obtain ⟨y,rfl⟩:∃y1,y=y1+1:=⟨y - 1,by lia⟩
   refine hG ?_
   simp only [Nat.add_sub_cancel]
   refine wpS_bind (cz (by lia) ?_)
   refine wpS_bind (cz (by lia) ?_)
   refine wpS_bind (FX C (hb _ (Array.getElem_mem _)) (ha _ (Array.getElem_mem _)) hk ?_)
   try dsimp only
   by_cases hc:r b[y] < r a[x]
   ·rw [if_pos (by simpa using hc)]
    refine wpS_bind (cz (by lia) ?_)
    try dsimp only
    have MB:=MH.sE M (by lia) fun i hi h2=>by
     have:=eV sb (show i<=y by lia) (by lia)
     lia
    refine aC (fun hz=>?_) (fun hz=>?_)
    ·exact wpS_pure ⟨⟨_,rfl⟩,MB.fin (.inl (by simpa using hz))⟩
    have yK:x≠0:=by simpa using hz
    refine aC (fun hz=>?_) (fun hz=>?_)
    ·exact wpS_pure ⟨⟨_,rfl⟩,(by simp only;lia),(by simp only;lia),hy,Oj,MB,by simp only;lia⟩
    ·exact wpS_pure ⟨⟨_,rfl⟩,_,_,_,_,_,rfl,by lia,by lia,hy,Oj,MB,by lia⟩
   ·rw [if_neg (by simpa using hc)]
    refine wpS_bind (cz (by lia) ?_)
    try dsimp only
    have MB:=MH.sD M (by lia) fun i hi h2=>by
     have:=eV sa (show i<=x by lia) (by lia)
     lia
    refine aC (fun hz=>?_) (fun hz=>?_)
    ·exact wpS_pure ⟨⟨_,rfl⟩,MB.fst (by simpa using hz) nb h0⟩
    have yK:y≠1:=by simpa using hz
    refine aC (fun hz=>?_) (fun hz=>?_)
    ·exact wpS_pure ⟨⟨_,rfl⟩,hx,Ae,(by simp only;lia),(by simp only;lia),MB,by simp only;lia⟩
    ·exact wpS_pure ⟨⟨_,rfl⟩,_,_,_,_,_,rfl,hx,Ae,by lia,by lia,MB,by lia⟩
  case post1=>
   intro IW bf eQ
   refine hide fun gG hG=>?_
   obtain ⟨d1,x1,y1,o1,p1,q1⟩:=IW
   obtain ⟨⟨g,rfl⟩,hd⟩:=eQ
   refine hG ?_
   dsimp only at hd ⊢
   cases d1 with
   | some R=>exact wpS_pure ⟨⟨_,rfl⟩,R,rfl,hd⟩
   | none=>
    refine hide fun gG hG=>?_
    obtain ⟨uZ,U0,Ie,UW,M1,pF⟩:=hd
    refine hG ?_
    clear hx Ae hy Oj M Em hn
    try dsimp only
    refine wpS_bind (wpS_lift (wpAny_rule ⟨rfl,?_⟩))
    refine wpS_bind (wpS_mono (wpS_forRange (I:=fun _ e bf=>(∃g,bf=cF st g)/\∃o' x' y' m' p q,e=(none,x',y',o',m',p,q)/\0 < x'/\x'<=a.size/\1 < y'/\y'<=b.size/\vA r a b o' x' y'/\x'+y'+n+2<=a.size+b.size)
     (Q:=fun e bf=>(∃g,bf=cF st g)/\match e.1 with | some R=>Good r a b R | none=>0 < e.2.1/\e.2.1<=a.size/\1 < e.2.2.1/\e.2.2.1<=b.size/\vA r a b e.2.2.2.1 e.2.1 e.2.2.1/\e.2.1+e.2.2.1+n+2<=a.size+b.size) ?step2 ?fin2 ⟨⟨_,rfl⟩,_,_,_,_,_,_,rfl,uZ,U0,Ie,UW,M1,pF⟩) ?post2)
    case fin2=>
     intro e bf eQ
     refine hide fun gG hG=>?_
     obtain ⟨hg,o',x',y',m',p,q,rfl,pE,Rc,uY,Rb,M',tf⟩:=eQ
     refine hG ?_
     exact ⟨hg,pE,Rc,uY,Rb,M',tf⟩
    case post2=>
     intro IW bf eQ
     refine hide fun gG hG=>?_
     obtain ⟨e1,x2,y2,o2,m2,p2,q2⟩:=IW
     obtain ⟨⟨g,rfl⟩,he⟩:=eQ
     refine hG ?_
     dsimp only at he ⊢
     cases e1 with
     | some R=>exact wpS_pure ⟨⟨_,rfl⟩,R,rfl,he⟩
     | none=>
      refine hide fun gG hG=>?_
      obtain ⟨Ei,aAr,Oi,aAq,M2,El⟩:=he
      refine hG ?_
      refine wpS_bind (wpS_modify (wpS_pure ⟨⟨_,rfl⟩,_,_,_,_,rfl,Ei,aAr,Oi,aAq,M2,by lia⟩))
    case step2=>
     clear uZ U0 Ie UW M1 pF
     intro n2 e bf _ El qo
     refine hide fun gG hG=>?_
     obtain ⟨⟨g,rfl⟩,o,x,y,m',p,q,rfl,hx,Ae,hy,Oj,M,tf⟩:=qo
     refine hG ?_
     try dsimp only
     refine' share (P:=_) (fun H=>aC (fun hm=>?A) (fun hm=>?B)) ?_
     case A=>generalize m' - 1=gg;revert gg;exact H
     case B=>clear hm;generalize m'=gg;revert gg;exact H
     intro gg
     obtain ⟨y,rfl⟩:∃y1,y=y1+1:=⟨y - 1,by lia⟩
     simp only [Nat.add_sub_cancel]
     refine wpS_bind (wpS_modify ?_)
     refine wpS_bind (cz (by lia) ?_)
     refine wpS_bind (sj C (by lia) (by lia) ha (hb _ (Array.getElem_mem _)) hk (fun i j h1 h2 _=>eV sa (by lia) h2) fun e l1 l2 l3=>?_)
     try dsimp only
     have HR:∀i,i < e->∀(h2:i < a.size),r a[i]<=r (b[y]'(by lia)):=fun i hi h2=>by simpa [isA] using l2 i hi (by lia)
     have Ob:∀i,e<=i->i < x->∀(h2:i < a.size),r (b[y]'(by lia)) < r a[i]:=fun i hi mE h2=>by have:=l3 i hi mE (by lia);simpa [isA] using this
     clear l2 l3
     generalize aAK:x - e=cnt
     refine' uo (R:=fun o' x'=>x'=e/\0 < x'/\vA r a b o' x' (y+1)) (P:=_) (fun H=>aC (fun hz=>?A) (fun hz=>?B)) ?_
     case A=>
      have MA:=MH.Hy (e:=e) M l1 fun i hi mE h2 j hj Mq=>by
       have e1:=Ob i hi mE h2
       have e2:=eV sb (show j<=y by lia) (by lia)
       lia
      refine aC (fun hz=>?_) (fun hz=>?_)
      ·exact wpS_pure ⟨⟨_,rfl⟩,MA.fin (.inl (by simpa using hz))⟩
      have hz0:e≠0:=by simpa using hz
      have e1:0 < e:=by lia
      obtain ⟨x',pE⟩:∃x',x'=e:=⟨_,rfl⟩
      rw [<-pE] at MA e1 ⊢
      generalize o++(a.extract x' x).reverse=o' at MA ⊢
      exact H o' x' ⟨pE,e1,MA⟩
     case B=>exact H o x ⟨by lia,hx,M⟩
     rintro o x' ⟨pE,uZ,MA⟩
     obtain ⟨x',rfl⟩:∃x1,x'=x1+1:=⟨x' - 1,by lia⟩
     simp only [Nat.add_sub_cancel]
     have MB:=MH.sD (y:=y) MA (by lia) fun i hi h2=>HR i (by lia) h2
     clear HR Ob MA M
     refine wpS_bind (cz (by lia) ?_)
     try dsimp only
     refine aC (fun hz=>?_) (fun hz=>?_)
     ·exact wpS_pure ⟨⟨_,rfl⟩,MB.fst (by simpa using hz) nb h0⟩
     have rk:y≠1:=by simpa using hz
     have Oi:1 < y:=by lia
     have hxa:x'+1<=a.size:=by lia
     have hnn:x'+1+(y+1)+n+2<=a.size+b.size:=by lia
     clear rk hz aAK pE tf Ae hx l1
     refine wpS_bind (cz (by lia) ?_)
     refine wpS_bind (sj C (by lia) (by lia) hb (ha _ (Array.getElem_mem _)) hk (fun i j h1 h2 _=>eV sb (by lia) h2) fun f l1 m2 m3=>?_)
     try dsimp only
     have m2':∀i,i < f->∀(h2:i < b.size),r b[i] < r (a[x']'(by lia)):=fun i hi h2=>by simpa [isA] using m2 i hi (by lia)
     have m3':∀i,f<=i->i < y->∀(h2:i < b.size),r (a[x']'(by lia))<=r b[i]:=fun i hi mE h2=>by have:=m3 i hi mE (by lia);simpa [isA] using this
     clear m2 m3
     generalize aBB:y - f=aBM
     refine' uo (R:=fun o' y'=>y'=f/\1 < y'/\vA r a b o' (x'+1) y') (P:=_) (fun H=>aC (fun hz=>?A) (fun hz=>?B)) ?_
     case A=>
      have MC:=MH.Hx (e:=f) MB (by lia) fun i hi mE h2 j hj Mq=>by
       have e1:=m3' i hi mE h2
       have e2:=eV sa (show j<=x' by lia) (by lia)
       lia
      refine aC (fun hz=>?_) (fun hz=>?_)
      ·exact wpS_pure ⟨⟨_,rfl⟩,MC.fst (by simpa using hz) nb h0⟩
      have hz4:f≠1:=by simpa using hz
      refine aC (fun hz=>?_) (fun hz=>?_)
      ·exact wpS_pure ⟨⟨_,rfl⟩,MC.fin (.inr (by simpa using hz))⟩
      have hz5:f≠0:=by simpa using hz
      have e1:1 < f:=by lia
      obtain ⟨y',uY⟩:∃y',y'=f:=⟨_,rfl⟩
      rw [<-uY] at MC e1 ⊢
      generalize _++(b.extract y' y).reverse=o' at MC ⊢
      exact H o' y' ⟨uY,e1,MC⟩
     case B=>exact H _ y ⟨by lia,Oi,MB⟩
     rintro o' y' ⟨uY,Ie,MC⟩
     have MZ:=MH.sE (x:=x') MC (by lia) fun i hi h2=>(by have:=m2' i (by lia) h2;lia)
     clear m2' m3' MB MC
     refine wpS_bind (cz (by lia) ?_)
     try dsimp only
     refine aC (fun hz=>?_) (fun hz=>?_)
     ·exact wpS_pure ⟨⟨_,rfl⟩,MZ.fin (.inl (by simpa using hz))⟩
     ·have yK:x'≠0:=by simpa using hz
      have e1:0 < x':=by lia
      have e2:x'<=a.size:=by lia
      have e3:y'<=b.size:=by lia
      have e4:x'+y'+n+2<=a.size+b.size:=by lia
      refine aC (fun hz=>?_) (fun hz=>?_)
      ·exact wpS_pure ⟨⟨_,rfl⟩,e1,e2,Ie,e3,MZ,e4⟩
      ·exact wpS_pure ⟨⟨_,rfl⟩,_,_,_,_,_,_,rfl,e1,e2,Ie,e3,MZ,e4⟩
end
end L2
end
section
namespace L2
open PySem PySem.W PyProof.Rows
section
variable {prog:Program} {w:World} {A:Around} {E:Value->Shared->Prop} {s:Shared} {κ:SortKind} {r:Keyed->Int} {a₀:Array Keyed}
def Rk (r:Keyed->Int) (xs:Array Keyed) (i:Nat):Int:=match xs[i]? with
 | some p=>r p
 | none=>0
theorem Rk.eq {xs:Array Keyed} {i:Nat} (h:i < xs.size):Rk r xs i=r xs[i]:=by unfold Rk;rw [Array.getElem?_eq_getElem h]
theorem Rk.congr {xs ys:Array Keyed} {i j:Nat} (h:xs[i]? = ys[j]?):Rk r xs i=Rk r ys j:=by unfold Rk;rw [h]
def Sg (r:Keyed->Int) (xs:Array Keyed) (lo hi:Nat):Prop:=∀i j,lo<=i->i<=j->j < hi->Rk r xs i<=Rk r xs j
def Dg (r:Keyed->Int) (xs:Array Keyed) (lo hi:Nat):Prop:=∀i j,lo<=i->i<=j->j < hi->Rk r xs j<=Rk r xs i
structure SB (a₀:Array Keyed) (κ:SortKind) (st:SortSt):Prop where
 perm:(arrOf st).Perm a₀
 kind:kindOf st=κ
 ok:failedOf st=none
theorem SB.size {st:SortSt} (h:SB a₀ κ st):(arrOf st).size=a₀.size:=h.perm.size_eq
theorem SB.put {st:SortSt} (h:SB a₀ κ st) {xs:Array Keyed} (hp:xs.Perm (arrOf st)):SB a₀ κ (setArr st xs):=⟨hp.trans h.perm,h.kind,h.ok⟩
theorem SB.mem {st:SortSt} (h:SB a₀ κ st) {z:Keyed} (hz:z∈arrOf st):z∈a₀:=h.perm.mem_iff.mp hz
abbrev Ee (prog:Program) (w:World) (A:Around) (s:Shared) (κ:SortKind) (r:Keyed->Int) (a₀:Array Keyed):Prop:=S' prog w A s κ r (·∈a₀)
theorem gd (C:Ee prog w A s κ r a₀) {st:SortSt} {i j:Nat} {Q:Option Bool->SortSt->Prop} (B:SB a₀ κ st) (hi:i < a₀.size) (hj:j < a₀.size) (h:Q (some (decide (Rk r (arrOf st) i < Rk r (arrOf st) j))) st):wpS (model prog w) A E s (ltAt' i j) Q st:=by
 have Iq:i < (arrOf st).size:=by rw [B.size];exact hi
 have qR:j < (arrOf st).size:=by rw [B.size];exact hj
 rw [Rk.eq Iq,Rk.eq qR] at h
 rw [ltAt'_eq]
 refine wpS_bind (wpS_get ?_)
 refine wpS_bind (cz Iq (wpS_bind (cz qR (FX C (B.mem (Array.getElem_mem _)) (B.mem (Array.getElem_mem _)) B.kind h))))
theorem m4 {st:SortSt} {i j:Nat} {Q:Unit->SortSt->Prop} (h:Q () (setArr st (mirror (arrOf st) i j ((j - i) / 2)))):wpS (model prog w) A E s (reverseSlice' i j) Q st:=by
 rw [reverseSlice'_eq];exact wpS_modify h
theorem dH {xs:Array Keyed} {i j:Nat} (hj:j<=xs.size) (k:Nat):Rk r (mirror xs i j ((j - i) / 2)) k=if i<=k/\k < j then Rk r xs (i+j - 1 - k) else Rk r xs k:=by
 have e:=getElem?_mirror_all (i:=i) hj k
 by_cases h1:i<=k/\k < j
 ·rw [if_pos h1] at e ⊢;exact Rk.congr e
 ·rw [if_neg h1] at e ⊢;exact Rk.congr e
theorem bX {xs:Array Keyed} {i j:Nat} (hj:j<=xs.size) (heq:∀k,i<=k->k < j->Rk r xs k=Rk r xs (j - 1)) (k:Nat):Rk r (mirror xs i j ((j - i) / 2)) k=Rk r xs k:=by
 rw [dH hj]
 split
 ·rw [heq _ (by lia) (by lia),heq k (by lia) (by lia)]
 ·rfl
def Pre (lo:Nat) (xs ys:Array Keyed):Prop:=∀k,k < lo->ys[k]? = xs[k]?
theorem Pre.refl {lo:Nat} {xs:Array Keyed}:Pre lo xs xs:=fun _ _=>rfl
theorem Pre.trans {lo:Nat} {xs ys zs:Array Keyed} (h:Pre lo xs ys) (g:Pre lo ys zs):Pre lo xs zs:=fun k hk=>(g k hk).trans (h k hk)
theorem Pre.Lz {lo i j:Nat} {xs:Array Keyed} (hi:lo<=i) (hj:j<=xs.size):Pre lo xs (mirror xs i j ((j - i) / 2)):=fun k hk=>by
 rw [getElem?_mirror_all hj,if_neg (by lia)]
theorem Pre.bub {lo src d:Nat} {xs:Array Keyed} (hs:src < xs.size) (hd:lo+d<=src):Pre lo xs (bubble xs src d):=fun k hk=>by
 rw [getElem?_bubble hs d (by lia),if_neg (by lia),if_neg (by lia)]
theorem sA {xs:Array Keyed} {src d:Nat} (hs:src < xs.size) (hd:d<=src) (k:Nat):Rk r (bubble xs src d) k=if k=src - d then Rk r xs src else if src - d < k/\k<=src then Rk r xs (k - 1) else Rk r xs k:=by
 have e:=getElem?_bubble hs d hd k
 by_cases h1:k=src - d
 ·rw [if_pos h1] at e ⊢;exact Rk.congr e
 ·rw [if_neg h1] at e ⊢
  by_cases h2:src - d < k/\k<=src
  ·rw [if_pos h2] at e ⊢;exact Rk.congr e
  ·rw [if_neg h2] at e ⊢;exact Rk.congr e
theorem T4 (C:Ee prog w A s κ r a₀) {st:SortSt} {lo n ok:Nat} {Q:Bool->SortSt->Prop} (hn:lo+n<=a₀.size) (bh:ok<=n) (B:SB a₀ κ st) (hs:Sg r (arrOf st) lo (lo+ok))
  (h:∀bf,SB a₀ κ bf->pendingOf bf=pendingOf st->Pre lo (arrOf st) (arrOf bf)->Sg r (arrOf bf) lo (lo+n)->Q true bf):wpS (model prog w) A E s (binarySort' lo n ok) Q st:=by
 rw [binarySort'_eq]
 refine wpS_bind (wpS_mono (wpS_forRange (I:=fun k c bf=>c=(none,())/\SB a₀ κ bf/\pendingOf bf=pendingOf st/\Pre lo (arrOf st) (arrOf bf)/\Sg r (arrOf bf) lo (lo+min k n))
  (Q:=fun c bf=>c=(none,())/\SB a₀ κ bf/\pendingOf bf=pendingOf st/\Pre lo (arrOf st) (arrOf bf)/\Sg r (arrOf bf) lo (lo+n)) ?step ?fin ?init) ?post)
 case post=>
  rintro c bf ⟨rfl,B',p',e',s'⟩
  exact wpS_pure (h bf B' p' e' s')
 case init=>
  refine ⟨rfl,B,rfl,.refl,fun i j h1 h2 h3=>?_⟩
  by_cases z:ok=0
  ·have:i=j:=by lia
   subst this;exact Int.le_refl _
  ·exact hs i j h1 h2 (by lia)
 case fin=>
  rintro c bf ⟨hc,B',p',e',s'⟩
  refine ⟨hc,B',p',e',?_⟩
  rwa [show min (max (max ok 1) n) n=n by lia] at s'
 case step=>
  rintro k c bf hak hkn ⟨rfl,B',p',e',s'⟩
  rw [show min k n=k by lia] at s'
  have hsz:(arrOf bf).size=a₀.size:=B'.size
  refine wpS_bind (wpS_mono (wpS_forRange (a:=0) (I:=fun x c aB=>aB=bf/\∃l q,c=(none,l,q)/\l<=q/\q<=k/\q - l<=k - x/\(∀i,lo<=i->i < lo+l->Rk r (arrOf bf) i<=Rk r (arrOf bf) (lo+k))/\(∀i,lo+q<=i->i < lo+k->Rk r (arrOf bf) (lo+k) < Rk r (arrOf bf) i))
   (Q:=fun c aB=>aB=bf/\∃l q,c=(none,l,q)/\l<=k/\(∀i,lo<=i->i < lo+l->Rk r (arrOf bf) i<=Rk r (arrOf bf) (lo+k))/\(∀i,lo+l<=i->i < lo+k->Rk r (arrOf bf) (lo+k) < Rk r (arrOf bf) i)) ?istep ?ifin ⟨rfl,0,k,rfl,by lia,by lia,by lia,fun i _ _=>by lia,fun i _ _=>by lia⟩) ?ipost)
  case ifin=>
   rintro c aB ⟨rfl,l,q,rfl,a1,a2,a3,a4,a5⟩
   have:l=q:=by lia
   subst this
   exact ⟨rfl,l,l,rfl,a2,a4,a5⟩
  case istep=>
   rintro x c aB _ hx ⟨rfl,l,q,rfl,a1,a2,a3,a4,a5⟩
   try dsimp only
   refine aC (fun hz=>?_) (fun hz=>?_)
   ·have:l=q:=by lia
    subst this
    exact wpS_pure ⟨rfl,l,l,rfl,a2,a4,a5⟩
   ·refine wpS_bind (gd C B' (by lia) (by lia) ?_)
    try dsimp only
    refine aC (fun hc=>?_) (fun hc=>?_)
    ·have hV:=of_decide_eq_true hc
     refine wpS_pure ⟨rfl,l,(l+q) / 2,rfl,by lia,by lia,by lia,a4,fun i h1 h2=>?_⟩
     have:=s' (lo+(l+q) / 2) i (by lia) h1 (by lia)
     lia
    ·have hV:¬(Rk r (arrOf aB) (lo+k) < Rk r (arrOf aB) (lo+(l+q) / 2)):=fun z=>hc (decide_eq_true z)
     refine wpS_pure ⟨rfl,(l+q) / 2+1,q,rfl,by lia,by lia,by lia,fun i h1 h2=>?_,a5⟩
     have:=s' i (lo+(l+q) / 2) h1 (by lia) (by lia)
     lia
  case ipost=>
   rintro c aB ⟨rfl,l,q,rfl,J3,a4,a5⟩
   show wpS _ _ _ _ (do moveDown' (lo+k) (lo+l);pure (ForInStep.yield (none,()))) _ _
   rw [moveDown'_eq]
   have hks:lo+k < (arrOf aB).size:=by lia
   have ed:lo+k - (lo+l)=k - l:=by lia
   refine wpS_bind (wpS_modify (wpS_pure ⟨rfl,B'.put (bubble_perm _ _ _),p',e'.trans (Pre.bub hks (by lia)),?_⟩))
   rw [show min (k+1) n=k+1 by lia]
   intro i j h1 h2 h3
   show Rk r (bubble (arrOf aB) (lo+k) (lo+k - (lo+l))) i<=Rk r (bubble (arrOf aB) (lo+k) (lo+k - (lo+l))) j
   rw [sA hks (by lia),sA hks (by lia),ed,show lo+k - (k - l)=lo+l by lia]
   repeat' split
   all_goals first
    | (exfalso;lia)
    | exact Int.le_refl _
    | exact a4 _ (by lia) (by lia)
    | exact Int.le_of_lt (a5 _ (by lia) (by lia))
    | exact s' _ _ (by lia) (by lia) (by lia)
end
end L2
end
section
namespace L2
open PySem PySem.W PyProof.Rows
section
variable {prog:Program} {w:World} {A:Around} {E:Value->Shared->Prop} {s:Shared} {κ:SortKind} {r:Keyed->Int} {a₀:Array Keyed}
theorem Kt (C:Ee prog w A s κ r a₀) {st:SortSt} {lo cY:Nat} {Q:Option Nat->SortSt->Prop} (hn:lo+cY<=a₀.size) (hr1:1<=cY) (B:SB a₀ κ st)
  (h:∀m bf,SB a₀ κ bf->pendingOf bf=pendingOf st->Pre lo (arrOf st) (arrOf bf)->1<=m->m<=cY->Sg r (arrOf bf) lo (lo+m)->Q (some m) bf):wpS (model prog w) A E s (countRun' lo cY) Q st:=by
 rw [countRun'_eq]
 try dsimp only
 have s0:Sg r (arrOf st) lo (lo+1):=fun i j h1 h2 h3=>by
  have:i=j:=by lia
  subst this;exact Int.le_refl _
 refine wpS_bind (wpS_mono (wpS_forRange (a:=1) (I:=fun x c aB=>aB=st/\c=(none,x)/\Sg r (arrOf st) lo (lo+x))
  (Q:=fun c aB=>aB=st/\∃n,c=(none,n)/\1<=n/\n<=cY/\Sg r (arrOf st) lo (lo+n)/\(n=cY\/Rk r (arrOf st) (lo+n) < Rk r (arrOf st) (lo+n - 1))) ?stepz ?finz ⟨rfl,rfl,s0⟩) ?postz)
 case finz=>
  rintro c aB ⟨rfl,rfl,s'⟩
  rw [show max (1) cY=cY by lia] at s' ⊢
  exact ⟨rfl,cY,rfl,by lia,Nat.le_refl _,s',.inl rfl⟩
 case stepz=>
  rintro x c aB Dl Sr ⟨e0,rfl,s'⟩
  replace e0:=e0.symm;subst e0
  try dsimp only
  refine wpS_bind (gd C B (by lia) (by lia) ?_)
  try dsimp only
  refine aC (fun hc=>?_) (fun hc=>?_)
  ·exact wpS_pure ⟨rfl,x,rfl,Dl,by lia,s',.inr (of_decide_eq_true hc)⟩
  ·have hV:=fun z=>hc (decide_eq_true z)
   refine wpS_pure ⟨rfl,rfl,fun i j h1 h2 h3=>?_⟩
   by_cases hj:j < lo+x
   ·exact s' i j h1 h2 hj
   ·have qR:j=lo+x:=by lia
    subst qR
    by_cases hi:i=lo+x
    ·subst hi;exact Int.le_refl _
    ·have:=s' i (lo+x - 1) h1 (by lia) (by lia)
     exact Int.le_trans this (Int.not_lt.mp hV)
 case postz=>
  intro c aB eQ
  refine hide fun gG hG=>?_
  obtain ⟨e0,n,rfl,Xg,pF,s',U7⟩:=eQ
  refine hG ?_
  replace e0:=e0.symm;subst e0
  try dsimp only
  refine aC (fun hz=>?_) (fun hz=>?_)
  ·have yK:n=cY:=by simpa using hz
   exact wpS_pure (h n _ B rfl .refl (by lia) pF s')
  have yK:n≠cY:=by simpa using hz
  have gi:=U7.resolve_left yK
  have hsz:(arrOf st).size=a₀.size:=B.size
  refine aC (fun rk=>?_) (fun rk=>?_)
  ·refine wpS_bind (gd C B (by lia) (by lia) ?_)
   try dsimp only
   refine aC (fun hc=>?_) (fun hc=>?_)
   ·exact wpS_pure (h n _ B rfl .refl (by lia) pF s')
   ·have hV:¬(Rk r (arrOf st) lo < Rk r (arrOf st) (lo+n - 1)):=fun z=>hc (decide_eq_true z)
    have o8:∀k,lo<=k->k < lo+n->Rk r (arrOf st) k=Rk r (arrOf st) (lo+n - 1):=fun k h1 h2=>by
     have a1:=s' lo k (by lia) h1 h2
     have a2:=s' k (lo+n - 1) h1 (by lia) (by lia)
     lia
    refine wpS_bind (m4 ?_)
    have B1:=B.put (mirror_perm _ lo (lo+n) ((lo+n - lo) / 2))
    have e1:Pre lo (arrOf st) (mirror (arrOf st) lo (lo+n) ((lo+n - lo) / 2)):=Pre.Lz (Nat.le_refl lo) (by lia)
    have d1:Dg r (arrOf (setArr st (mirror (arrOf st) lo (lo+n) ((lo+n - lo) / 2)))) lo (lo+(n+1)):=fun i j h1 h2 h3=>by
     show Rk r (mirror (arrOf st) _ _ _) j<=Rk r (mirror (arrOf st) _ _ _) i
     rw [bX (by lia) o8,bX (by lia) o8]
     by_cases hj:j < lo+n
     ·rw [o8 i h1 (by lia),o8 j (by lia) hj];exact Int.le_refl _
     ·have qR:j=lo+n:=by lia
      subst qR
      by_cases hi:i=lo+n
      ·subst hi;exact Int.le_refl _
      ·rw [o8 i h1 (by lia)];exact Int.le_of_lt gi
    have Ap:Pre lo (arrOf st) (arrOf (setArr st (mirror (arrOf st) lo (lo+n) ((lo+n - lo) / 2)))):=e1
    have p1:pendingOf (setArr st (mirror (arrOf st) lo (lo+n) ((lo+n - lo) / 2)))=pendingOf st:=rfl
    clear e1
    generalize setArr st (mirror (arrOf st) lo (lo+n) ((lo+n - lo) / 2))=S1 at B1 d1 Ap p1 ⊢
    refine wpS_bind (wpS_lift (wpAny_rule ⟨rfl,?_⟩))
    refine wpS_bind (wpS_mono (wpS_forRange (a:=n+1) (I:=fun x c aB=>∃q,c=(none,x,q)/\SB a₀ κ aB/\pendingOf aB=pendingOf st/\Pre lo (arrOf st) (arrOf aB)/\Dg r (arrOf aB) lo (lo+x)/\q+1<=x/\(∀i,lo+x - (q+1)<=i->i < lo+x->Rk r (arrOf aB) i=Rk r (arrOf aB) (lo+x - 1)))
     (Q:=fun c aB=>∃x q,c=(none,x,q)/\n+1<=x/\x<=cY/\SB a₀ κ aB/\pendingOf aB=pendingOf st/\Pre lo (arrOf st) (arrOf aB)/\Dg r (arrOf aB) lo (lo+x)/\q+1<=x/\(∀i,lo+x - (q+1)<=i->i < lo+x->Rk r (arrOf aB) i=Rk r (arrOf aB) (lo+x - 1))) ?dstepx ?dfinx ⟨0,rfl,B1,p1,Ap,d1,by lia,fun i h1 h2=>by congr 1;lia⟩) ?dpostx)
    case dfinx=>
     intro c aB eQ
     refine hide fun gG hG=>?_
     obtain ⟨q,rfl,b1,b2,b3,b4,b5,b6⟩:=eQ
     refine hG ?_
     rw [show max (n+1) cY=cY by lia] at b4 b5 b6 ⊢
     exact ⟨cY,q,rfl,by lia,Nat.le_refl _,b1,b2,b3,b4,b5,b6⟩
    case dstepx=>
     intro x c aB Dl Sr qo
     refine hide fun gG hG=>?_
     obtain ⟨q,rfl,b1,b2,b3,b4,b5,b6⟩:=qo
     refine hG ?_
     have hsz:(arrOf aB).size=a₀.size:=b1.size
     try dsimp only
     refine wpS_bind (gd C b1 (by lia) (by lia) ?_)
     try dsimp only
     refine aC (fun hc=>?_) (fun hc=>?_)
     ·have hV:=of_decide_eq_true hc
      have Tt:∀xs:Array Keyed,(∀k,Rk r xs k=Rk r (arrOf aB) k)->Dg r xs lo (lo+(x+1)):=fun xs hk i j h1 h2 h3=>by
       rw [hk,hk]
       by_cases hj:j < lo+x
       ·exact b4 i j h1 h2 hj
       ·have qR:j=lo+x:=by lia
        subst qR
        by_cases hi:i=lo+x
        ·subst hi;exact Int.le_refl _
        ·have:=b4 i (lo+x - 1) h1 (by lia) (by lia)
         lia
      refine aC (fun hq=>?_) (fun hq=>?_)
      ·refine wpS_bind (m4 (wpS_pure ⟨0,rfl,b1.put (mirror_perm _ _ _ _),b2,b3.trans (Pre.Lz (by lia) (by lia)),Tt _ (bX (by lia) b6),by lia,fun i h1 h2=>by congr 1;lia⟩))
      ·exact wpS_pure ⟨0,rfl,b1,b2,b3,Tt _ (fun _=>rfl),by lia,fun i h1 h2=>by congr 1;lia⟩
     ·have hV:¬(Rk r (arrOf aB) (lo+x) < Rk r (arrOf aB) (lo+x - 1)):=fun z=>hc (decide_eq_true z)
      refine wpS_bind (gd C b1 (by lia) (by lia) ?_)
      try dsimp only
      refine aC (fun hd=>?_) (fun hd=>?_)
      ·exact wpS_pure ⟨x,q,rfl,Dl,by lia,b1,b2,b3,b4,b5,b6⟩
      ·have Vs:¬(Rk r (arrOf aB) (lo+x - 1) < Rk r (arrOf aB) (lo+x)):=fun z=>hd (decide_eq_true z)
       have heq:Rk r (arrOf aB) (lo+x)=Rk r (arrOf aB) (lo+x - 1):=by lia
       refine wpS_pure ⟨q+1,rfl,b1,b2,b3,fun i j h1 h2 h3=>?_,by lia,fun i h1 h2=>?_⟩
       ·by_cases hj:j < lo+x
        ·exact b4 i j h1 h2 hj
        ·have qR:j=lo+x:=by lia
         subst qR
         by_cases hi:i=lo+x
         ·subst hi;exact Int.le_refl _
         ·rw [heq];exact b4 i (lo+x - 1) h1 (by lia) (by lia)
       ·rw [show lo+(x+1) - 1=lo+x by lia]
        by_cases hi:i=lo+x
        ·subst hi;rfl
        ·rw [heq];exact b6 i (by lia) (by lia)
    case dpostx=>
     intro c S3 eQ
     refine hide fun gG hG=>?_
     obtain ⟨m,q,rfl,Xh,Vf,b1,b2,b3,b4,b5,b6⟩:=eQ
     refine hG ?_
     try dsimp only
     refine aC (fun hq=>?_) (fun hq=>?_)
     ·refine wpS_bind (m4 ?_)
      have hsz:(arrOf S3).size=a₀.size:=b1.size
      have B4:=b1.put (mirror_perm _ (lo+m - (q+1)) (lo+m) ((lo+m - (lo+m - (q+1))) / 2))
      have e4:Pre lo (arrOf st) (arrOf (setArr S3 (mirror (arrOf S3) (lo+m - (q+1)) (lo+m) ((lo+m - (lo+m - (q+1))) / 2)))):=b3.trans (Pre.Lz (show lo<=lo+m - (q+1) by lia) (show lo+m<=(arrOf S3).size by lia))
      have d4:Dg r (arrOf (setArr S3 (mirror (arrOf S3) (lo+m - (q+1)) (lo+m) ((lo+m - (lo+m - (q+1))) / 2)))) lo (lo+m):=fun i j h1 h2 h3=>by
       show Rk r (mirror (arrOf S3) _ _ _) j<=Rk r (mirror (arrOf S3) _ _ _) i
       rw [bX (by lia) b6,bX (by lia) b6]
       exact b4 i j h1 h2 h3
      have p4:pendingOf (setArr S3 (mirror (arrOf S3) (lo+m - (q+1)) (lo+m) ((lo+m - (lo+m - (q+1))) / 2)))=pendingOf st:=b2
      generalize setArr S3 (mirror (arrOf S3) (lo+m - (q+1)) (lo+m) ((lo+m - (lo+m - (q+1))) / 2))=S4 at B4 e4 d4 p4 ⊢
      refine wpS_bind (m4 ?_)
      have yM:=B4.size
      have B2:=B4.put (mirror_perm _ lo (lo+m) ((lo+m - lo) / 2))
      have e2:Pre lo (arrOf st) (arrOf (setArr S4 (mirror (arrOf S4) lo (lo+m) ((lo+m - lo) / 2)))):=e4.trans (Pre.Lz (Nat.le_refl lo) (show lo+m<=_ by rw [yM];lia))
      have s2:Sg r (mirror (arrOf S4) lo (lo+m) ((lo+m - lo) / 2)) lo (lo+m):=fun i j h1 h2 h3=>by
       rw [dH (by rw [yM];lia),dH (by rw [yM];lia),if_pos (by lia),if_pos (by lia)]
       exact d4 _ _ (by lia) (by lia) (by lia)
      have p2:pendingOf (setArr S4 (mirror (arrOf S4) lo (lo+m) ((lo+m - lo) / 2)))=pendingOf st:=p4
      have FZ:Sg r (arrOf (setArr S4 (mirror (arrOf S4) lo (lo+m) ((lo+m - lo) / 2)))) lo (lo+m):=s2
      clear s2
      generalize setArr S4 (mirror (arrOf S4) lo (lo+m) ((lo+m - lo) / 2))=S2 at B2 p2 FZ e2 ⊢
      have s2:=FZ
      refine wpS_bind (wpS_mono (wpS_forRange (a:=m) (I:=fun x c aB=>aB=S2/\c=(none,x)/\Sg r (arrOf S2) lo (lo+x))
       (Q:=fun c aB=>aB=S2/\∃n,c=(none,n)/\m<=n/\n<=cY/\Sg r (arrOf S2) lo (lo+n)/\(n=cY\/Rk r (arrOf S2) (lo+n) < Rk r (arrOf S2) (lo+n - 1))) ?stepxa ?finxa ⟨rfl,rfl,s2⟩) ?postxa)
      case finxa=>
       rintro c aB ⟨rfl,rfl,s'⟩
       rw [show max (m) cY=cY by lia] at s' ⊢
       exact ⟨rfl,cY,rfl,by lia,Nat.le_refl _,s',.inl rfl⟩
      case stepxa=>
       rintro x c aB Dl Sr ⟨e0,rfl,s'⟩
       replace e0:=e0.symm;subst e0
       try dsimp only
       refine wpS_bind (gd C B2 (by lia) (by lia) ?_)
       try dsimp only
       refine aC (fun hc=>?_) (fun hc=>?_)
       ·exact wpS_pure ⟨rfl,x,rfl,Dl,by lia,s',.inr (of_decide_eq_true hc)⟩
       ·have hV:=fun z=>hc (decide_eq_true z)
        refine wpS_pure ⟨rfl,rfl,fun i j h1 h2 h3=>?_⟩
        by_cases hj:j < lo+x
        ·exact s' i j h1 h2 hj
        ·have qR:j=lo+x:=by lia
         subst qR
         by_cases hi:i=lo+x
         ·subst hi;exact Int.le_refl _
         ·have:=s' i (lo+x - 1) h1 (by lia) (by lia)
          exact Int.le_trans this (Int.not_lt.mp hV)
      case postxa=>
       intro c aB eQ
       refine hide fun gG hG=>?_
       obtain ⟨e0,n,rfl,Xg,pF,s',U7⟩:=eQ
       refine hG ?_
       replace e0:=e0.symm;subst e0
       try dsimp only
       exact wpS_pure (h n _ B2 p2 e2 (by lia) pF s')
     ·refine wpS_bind (m4 ?_)
      have yM:=b1.size
      have B2:=b1.put (mirror_perm _ lo (lo+m) ((lo+m - lo) / 2))
      have e2:Pre lo (arrOf st) (arrOf (setArr S3 (mirror (arrOf S3) lo (lo+m) ((lo+m - lo) / 2)))):=b3.trans (Pre.Lz (Nat.le_refl lo) (show lo+m<=_ by rw [yM];lia))
      have s2:Sg r (mirror (arrOf S3) lo (lo+m) ((lo+m - lo) / 2)) lo (lo+m):=fun i j h1 h2 h3=>by
       rw [dH (by rw [yM];lia),dH (by rw [yM];lia),if_pos (by lia),if_pos (by lia)]
       exact b4 _ _ (by lia) (by lia) (by lia)
      have p2:pendingOf (setArr S3 (mirror (arrOf S3) lo (lo+m) ((lo+m - lo) / 2)))=pendingOf st:=b2
      have FZ:Sg r (arrOf (setArr S3 (mirror (arrOf S3) lo (lo+m) ((lo+m - lo) / 2)))) lo (lo+m):=s2
      clear s2
      generalize setArr S3 (mirror (arrOf S3) lo (lo+m) ((lo+m - lo) / 2))=S2 at B2 p2 FZ e2 ⊢
      have s2:=FZ
      refine wpS_bind (wpS_mono (wpS_forRange (a:=m) (I:=fun x c aB=>aB=S2/\c=(none,x)/\Sg r (arrOf S2) lo (lo+x))
       (Q:=fun c aB=>aB=S2/\∃n,c=(none,n)/\m<=n/\n<=cY/\Sg r (arrOf S2) lo (lo+n)/\(n=cY\/Rk r (arrOf S2) (lo+n) < Rk r (arrOf S2) (lo+n - 1))) ?stepxb ?finxb ⟨rfl,rfl,s2⟩) ?postxb)
      case finxb=>
       rintro c aB ⟨rfl,rfl,s'⟩
       rw [show max (m) cY=cY by lia] at s' ⊢
       exact ⟨rfl,cY,rfl,by lia,Nat.le_refl _,s',.inl rfl⟩
      case stepxb=>
       rintro x c aB Dl Sr ⟨e0,rfl,s'⟩
       replace e0:=e0.symm;subst e0
       try dsimp only
       refine wpS_bind (gd C B2 (by lia) (by lia) ?_)
       try dsimp only
       refine aC (fun hc=>?_) (fun hc=>?_)
       ·exact wpS_pure ⟨rfl,x,rfl,Dl,by lia,s',.inr (of_decide_eq_true hc)⟩
       ·have hV:=fun z=>hc (decide_eq_true z)
        refine wpS_pure ⟨rfl,rfl,fun i j h1 h2 h3=>?_⟩
        by_cases hj:j < lo+x
        ·exact s' i j h1 h2 hj
        ·have qR:j=lo+x:=by lia
         subst qR
         by_cases hi:i=lo+x
         ·subst hi;exact Int.le_refl _
         ·have:=s' i (lo+x - 1) h1 (by lia) (by lia)
          exact Int.le_trans this (Int.not_lt.mp hV)
      case postxb=>
       intro c aB eQ
       refine hide fun gG hG=>?_
       obtain ⟨e0,n,rfl,Xg,pF,s',U7⟩:=eQ
       refine hG ?_
       replace e0:=e0.symm;subst e0
       try dsimp only
       exact wpS_pure (h n _ B2 p2 e2 (by lia) pF s')
  ·have hn:n=1:=by lia
   have d1:Dg r (arrOf st) lo (lo+(n+1)):=fun i j h1 h2 h3=>by
    by_cases hi:i=j
    ·subst hi;exact Int.le_refl _
    ·have e1:i=lo+n - 1:=by lia
     have e2:j=lo+n:=by lia
     subst e1;subst e2
     exact Int.le_of_lt gi
   refine wpS_bind (wpS_lift (wpAny_rule ⟨rfl,?_⟩))
   refine wpS_bind (wpS_mono (wpS_forRange (a:=n+1) (I:=fun x c aB=>∃q,c=(none,x,q)/\SB a₀ κ aB/\pendingOf aB=pendingOf st/\Pre lo (arrOf st) (arrOf aB)/\Dg r (arrOf aB) lo (lo+x)/\q+1<=x/\(∀i,lo+x - (q+1)<=i->i < lo+x->Rk r (arrOf aB) i=Rk r (arrOf aB) (lo+x - 1)))
    (Q:=fun c aB=>∃x q,c=(none,x,q)/\n+1<=x/\x<=cY/\SB a₀ κ aB/\pendingOf aB=pendingOf st/\Pre lo (arrOf st) (arrOf aB)/\Dg r (arrOf aB) lo (lo+x)/\q+1<=x/\(∀i,lo+x - (q+1)<=i->i < lo+x->Rk r (arrOf aB) i=Rk r (arrOf aB) (lo+x - 1))) ?dstepy ?dfiny ⟨0,rfl,B,rfl,.refl,d1,by lia,fun i h1 h2=>by congr 1;lia⟩) ?dposty)
   case dfiny=>
    intro c aB eQ
    refine hide fun gG hG=>?_
    obtain ⟨q,rfl,b1,b2,b3,b4,b5,b6⟩:=eQ
    refine hG ?_
    rw [show max (n+1) cY=cY by lia] at b4 b5 b6 ⊢
    exact ⟨cY,q,rfl,by lia,Nat.le_refl _,b1,b2,b3,b4,b5,b6⟩
   case dstepy=>
    intro x c aB Dl Sr qo
    refine hide fun gG hG=>?_
    obtain ⟨q,rfl,b1,b2,b3,b4,b5,b6⟩:=qo
    refine hG ?_
    have hsz:(arrOf aB).size=a₀.size:=b1.size
    try dsimp only
    refine wpS_bind (gd C b1 (by lia) (by lia) ?_)
    try dsimp only
    refine aC (fun hc=>?_) (fun hc=>?_)
    ·have hV:=of_decide_eq_true hc
     have Tt:∀xs:Array Keyed,(∀k,Rk r xs k=Rk r (arrOf aB) k)->Dg r xs lo (lo+(x+1)):=fun xs hk i j h1 h2 h3=>by
      rw [hk,hk]
      by_cases hj:j < lo+x
      ·exact b4 i j h1 h2 hj
      ·have qR:j=lo+x:=by lia
       subst qR
       by_cases hi:i=lo+x
       ·subst hi;exact Int.le_refl _
       ·have:=b4 i (lo+x - 1) h1 (by lia) (by lia)
        lia
     refine aC (fun hq=>?_) (fun hq=>?_)
     ·refine wpS_bind (m4 (wpS_pure ⟨0,rfl,b1.put (mirror_perm _ _ _ _),b2,b3.trans (Pre.Lz (by lia) (by lia)),Tt _ (bX (by lia) b6),by lia,fun i h1 h2=>by congr 1;lia⟩))
     ·exact wpS_pure ⟨0,rfl,b1,b2,b3,Tt _ (fun _=>rfl),by lia,fun i h1 h2=>by congr 1;lia⟩
    ·have hV:¬(Rk r (arrOf aB) (lo+x) < Rk r (arrOf aB) (lo+x - 1)):=fun z=>hc (decide_eq_true z)
     refine wpS_bind (gd C b1 (by lia) (by lia) ?_)
     try dsimp only
     refine aC (fun hd=>?_) (fun hd=>?_)
     ·exact wpS_pure ⟨x,q,rfl,Dl,by lia,b1,b2,b3,b4,b5,b6⟩
     ·have Vs:¬(Rk r (arrOf aB) (lo+x - 1) < Rk r (arrOf aB) (lo+x)):=fun z=>hd (decide_eq_true z)
      have heq:Rk r (arrOf aB) (lo+x)=Rk r (arrOf aB) (lo+x - 1):=by lia
      refine wpS_pure ⟨q+1,rfl,b1,b2,b3,fun i j h1 h2 h3=>?_,by lia,fun i h1 h2=>?_⟩
      ·by_cases hj:j < lo+x
       ·exact b4 i j h1 h2 hj
       ·have qR:j=lo+x:=by lia
        subst qR
        by_cases hi:i=lo+x
        ·subst hi;exact Int.le_refl _
        ·rw [heq];exact b4 i (lo+x - 1) h1 (by lia) (by lia)
      ·rw [show lo+(x+1) - 1=lo+x by lia]
       by_cases hi:i=lo+x
       ·subst hi;rfl
       ·rw [heq];exact b6 i (by lia) (by lia)
   case dposty=>
    intro c S3 eQ
    refine hide fun gG hG=>?_
    obtain ⟨m,q,rfl,Xh,Vf,b1,b2,b3,b4,b5,b6⟩:=eQ
    refine hG ?_
    try dsimp only
    refine aC (fun hq=>?_) (fun hq=>?_)
    ·refine wpS_bind (m4 ?_)
     have hsz:(arrOf S3).size=a₀.size:=b1.size
     have B4:=b1.put (mirror_perm _ (lo+m - (q+1)) (lo+m) ((lo+m - (lo+m - (q+1))) / 2))
     have e4:Pre lo (arrOf st) (arrOf (setArr S3 (mirror (arrOf S3) (lo+m - (q+1)) (lo+m) ((lo+m - (lo+m - (q+1))) / 2)))):=b3.trans (Pre.Lz (show lo<=lo+m - (q+1) by lia) (show lo+m<=(arrOf S3).size by lia))
     have d4:Dg r (arrOf (setArr S3 (mirror (arrOf S3) (lo+m - (q+1)) (lo+m) ((lo+m - (lo+m - (q+1))) / 2)))) lo (lo+m):=fun i j h1 h2 h3=>by
      show Rk r (mirror (arrOf S3) _ _ _) j<=Rk r (mirror (arrOf S3) _ _ _) i
      rw [bX (by lia) b6,bX (by lia) b6]
      exact b4 i j h1 h2 h3
     have p4:pendingOf (setArr S3 (mirror (arrOf S3) (lo+m - (q+1)) (lo+m) ((lo+m - (lo+m - (q+1))) / 2)))=pendingOf st:=b2
     generalize setArr S3 (mirror (arrOf S3) (lo+m - (q+1)) (lo+m) ((lo+m - (lo+m - (q+1))) / 2))=S4 at B4 e4 d4 p4 ⊢
     refine wpS_bind (m4 ?_)
     have yM:=B4.size
     have B2:=B4.put (mirror_perm _ lo (lo+m) ((lo+m - lo) / 2))
     have e2:Pre lo (arrOf st) (arrOf (setArr S4 (mirror (arrOf S4) lo (lo+m) ((lo+m - lo) / 2)))):=e4.trans (Pre.Lz (Nat.le_refl lo) (show lo+m<=_ by rw [yM];lia))
     have s2:Sg r (mirror (arrOf S4) lo (lo+m) ((lo+m - lo) / 2)) lo (lo+m):=fun i j h1 h2 h3=>by
      rw [dH (by rw [yM];lia),dH (by rw [yM];lia),if_pos (by lia),if_pos (by lia)]
      exact d4 _ _ (by lia) (by lia) (by lia)
     have p2:pendingOf (setArr S4 (mirror (arrOf S4) lo (lo+m) ((lo+m - lo) / 2)))=pendingOf st:=p4
     have FZ:Sg r (arrOf (setArr S4 (mirror (arrOf S4) lo (lo+m) ((lo+m - lo) / 2)))) lo (lo+m):=s2
     clear s2
     generalize setArr S4 (mirror (arrOf S4) lo (lo+m) ((lo+m - lo) / 2))=S2 at B2 p2 FZ e2 ⊢
     have s2:=FZ
     refine wpS_bind (wpS_mono (wpS_forRange (a:=m) (I:=fun x c aB=>aB=S2/\c=(none,x)/\Sg r (arrOf S2) lo (lo+x))
      (Q:=fun c aB=>aB=S2/\∃n,c=(none,n)/\m<=n/\n<=cY/\Sg r (arrOf S2) lo (lo+n)/\(n=cY\/Rk r (arrOf S2) (lo+n) < Rk r (arrOf S2) (lo+n - 1))) ?stepya ?finya ⟨rfl,rfl,s2⟩) ?postya)
     case finya=>
      rintro c aB ⟨rfl,rfl,s'⟩
      rw [show max (m) cY=cY by lia] at s' ⊢
      exact ⟨rfl,cY,rfl,by lia,Nat.le_refl _,s',.inl rfl⟩
     case stepya=>
      rintro x c aB Dl Sr ⟨e0,rfl,s'⟩
      replace e0:=e0.symm;subst e0
      try dsimp only
      refine wpS_bind (gd C B2 (by lia) (by lia) ?_)
      try dsimp only
      refine aC (fun hc=>?_) (fun hc=>?_)
      ·exact wpS_pure ⟨rfl,x,rfl,Dl,by lia,s',.inr (of_decide_eq_true hc)⟩
      ·have hV:=fun z=>hc (decide_eq_true z)
       refine wpS_pure ⟨rfl,rfl,fun i j h1 h2 h3=>?_⟩
       by_cases hj:j < lo+x
       ·exact s' i j h1 h2 hj
       ·have qR:j=lo+x:=by lia
        subst qR
        by_cases hi:i=lo+x
        ·subst hi;exact Int.le_refl _
        ·have:=s' i (lo+x - 1) h1 (by lia) (by lia)
         exact Int.le_trans this (Int.not_lt.mp hV)
     case postya=>
      intro c aB eQ
      refine hide fun gG hG=>?_
      obtain ⟨e0,n,rfl,Xg,pF,s',U7⟩:=eQ
      refine hG ?_
      replace e0:=e0.symm;subst e0
      try dsimp only
      exact wpS_pure (h n _ B2 p2 e2 (by lia) pF s')
    ·refine wpS_bind (m4 ?_)
     have yM:=b1.size
     have B2:=b1.put (mirror_perm _ lo (lo+m) ((lo+m - lo) / 2))
     have e2:Pre lo (arrOf st) (arrOf (setArr S3 (mirror (arrOf S3) lo (lo+m) ((lo+m - lo) / 2)))):=b3.trans (Pre.Lz (Nat.le_refl lo) (show lo+m<=_ by rw [yM];lia))
     have s2:Sg r (mirror (arrOf S3) lo (lo+m) ((lo+m - lo) / 2)) lo (lo+m):=fun i j h1 h2 h3=>by
      rw [dH (by rw [yM];lia),dH (by rw [yM];lia),if_pos (by lia),if_pos (by lia)]
      exact b4 _ _ (by lia) (by lia) (by lia)
     have p2:pendingOf (setArr S3 (mirror (arrOf S3) lo (lo+m) ((lo+m - lo) / 2)))=pendingOf st:=b2
     have FZ:Sg r (arrOf (setArr S3 (mirror (arrOf S3) lo (lo+m) ((lo+m - lo) / 2)))) lo (lo+m):=s2
     clear s2
     generalize setArr S3 (mirror (arrOf S3) lo (lo+m) ((lo+m - lo) / 2))=S2 at B2 p2 FZ e2 ⊢
     have s2:=FZ
     refine wpS_bind (wpS_mono (wpS_forRange (a:=m) (I:=fun x c aB=>aB=S2/\c=(none,x)/\Sg r (arrOf S2) lo (lo+x))
      (Q:=fun c aB=>aB=S2/\∃n,c=(none,n)/\m<=n/\n<=cY/\Sg r (arrOf S2) lo (lo+n)/\(n=cY\/Rk r (arrOf S2) (lo+n) < Rk r (arrOf S2) (lo+n - 1))) ?stepyb ?finyb ⟨rfl,rfl,s2⟩) ?postyb)
     case finyb=>
      rintro c aB ⟨rfl,rfl,s'⟩
      rw [show max (m) cY=cY by lia] at s' ⊢
      exact ⟨rfl,cY,rfl,by lia,Nat.le_refl _,s',.inl rfl⟩
     case stepyb=>
      rintro x c aB Dl Sr ⟨e0,rfl,s'⟩
      replace e0:=e0.symm;subst e0
      try dsimp only
      refine wpS_bind (gd C B2 (by lia) (by lia) ?_)
      try dsimp only
      refine aC (fun hc=>?_) (fun hc=>?_)
      ·exact wpS_pure ⟨rfl,x,rfl,Dl,by lia,s',.inr (of_decide_eq_true hc)⟩
      ·have hV:=fun z=>hc (decide_eq_true z)
       refine wpS_pure ⟨rfl,rfl,fun i j h1 h2 h3=>?_⟩
       by_cases hj:j < lo+x
       ·exact s' i j h1 h2 hj
       ·have qR:j=lo+x:=by lia
        subst qR
        by_cases hi:i=lo+x
        ·subst hi;exact Int.le_refl _
        ·have:=s' i (lo+x - 1) h1 (by lia) (by lia)
         exact Int.le_trans this (Int.not_lt.mp hV)
     case postyb=>
      intro c aB eQ
      refine hide fun gG hG=>?_
      obtain ⟨e0,n,rfl,Xg,pF,s',U7⟩:=eQ
      refine hG ?_
      replace e0:=e0.symm;subst e0
      try dsimp only
      exact wpS_pure (h n _ B2 p2 e2 (by lia) pF s')
end
end L2
end
section
namespace L2
open PySem PySem.W PyProof.Rows
theorem w6:∀(l:List Keyed) (n:Nat) (xs:Array Keyed) (sa:Nat),sa+n+l.length<=xs.size->∀k:Nat,
  ((l.zipIdx n).foldl (fun a (q:Keyed×Nat)=>a.setIfInBounds (sa+q.2) q.1) xs)[k]? = if sa+n<=k/\k < sa+n+l.length then l[k - (sa+n)]? else xs[k]?
 | [],n,xs,sa,_,k=>by rw [if_neg (by simp)];rfl
 | z::l,n,xs,sa,h,k=>by
  rw [List.length_cons] at h
  show (List.foldl _ (xs.setIfInBounds (sa+n) z) (l.zipIdx (n+1)))[k]? = _
  rw [w6 l (n+1) _ sa (by rw [Array.size_setIfInBounds];lia) k,List.length_cons]
  by_cases h1:sa+(n+1)<=k/\k < sa+(n+1)+l.length
  ·rw [if_pos h1,if_pos (by lia),show k - (sa+n)=(k - (sa+(n+1)))+1 by lia,List.getElem?_cons_succ]
  ·rw [if_neg h1]
   by_cases h2:k=sa+n
   ·subst h2
    rw [if_pos (by lia),Nat.sub_self,List.getElem?_cons_zero,Array.getElem?_setIfInBounds_self_of_lt (by lia)]
   ·rw [if_neg (by lia),Array.getElem?_setIfInBounds_ne (by lia)]
theorem Jf (R:Array Keyed) (xs:Array Keyed) (sa:Nat):(R.toList.zipIdx.foldl (fun a (x:Keyed×Nat)=>match x with | (p,j)=>a.setIfInBounds (sa+j) p) xs)=(R.toList.zipIdx.foldl (fun a (q:Keyed×Nat)=>a.setIfInBounds (sa+q.2) q.1) xs):=rfl
section
variable {r:Keyed->Int} {xs ys:Array Keyed}
theorem Sg.congr {lo hi:Nat} (h:Sg r xs lo hi) (e:∀k,lo<=k->k < hi->ys[k]? = xs[k]?):Sg r ys lo hi:=fun i j h1 h2 h3=>by
 rw [Rk.congr (e i h1 (by lia)),Rk.congr (e j (by lia) h3)];exact h i j h1 h2 h3
theorem zJ {lo hi:Nat} (h:Sg r xs lo hi) (hh:hi<=xs.size):gF r (xs.extract lo hi).toList:=by
 refine List.pairwise_iff_getElem.mpr fun i j Mu Mr Mt=>?_
 have s1:(xs.extract lo hi).toList.length=hi - lo:=by rw [Array.length_toList,Array.size_extract];lia
 rw [s1] at Mu Mr
 have:=h (lo+i) (lo+j) (by lia) (by lia) (by lia)
 rw [Rk.eq (by lia),Rk.eq (by lia)] at this
 simpa using this
theorem LR {L:List Keyed} (h:gF r L) {u:Nat} (e:∀k,k < L.length->ys[u+k]? = L[k]?):Sg r ys u (u+L.length):=fun i j h1 h2 h3=>by
 have ei:=e (i - u) (by lia)
 have ej:=e (j - u) (by lia)
 rw [show u+(i - u)=i by lia] at ei
 rw [show u+(j - u)=j by lia] at ej
 have Mu:i - u < L.length:=by lia
 have Mr:j - u < L.length:=by lia
 unfold Rk
 rw [ei,ej,List.getElem?_eq_getElem Mu,List.getElem?_eq_getElem Mr]
 rcases Nat.lt_or_eq_of_le h2 with z | z
 ·exact (List.pairwise_iff_getElem.mp h) (i - u) (j - u) Mu Mr (by lia)
 ·subst z;exact Int.le_refl _
def cI (r:Keyed->Int) (xs:Array Keyed):Nat->List (Nat×Nat×Nat)->Nat->Prop
 | lo,[],hi=>lo=hi
 | lo,p::ps,hi=>p.1=lo/\1<=p.2.1/\Sg r xs lo (lo+p.2.1)/\cI r xs (lo+p.2.1) ps hi
theorem cI.le:∀{lo:Nat} {ps:List (Nat×Nat×Nat)} {hi:Nat},cI r xs lo ps hi->lo+ps.length<=hi
 | lo,[],hi,h=>by have:lo=hi:=h;simp;lia
 | lo,p::ps,hi,⟨h1,h2,_,h4⟩=>by have:=h4.le;rw [List.length_cons];lia
theorem cI.congr:∀{lo:Nat} {ps:List (Nat×Nat×Nat)} {hi:Nat},cI r xs lo ps hi->(∀k,lo<=k->k < hi->ys[k]? = xs[k]?)->cI r ys lo ps hi
 | lo,[],hi,h,_=>h
 | lo,p::ps,hi,⟨h1,h2,h3,h4⟩,e=>⟨h1,h2,h3.congr fun k a b=>e k a (by have:=h4.le;lia),h4.congr fun k a b=>e k (by lia) b⟩
theorem cI.app:∀{lo:Nat} {ps qs:List (Nat×Nat×Nat)} {hi:Nat},cI r xs lo (ps++qs) hi↔∃m,cI r xs lo ps m/\cI r xs m qs hi
 | lo,[],qs,hi=>⟨fun h=>⟨lo,rfl,h⟩,fun ⟨m,h1,h2⟩=>by have:lo=m:=h1;subst this;exact h2⟩
 | lo,p::ps,qs,hi=>⟨fun ⟨h1,h2,h3,h4⟩=>by
   obtain ⟨m,a,b⟩:=cI.app.mp h4
   exact ⟨m,⟨h1,h2,h3,a⟩,b⟩,fun ⟨m,⟨h1,h2,h3,a⟩,b⟩=>⟨h1,h2,h3,cI.app.mpr ⟨m,a,b⟩⟩⟩
end
theorem G6 {xs ys M:List Keyed} {u v:Nat} (huv:u<=v) (hM:M.Perm ((xs.drop u).take (v - u))) (e:ys=xs.take u++M++xs.drop v):ys.Perm xs:=by
 have e2:xs=xs.take u++(xs.drop u).take (v - u)++xs.drop v:=by
  have h1:=(List.take_append_drop u xs).symm
  have h2:=(List.take_append_drop (v - u) (xs.drop u)).symm
  rw [List.drop_drop,show u+(v - u)=v by lia] at h2
  rw [List.append_assoc,<-h2];exact h1
 rw [e]
 conv=>rhs;rw [e2]
 exact List.Perm.append_right _ (List.Perm.append_left _ hM)
section
variable {prog:Program} {w:World} {A:Around} {E:Value->Shared->Prop} {s:Shared} {κ:SortKind} {r:Keyed->Int} {a₀:Array Keyed}
theorem Du {α:Type} (pre post:List α) (x y z:α):((pre++x::y::post).set pre.length z).eraseIdx (pre.length+1)=pre++z::post:=by
 rw [List.set_append_right _ _ (Nat.le_refl _),Nat.sub_self,List.set_cons_zero,List.eraseIdx_append_of_length_le (by lia)]
 simp
theorem FW (C:Ee prog w A s κ r a₀) {st:SortSt} {pre post:List (Nat×Nat×Nat)} {p q:Nat×Nat×Nat} {hi:Nat} {Q:Bool->SortSt->Prop} (B:SB a₀ κ st) (hp:(pendingOf st).toList=pre++p::q::post) (sg:cI r (arrOf st) 0 (pre++p::q::post) hi) (hh:hi<=a₀.size)
  (h:∀bf,SB a₀ κ bf->(pendingOf bf).toList=pre++(p.1,p.2.1+q.2.1,p.2.2)::post->cI r (arrOf bf) 0 (pre++(p.1,p.2.1+q.2.1,p.2.2)::post) hi->(∀k,hi<=k->(arrOf bf)[k]? = (arrOf st)[k]?)->Q true bf):wpS (model prog w) A E s (mergeAt' pre.length) Q st:=by
 refine hide fun gG hG=>?_
 obtain ⟨sa,na,pw⟩:=p
 obtain ⟨sb,nb,YZ⟩:=q
 obtain ⟨m,sg1,e1,g1,g2,e2,g3,g4,YD⟩:=cI.app.mp sg
 refine hG ?_
 dsimp only at e1 g1 g2 e2 g3 g4 YD h
 subst e1 e2
 have hm:=YD.le
 have hsz:=B.size
 have hU:∀z∈arrOf st,z∈a₀:=fun z hz=>B.mem hz
 have YF:∀ys:Array Keyed,(∀k,k < sa->ys[k]? = (arrOf st)[k]?)->(∀k,sa+na+nb<=k->ys[k]? = (arrOf st)[k]?)->Sg r ys sa (sa+na+nb)->cI r ys 0 (pre++(sa,na+nb,pw)::post) hi:=fun ys k1 k2 k3=>
  cI.app.mpr ⟨sa,sg1.congr fun k _ b=>k1 k b,rfl,by show 1<=na+nb;lia,by rw [<-Nat.add_assoc];exact k3,by
   show cI r ys (sa+(na+nb)) post hi
   rw [<-Nat.add_assoc];exact YD.congr fun k a _=>k2 k a⟩
 have x1:(pendingOf st)[pre.length]? = some (sa,na,pw):=by rw [<-Array.getElem?_toList,hp];simp
 have x2:(pendingOf st)[pre.length+1]? = some (sa+na,nb,YZ):=by rw [<-Array.getElem?_toList,hp,List.getElem?_append_right (by lia)];simp
 rw [QR]
 refine wpS_bind (wpS_get ?_)
 rw [x1,x2]
 dsimp only
 have pe:(((pendingOf st).setIfInBounds pre.length (sa,na+nb,pw)).eraseIdxIfInBounds (pre.length+1)).toList=pre++(sa,na+nb,pw)::post:=by
  have hl:pre.length+1 < (pendingOf st).size:=by rw [<-Array.length_toList,hp];simp
  rw [Array.eraseIdxIfInBounds,dif_pos (by rw [Array.size_setIfInBounds];exact hl),Array.toList_eraseIdx,Array.toList_setIfInBounds,hp]
  exact Du pre post _ _ _
 have XZ:∀{Q':PUnit->SortSt->Prop} {v st0:SortSt},Q' ⟨⟩ v->wpS (model prog w) A E s (set v:StateT SortSt Sem PUnit) Q' st0:=fun {Q' v st0} hq=>by
  unfold wpS;rw [StateT.run_set];exact wpAny_pure ⟨rfl,hq⟩
 refine wpS_bind (XZ ?_)
 have B1:SB a₀ κ (setPending st (((pendingOf st).setIfInBounds pre.length (sa,na+nb,pw)).eraseIdxIfInBounds (pre.length+1))):=⟨B.perm,B.kind,B.ok⟩
 have q1:(pendingOf (setPending st (((pendingOf st).setIfInBounds pre.length (sa,na+nb,pw)).eraseIdxIfInBounds (pre.length+1)))).toList=pre++(sa,na+nb,pw)::post:=pe
 have q2:arrOf (setPending st (((pendingOf st).setIfInBounds pre.length (sa,na+nb,pw)).eraseIdxIfInBounds (pre.length+1)))=arrOf st:=rfl
 generalize setPending st (((pendingOf st).setIfInBounds pre.length (sa,na+nb,pw)).eraseIdxIfInBounds (pre.length+1))=S1 at B1 q1 q2 ⊢
 have Ye:∀i j (h1:i<=j) (h2:sa+j < (arrOf st).size),j < na->r ((arrOf st)[sa+i]'(by lia))<=r (arrOf st)[sa+j]:=fun i j h1 h2 h3=>by
  have:=g2 (sa+i) (sa+j) (by lia) (by lia) (by lia)
  rwa [Rk.eq (by lia),Rk.eq h2] at this
 have Yd:∀i j (h1:i<=j) (h2:sa+na+j < (arrOf st).size),j < nb->r ((arrOf st)[sa+na+i]'(by lia))<=r (arrOf st)[sa+na+j]:=fun i j h1 h2 h3=>by
  have:=g4 (sa+na+i) (sa+na+j) (by lia) (by lia) (by lia)
  rwa [Rk.eq (by lia),Rk.eq h2] at this
 have Oz:sa+na < (arrOf st).size:=by lia
 refine wpS_bind (cz Oz ?_)
 refine wpS_bind (sj C (by lia) (by lia) hU (hU _ (Array.getElem_mem _)) B1.kind Ye fun k k1 k2 k3=>?_)
 dsimp only
 have k2':∀i,sa<=i->i < sa+k->Rk r (arrOf st) i<=Rk r (arrOf st) (sa+na):=fun i h1 h2=>by
  have:=k2 (i - sa) (by lia) (by lia)
  rw [Rk.eq (by lia),Rk.eq Oz]
  have e:sa+(i - sa)=i:=by lia
  simpa [isA,e] using this
 have k3':∀i,sa+k<=i->i < sa+na->Rk r (arrOf st) (sa+na) < Rk r (arrOf st) i:=fun i h1 h2=>by
  have:=k3 (i - sa) (by lia) (by lia) (by lia)
  rw [Rk.eq Oz,Rk.eq (by lia)]
  have e:sa+(i - sa)=i:=by lia
  simpa [isA,e] using this
 refine aC (fun hz=>?_) (fun hz=>?_)
 ·have yK:na - k=0:=by simpa using hz
  refine wpS_pure (h S1 B1 q1 (YF _ (fun k _=>by rw [q2]) (fun k _=>by rw [q2]) ?_) (fun k _=>by rw [q2]))
  rw [q2]
  intro i j h1 h2 h3
  by_cases ci:i < sa+na
  ·by_cases cj:j < sa+na
   ·exact g2 i j h1 h2 cj
   ·have a1:=k2' i h1 (by lia)
    have a2:=g4 (sa+na) j (by lia) (by lia) h3
    lia
  ·exact g4 i j (by lia) h2 h3
 have yK:na - k≠0:=by simpa using hz
 have hla:sa+k+(na - k) - 1=sa+na - 1:=by lia
 refine wpS_bind (cz (by lia) ?_)
 refine wpS_bind (sj C (by lia) (by lia) hU (hU _ (Array.getElem_mem _)) B1.kind Yd fun f f1 f2 f3=>?_)
 dsimp only
 have Vh:sa+na - 1 < (arrOf st).size:=by lia
 have XH:∀i,sa+na<=i->i < sa+na+f->Rk r (arrOf st) i < Rk r (arrOf st) (sa+na - 1):=fun i h1 h2=>by
  have:=f2 (i - (sa+na)) (by lia) (by lia)
  rw [Rk.eq (by lia),Rk.eq Vh]
  have e:sa+na+(i - (sa+na))=i:=by lia
  simpa [isA,e,hla] using this
 have f3':∀i,sa+na+f<=i->i < sa+na+nb->Rk r (arrOf st) (sa+na - 1)<=Rk r (arrOf st) i:=fun i h1 h2=>by
  have:=f3 (i - (sa+na)) (by lia) (by lia) (by lia)
  rw [Rk.eq Vh,Rk.eq (by lia)]
  have e:sa+na+(i - (sa+na))=i:=by lia
  simpa [isA,e,hla] using this
 refine aC (fun rk=>?_) (fun rk=>?_)
 ·have Ic:f=0:=by simpa using rk
  refine wpS_pure (h S1 B1 q1 (YF _ (fun k _=>by rw [q2]) (fun k _=>by rw [q2]) ?_) (fun k _=>by rw [q2]))
  rw [q2]
  intro i j h1 h2 h3
  by_cases ci:i < sa+na
  ·by_cases cj:j < sa+na
   ·exact g2 i j h1 h2 cj
   ·have a1:=g2 i (sa+na - 1) h1 (by lia) (by lia)
    have a2:=f3' j (by lia) h3
    lia
  ·exact g4 i j (by lia) h2 h3
 have Ic:f≠0:=by simpa using rk
 have zx:((arrOf st).extract (sa+k) (sa+na)).size=na - k:=by rw [Array.size_extract];lia
 have zy:((arrOf st).extract (sa+na) (sa+na+f)).size=f:=by rw [Array.size_extract];lia
 have ux:∀z∈(arrOf st).extract (sa+k) (sa+na),z∈a₀:=fun z hz=>hU z (Array.mem_extract_iff_getElem.mp hz |> fun ⟨i,hi,e⟩=>by rw [<-e];exact Array.getElem_mem _)
 have uy:∀z∈(arrOf st).extract (sa+na) (sa+na+f),z∈a₀:=fun z hz=>hU z (Array.mem_extract_iff_getElem.mp hz |> fun ⟨i,hi,e⟩=>by rw [<-e];exact Array.getElem_mem _)
 have sx:gF r ((arrOf st).extract (sa+k) (sa+na)).toList:=zJ (fun i j h1 h2 h3=>g2 i j (by lia) h2 h3) (by lia)
 have sy:gF r ((arrOf st).extract (sa+na) (sa+na+f)).toList:=zJ (fun i j h1 h2 h3=>g4 i j (by lia) h2 (by lia)) (by lia)
 have XQ:∀i (hi:i < ((arrOf st).extract (sa+k) (sa+na)).size),r ((arrOf st).extract (sa+k) (sa+na))[i]=Rk r (arrOf st) (sa+k+i):=fun i hi=>by
  rw [Rk.eq (by lia),Array.getElem_extract]
 have XM:∀i (hi:i < ((arrOf st).extract (sa+na) (sa+na+f)).size),r ((arrOf st).extract (sa+na) (sa+na+f))[i]=Rk r (arrOf st) (sa+na+i):=fun i hi=>by
  rw [Rk.eq (by lia),Array.getElem_extract]
 have key:∀(R:Array Keyed) (g:Nat),Good r ((arrOf st).extract (sa+k) (sa+na)) ((arrOf st).extract (sa+na) (sa+na+f)) R->
   wpS (model prog w) A E s (do
    modify fun st=>setArr st (R.toList.zipIdx.foldl (fun a (x:Keyed×Nat)=>match x with | (p,j)=>a.setIfInBounds (sa+k+j) p) (arrOf st))
    let z <-get
    pure (failedOf z).isNone) Q (cF S1 g):=fun R g ⟨hpR,hsR⟩=>by
  have lR:R.toList.length=na - k+f:=by
   have:=hpR.length_eq
   rw [List.length_append,Array.length_toList,Array.length_toList,Array.length_toList,zx,zy] at this
   rw [Array.length_toList];exact this
  have fs:∀i:Nat,(R.toList.zipIdx.foldl (fun a (x:Keyed×Nat)=>match x with | (p,j)=>a.setIfInBounds (sa+k+j) p) (arrOf st))[i]? = if sa+k<=i/\i < sa+na+f then R.toList[i - (sa+k)]? else (arrOf st)[i]?:=fun i=>by
   rw [Jf,w6 R.toList 0 (arrOf st) (sa+k) (by rw [lR];lia) i,lR]
   by_cases c:sa+k<=i/\i < sa+na+f
   ·rw [if_pos c,if_pos (by lia)];simp
   ·rw [if_neg c,if_neg (by lia)]
  refine wpS_bind (wpS_modify (wpS_bind (wpS_get (wpS_pure ?_))))
  have eA:arrOf (cF S1 g)=arrOf st:=q2
  rw [eA]
  have B2:SB a₀ κ (setArr (cF S1 g) (R.toList.zipIdx.foldl (fun a (x:Keyed×Nat)=>match x with | (p,j)=>a.setIfInBounds (sa+k+j) p) (arrOf st))):=by
   refine ⟨?_,B1.kind,B1.ok⟩
   refine Array.Perm.trans ?_ B.perm
   show (R.toList.zipIdx.foldl (fun a (x:Keyed×Nat)=>match x with | (p,j)=>a.setIfInBounds (sa+k+j) p) (arrOf st)).Perm (arrOf st)
   refine Array.perm_iff_toList_perm.mpr (G6 (u:=sa+k) (v:=sa+na+f) (by lia) (M:=R.toList) ?_ ?_)
   ·refine hpR.trans ?_
    show (((arrOf st).extract (sa+k) (sa+na)).toList++((arrOf st).extract (sa+na) (sa+na+f)).toList).Perm _
    rw [fH,fH,pN (x:=sa+na+f - (sa+k)) (e:=sa+na - (sa+k)) _ (by lia),List.drop_drop,show sa+k+(sa+na - (sa+k))=sa+na by lia,show sa+na+f - (sa+k) - (sa+na - (sa+k))=sa+na+f - (sa+na) by lia]
   ·refine List.ext_getElem? fun i=>?_
    rw [Array.getElem?_toList,fs i]
    have lt1:((arrOf st).toList.take (sa+k)).length=sa+k:=by rw [List.length_take,Array.length_toList];lia
    by_cases c1:i < sa+k
    ·rw [if_neg (by lia),List.append_assoc,List.getElem?_append_left (by lia),List.getElem?_take,if_pos c1,Array.getElem?_toList]
    ·by_cases c2:i < sa+na+f
     ·rw [if_pos (by lia),List.append_assoc,List.getElem?_append_right (by lia),lt1,List.getElem?_append_left (by lia)]
     ·rw [if_neg (by lia),List.getElem?_append_right (by rw [List.length_append,lt1,lR];lia),List.length_append,lt1,lR,List.getElem?_drop,Array.getElem?_toList]
      congr 1
      lia
  have eok:(failedOf (setArr (cF S1 g) (R.toList.zipIdx.foldl (fun a (x:Keyed×Nat)=>match x with | (p,j)=>a.setIfInBounds (sa+k+j) p) (arrOf st)))).isNone=true:=by
   have:failedOf S1=none:=B1.ok
   show (failedOf S1).isNone=true
   rw [this];rfl
  rw [eok]
  refine h _ B2 q1 (YF _ (fun i hi=>by show (R.toList.zipIdx.foldl _ (arrOf st))[i]? = _;rw [fs,if_neg (by lia)]) (fun i hi=>by show (R.toList.zipIdx.foldl _ (arrOf st))[i]? = _;rw [fs,if_neg (by lia)]) ?_) (fun i hi=>by show (R.toList.zipIdx.foldl _ (arrOf st))[i]? = _;rw [fs,if_neg (by lia)])
  show Sg r (R.toList.zipIdx.foldl (fun a (x:Keyed×Nat)=>match x with | (p,j)=>a.setIfInBounds (sa+k+j) p) (arrOf st)) sa (sa+na+nb)
  generalize R.toList.zipIdx.foldl (fun a (x:Keyed×Nat)=>match x with | (p,j)=>a.setIfInBounds (sa+k+j) p) (arrOf st)=ys at fs
  have out:∀i,¬(sa+k<=i/\i < sa+na+f)->Rk r ys i=Rk r (arrOf st) i:=fun i hi=>Rk.congr (by rw [fs,if_neg hi])
  have mid:Sg r ys (sa+k) (sa+k+R.toList.length):=LR hsR fun i hi=>by rw [fs,if_pos (by lia)];congr 1;lia
  rw [lR] at mid
  have src:∀i,sa+k<=i->i < sa+na+f->∃t,sa+k<=t/\t < sa+na+f/\Rk r ys i=Rk r (arrOf st) t:=fun i h1 h2=>by
   have hi:i - (sa+k) < R.toList.length:=by lia
   have e:=fs i
   rw [if_pos ⟨h1,h2⟩,List.getElem?_eq_getElem hi] at e
   have hm:=hpR.mem_iff.mp (List.getElem_mem hi)
   have e3:Rk r ys i=r R.toList[i - (sa+k)]:=by unfold Rk;rw [e]
   rcases List.mem_append.mp hm with hm | hm
   ·obtain ⟨t,ht,et⟩:=List.mem_iff_getElem.mp hm
    rw [Array.length_toList] at ht
    have et':((arrOf st).extract (sa+k) (sa+na))[t]=R.toList[i - (sa+k)]:=by simpa using et
    exact ⟨sa+k+t,by lia,by lia,by rw [e3,<-et',XQ t ht]⟩
   ·obtain ⟨t,ht,et⟩:=List.mem_iff_getElem.mp hm
    rw [Array.length_toList] at ht
    have et':((arrOf st).extract (sa+na) (sa+na+f))[t]=R.toList[i - (sa+k)]:=by simpa using et
    exact ⟨sa+na+t,by lia,by lia,by rw [e3,<-et',XM t ht]⟩
  have low:∀i t,sa<=i->i < sa+k->sa+k<=t->t < sa+na+nb->Rk r (arrOf st) i<=Rk r (arrOf st) t:=fun i t h1 h2 h3 h4=>by
   by_cases c:t < sa+na
   ·exact g2 i t h1 (by lia) c
   ·have a1:=k2' i h1 h2
    have a2:=g4 (sa+na) t (by lia) (by lia) h4
    lia
  have high:∀t j,sa<=t->t < sa+na+f->sa+na+f<=j->j < sa+na+nb->Rk r (arrOf st) t<=Rk r (arrOf st) j:=fun t j h1 h2 h3 h4=>by
   by_cases c:t < sa+na
   ·have a1:=g2 t (sa+na - 1) h1 (by lia) (by lia)
    have a2:=f3' j h3 h4
    lia
   ·exact g4 t j (by lia) (by lia) h4
  intro i j h1 h2 h3
  by_cases ci:i < sa+k
  ·rw [out i (by lia)]
   by_cases cj:j < sa+k
   ·rw [out j (by lia)];exact g2 i j h1 h2 (by lia)
   ·by_cases cj2:j < sa+na+f
    ·refine hide fun gG hG=>?_
     obtain ⟨t,t1,t2,t3⟩:=src j (by lia) cj2
     refine hG ?_
     rw [t3];exact low i t h1 ci t1 (by lia)
    ·rw [out j (by lia)];exact low i j h1 ci (by lia) h3
  ·by_cases ci2:i < sa+na+f
   ·by_cases cj2:j < sa+na+f
    ·exact mid i j (by lia) h2 (by lia)
    ·refine hide fun gG hG=>?_
     obtain ⟨t,t1,t2,t3⟩:=src i (by lia) ci2
     refine hG ?_
     rw [t3,out j (by lia)];exact high t j (by lia) t2 (by lia) h3
   ·rw [out i (by lia),out j (by lia)];exact g4 i j (by lia) h2 h3
 have h0x:0 < ((arrOf st).extract (sa+k) (sa+na)).size:=by lia
 have XB:0 < ((arrOf st).extract (sa+na) (sa+na+f)).size:=by lia
 have c0:r ((arrOf st).extract (sa+na) (sa+na+f))[0] < r ((arrOf st).extract (sa+k) (sa+na))[0]:=by
  rw [XM 0 XB,XQ 0 h0x];exact k3' _ (by lia) (by lia)
 have cl:∀v∈(arrOf st).extract (sa+na) (sa+na+f),r v<=r (((arrOf st).extract (sa+k) (sa+na))[((arrOf st).extract (sa+k) (sa+na)).size - 1]'(by lia)):=fun v hv=>by
  obtain ⟨i,hi,rfl⟩:=Array.mem_iff_getElem.mp hv
  rw [XM i hi,XQ _ (by lia)]
  have:=XH (sa+na+i) (by lia) (by lia)
  rw [zx,show sa+k+(na - k - 1)=sa+na - 1 by lia]
  lia
 have cf:∀v∈(arrOf st).extract (sa+k) (sa+na),r ((arrOf st).extract (sa+na) (sa+na+f))[0]<=r v:=fun v hv=>by
  obtain ⟨i,hi,rfl⟩:=Array.mem_iff_getElem.mp hv
  rw [XM 0 XB,XQ i hi]
  have:=k3' (sa+k+i) (by lia) (by lia)
  simp only [Nat.add_zero]
  lia
 refine aC (fun _=>?_) (fun _=>?_)
 ·refine wpS_bind (T2 C B1.kind ux uy sx sy h0x XB (by lia) cl fun R g hR=>?_)
  exact key R g hR
 ·refine wpS_bind (T3 C B1.kind ux uy sx sy h0x XB cf cl fun R g hR=>?_)
  exact key R g hR
end
end L2
end
section
namespace L2
open PySem PySem.W PyProof.Rows
theorem vf {α:Type} {l:List α} {i:Nat} (h:i+1 < l.length):l=l.take i++l[i]::l[i+1]::l.drop (i+2):=by
 rw [<-List.drop_eq_getElem_cons h,<-List.drop_eq_getElem_cons (by omega)]
 exact (List.take_append_drop i l).symm
theorem vg {α:Type} {l:List α} {i:Nat} (h:i+1 < l.length):(l.take i).length=i:=by rw [List.length_take];omega
theorem lO {α β:Type} (f:α->β) (g:α->α) (hg:∀x,f (g x)=f x):∀{l:List α} (i:Nat),(l.modify i g).map f=l.map f
 | [],i=>by cases i <;> rfl
 | x::l,0=>by simp [hg]
 | x::l,i+1=>by simp [lO f g hg (l:=l) i]
theorem cI.pow {r:Keyed->Int} {xs:Array Keyed}:∀{lo:Nat} {ps qs:List (Nat×Nat×Nat)} {hi:Nat},cI r xs lo ps hi->qs.map (fun p=>(p.1,p.2.1))=ps.map (fun p=>(p.1,p.2.1))->cI r xs lo qs hi
 | lo,[],qs,hi,h,e=>by
  have:qs=[]:=by simpa using e
  rw [this];exact h
 | lo,p::ps,[],hi,h,e=>by simp at e
 | lo,p::ps,q::qs,hi,⟨h1,h2,h3,h4⟩,e=>by
  rw [List.map_cons,List.map_cons] at e
  injection e with e1 e2
  injection e1 with e3 e4
  exact ⟨e3.trans h1,by rw [e4];exact h2,by rw [e4];exact h3,by rw [e4];exact h4.pow e2⟩
section
variable {prog:Program} {w:World} {A:Around} {E:Value->Shared->Prop} {s:Shared} {κ:SortKind} {r:Keyed->Int} {a₀:Array Keyed}
theorem P4 (C:Ee prog w A s κ r a₀) {st:SortSt} {Q:Unit->SortSt->Prop} (B:SB a₀ κ st) (Mj:pendingOf st = #[]) (h2:2<=a₀.size)
  (h:∀bf,SB a₀ κ bf->Sg r (arrOf bf) 0 a₀.size->Q () bf):wpS (model prog w) A E s sortRuns' Q st:=by
 rw [sortRuns'_eq]
 refine wpS_bind (wpS_get ?_)
 try dsimp only
 rw [B.size]
 generalize minRun' a₀.size a₀.size 0=mr
 refine wpS_bind (wpS_mono (wpS_forRange (a:=0) (I:=fun x c bf=>∃lo,c=(none,lo)/\SB a₀ κ bf/\lo<=a₀.size/\min x a₀.size<=lo/\cI r (arrOf bf) 0 (pendingOf bf).toList lo)
  (Q:=fun c bf=>c=(none,a₀.size)/\SB a₀ κ bf/\cI r (arrOf bf) 0 (pendingOf bf).toList a₀.size) ?step ?fin ⟨0,rfl,B,by omega,by omega,by rw [Mj];rfl⟩) ?post)
 case fin=>
  rintro c bf ⟨lo,rfl,b1,b2,b3,b4⟩
  have e:lo=a₀.size:=by omega
  subst e
  exact ⟨rfl,b1,b4⟩
 case post=>
  rintro c bf ⟨rfl,b1,b2⟩
  try dsimp only
  refine wpS_bind (wpS_mono (wpS_forRange (a:=0) (I:=fun x c aB=>c=(none,())/\SB a₀ κ aB/\cI r (arrOf aB) 0 (pendingOf aB).toList a₀.size/\(pendingOf aB).size+x<=a₀.size+1)
   (Q:=fun c aB=>c=(none,())/\SB a₀ κ aB/\cI r (arrOf aB) 0 (pendingOf aB).toList a₀.size/\(pendingOf aB).size<=1) ?fstep ?ffin ⟨rfl,b1,b2,by have:=b2.le;rw [Array.length_toList] at this;omega⟩) ?fpost)
  case ffin=>
   rintro c aB ⟨hc,d1,d2,d3⟩
   exact ⟨hc,d1,d2,by omega⟩
  case fpost=>
   rintro c aB ⟨rfl,d1,d2,d3⟩
   refine wpS_pure (h aB d1 ?_)
   rw [<-Array.length_toList] at d3
   revert d2 d3
   generalize (pendingOf aB).toList=ps
   intro d2 d3
   match ps,d2,d3 with
   | [],d2,_=>
    have:0=a₀.size:=d2
    omega
   | [p],⟨e1,e2,e3,e4⟩,_=>
    have e5:0+p.2.1=a₀.size:=e4
    rw [<-e5]
    exact e3
   | _::_::_,_,d3=>simp at d3
  case fstep=>
   rintro x c S4 _ hx ⟨rfl,d1,d2,d3⟩
   refine wpS_bind (wpS_get ?_)
   refine aC (fun hz=>?_) (fun hz=>?_)
   ·exact wpS_pure ⟨rfl,d1,d2,hz⟩
   ·generalize hi0:(if (Option.any (fun x=>decide (x < ((pendingOf S4)[(pendingOf S4).size - 2+1]?.elim 0 fun x=>x.2.1))) (if (pendingOf S4).size - 2 > 0 then Option.map (fun x=>x.2.1) (pendingOf S4)[(pendingOf S4).size - 2 - 1]? else none))=true then (pendingOf S4).size - 2 - 1 else (pendingOf S4).size - 2)=i0
    have Mu:i0+1 < (pendingOf S4).toList.length:=by
     have le:∀(c:Bool) (m:Nat),(if c=true then m - 1 else m)<=m:=fun c m=>by cases c <;> simp
     have:=le (Option.any (fun x=>decide (x < ((pendingOf S4)[(pendingOf S4).size - 2+1]?.elim 0 fun x=>x.2.1))) (if (pendingOf S4).size - 2 > 0 then Option.map (fun x=>x.2.1) (pendingOf S4)[(pendingOf S4).size - 2 - 1]? else none)) ((pendingOf S4).size - 2)
     rw [Array.length_toList]
     rw [hi0] at this
     omega
    have cut:=vf Mu
    have lt:=vg Mu
    have O8:=d2
    rw [cut] at O8
    have run:=FW (E:=E) C d1 cut O8 (Nat.le_refl _) (Q:=fun bb aB=>bb=true/\SB a₀ κ aB/\cI r (arrOf aB) 0 (pendingOf aB).toList a₀.size/\(pendingOf aB).size+(x+1)<=a₀.size+1) fun aB b1 b2 b3 b4=>⟨rfl,b1,by rw [b2];exact b3,by
     rw [<-Array.length_toList,b2,List.length_append,List.length_cons,List.length_take,List.length_drop]
     rw [<-Array.length_toList] at d3
     omega⟩
    rw [lt] at run
    refine wpS_bind (wpS_mono run fun bb aB ⟨e,c1,c2,c3⟩=>?_)
    subst e
    exact wpS_pure ⟨rfl,c1,c2,c3⟩
 case step=>
  rintro x c bf _ hx ⟨lo,rfl,b1,b2,b3,b4⟩
  try dsimp only
  refine aC (fun hz=>?_) (fun hz=>?_)
  ·have e:lo=a₀.size:=by omega
   subst e
   exact wpS_pure ⟨rfl,b1,b4⟩
  refine wpS_bind (Kt C (by omega) (by omega) b1 fun n0 S1 B1 p1 e1 Xh Vf s1=>?_)
  try dsimp only
  have g1:cI r (arrOf S1) 0 (pendingOf S1).toList lo:=by rw [p1];exact b4.congr fun k _ hk=>e1 k hk
  refine aC (fun rk=>?_) (fun rk=>?_)
  ·refine wpS_bind (wpS_lift (wpAny_rule ⟨rfl,?_⟩))
   refine wpS_bind (T4 C (by omega) (by omega) B1 s1 fun S2 B2 p2 e2 s2=>?_)
   simp only [Bool.not_true,Bool.false_eq_true,if_false]
   have g2:cI r (arrOf S2) 0 (pendingOf S2).toList lo:=by rw [p2];exact g1.congr fun k _ hk=>e2 k hk
   have pF:1<=min (a₀.size - lo) mr:=by omega
   have El:lo+min (a₀.size - lo) mr<=a₀.size:=by omega
   clear rk
   generalize min (a₀.size - lo) mr=n at s2 pF El ⊢
   refine wpS_bind (wpS_get ?_)
   have Ud:∀S5:SortSt,SB a₀ κ S5->cI r (arrOf S5) 0 (pendingOf S5).toList lo->Sg r (arrOf S5) lo (lo+n)->SB a₀ κ (setPending S5 ((pendingOf S5).push (lo,n,0)))/\cI r (arrOf S5) 0 ((pendingOf S5).push (lo,n,0)).toList (lo+n):=fun S5 b1 b2 b3=>⟨⟨b1.perm,b1.kind,b1.ok⟩,by
    rw [Array.toList_push]
    exact cI.app.mpr ⟨lo,b2,rfl,pF,b3,rfl⟩⟩
   cases eb:(pendingOf S2).back? with
   | none=>
    try dsimp only
    obtain ⟨c1,c2⟩:=Ud S2 B2 g2 s2
    exact wpS_bind (wpS_modify (wpS_pure ⟨lo+n,rfl,c1,by omega,by omega,c2⟩))
   | some t=>
    obtain ⟨s1,n1,Uc⟩:=t
    try dsimp only
    generalize power' a₀.size (2 * s1+n1) (2 * s1+n1+n1+n) a₀.size=pw
    refine wpS_bind (wpS_mono (wpS_forRange (I:=fun _ c aB=>c=(none,())/\SB a₀ κ aB/\cI r (arrOf aB) 0 (pendingOf aB).toList lo/\Sg r (arrOf aB) lo (lo+n))
     (Q:=fun c aB=>c=(none,())/\SB a₀ κ aB/\cI r (arrOf aB) 0 (pendingOf aB).toList lo/\Sg r (arrOf aB) lo (lo+n)) ?mstepa (fun _ _ z=>z) ⟨rfl,B2,g2,s2⟩) ?mposta)
    case mposta=>
     rintro c S4 ⟨rfl,B4,g4,s4⟩
     try dsimp only
     refine wpS_bind (wpS_modify ?_)
     have B5:SB a₀ κ (setPending S4 ((pendingOf S4).modify ((pendingOf S4).size - 1) fun (x:Nat×Nat×Nat)=>match x with | (st,len,_)=>(st,len,pw))):=⟨B4.perm,B4.kind,B4.ok⟩
     have g5:cI r (arrOf (setPending S4 ((pendingOf S4).modify ((pendingOf S4).size - 1) fun (x:Nat×Nat×Nat)=>match x with | (st,len,_)=>(st,len,pw)))) 0 (pendingOf (setPending S4 ((pendingOf S4).modify ((pendingOf S4).size - 1) fun (x:Nat×Nat×Nat)=>match x with | (st,len,_)=>(st,len,pw)))).toList lo:=by
      show cI r (arrOf S4) 0 ((pendingOf S4).modify ((pendingOf S4).size - 1) fun (x:Nat×Nat×Nat)=>match x with | (st,len,_)=>(st,len,pw)).toList lo
      rw [Array.toList_modify]
      refine g4.pow (lO _ _ ?_ _)
      intro x
      rfl
     have s5:Sg r (arrOf (setPending S4 ((pendingOf S4).modify ((pendingOf S4).size - 1) fun (x:Nat×Nat×Nat)=>match x with | (st,len,_)=>(st,len,pw)))) lo (lo+n):=s4
     generalize setPending S4 ((pendingOf S4).modify ((pendingOf S4).size - 1) fun (x:Nat×Nat×Nat)=>match x with | (st,len,_)=>(st,len,pw))=S5 at B5 g5 s5 ⊢
     obtain ⟨c1,c2⟩:=Ud S5 B5 g5 s5
     exact wpS_bind (wpS_modify (wpS_pure ⟨lo+n,rfl,c1,by omega,by omega,c2⟩))
    case mstepa=>
     rintro z c S4 _ _ ⟨rfl,B4,g4,s4⟩
     refine wpS_bind (wpS_get ?_)
     by_cases hp:(pendingOf S4).size > 1
     ·have Oq:(pendingOf S4).size - 2 < (pendingOf S4).size:=by omega
      rw [if_pos hp,Array.getElem?_eq_getElem Oq]
      try dsimp only
      refine aC (fun hq=>?_) (fun hq=>?_)
      ·exact wpS_pure ⟨rfl,B4,g4,s4⟩
      ·have hl:(pendingOf S4).size - 2+1 < (pendingOf S4).toList.length:=by rw [Array.length_toList];omega
       have cut:=vf hl
       have lt:=vg hl
       have O8:=g4
       rw [cut] at O8
       have run:=FW (E:=E) C B4 cut O8 (by omega) (Q:=fun bb aB=>bb=true/\SB a₀ κ aB/\cI r (arrOf aB) 0 (pendingOf aB).toList lo/\Sg r (arrOf aB) lo (lo+n)) fun aB b1 b2 b3 b4=>⟨rfl,b1,by rw [b2];exact b3,s4.congr fun k h1 _=>b4 k h1⟩
       rw [lt] at run
       refine wpS_bind (wpS_mono run fun bb aB ⟨e,b1,b2,b3⟩=>?_)
       subst e
       exact wpS_pure ⟨rfl,b1,b2,b3⟩
     ·rw [if_neg hp]
      exact wpS_pure ⟨rfl,B4,g4,s4⟩
  ·have B2:=B1
   have g2:=g1
   have s2:=s1
   have pF:=Xh
   have El:lo+n0<=a₀.size:=by omega
   clear rk Xh Vf s1 B1 g1 p1 e1
   revert S1
   intro S2 B2 g2 s2
   generalize n0=n at s2 pF El ⊢
   refine wpS_bind (wpS_get ?_)
   have Ud:∀S5:SortSt,SB a₀ κ S5->cI r (arrOf S5) 0 (pendingOf S5).toList lo->Sg r (arrOf S5) lo (lo+n)->SB a₀ κ (setPending S5 ((pendingOf S5).push (lo,n,0)))/\cI r (arrOf S5) 0 ((pendingOf S5).push (lo,n,0)).toList (lo+n):=fun S5 b1 b2 b3=>⟨⟨b1.perm,b1.kind,b1.ok⟩,by
    rw [Array.toList_push]
    exact cI.app.mpr ⟨lo,b2,rfl,pF,b3,rfl⟩⟩
   cases eb:(pendingOf S2).back? with
   | none=>
    try dsimp only
    obtain ⟨c1,c2⟩:=Ud S2 B2 g2 s2
    exact wpS_bind (wpS_modify (wpS_pure ⟨lo+n,rfl,c1,by omega,by omega,c2⟩))
   | some t=>
    obtain ⟨s1,n1,Uc⟩:=t
    try dsimp only
    generalize power' a₀.size (2 * s1+n1) (2 * s1+n1+n1+n) a₀.size=pw
    refine wpS_bind (wpS_mono (wpS_forRange (I:=fun _ c aB=>c=(none,())/\SB a₀ κ aB/\cI r (arrOf aB) 0 (pendingOf aB).toList lo/\Sg r (arrOf aB) lo (lo+n))
     (Q:=fun c aB=>c=(none,())/\SB a₀ κ aB/\cI r (arrOf aB) 0 (pendingOf aB).toList lo/\Sg r (arrOf aB) lo (lo+n)) ?mstepb (fun _ _ z=>z) ⟨rfl,B2,g2,s2⟩) ?mpostb)
    case mpostb=>
     rintro c S4 ⟨rfl,B4,g4,s4⟩
     try dsimp only
     refine wpS_bind (wpS_modify ?_)
     have B5:SB a₀ κ (setPending S4 ((pendingOf S4).modify ((pendingOf S4).size - 1) fun (x:Nat×Nat×Nat)=>match x with | (st,len,_)=>(st,len,pw))):=⟨B4.perm,B4.kind,B4.ok⟩
     have g5:cI r (arrOf (setPending S4 ((pendingOf S4).modify ((pendingOf S4).size - 1) fun (x:Nat×Nat×Nat)=>match x with | (st,len,_)=>(st,len,pw)))) 0 (pendingOf (setPending S4 ((pendingOf S4).modify ((pendingOf S4).size - 1) fun (x:Nat×Nat×Nat)=>match x with | (st,len,_)=>(st,len,pw)))).toList lo:=by
      show cI r (arrOf S4) 0 ((pendingOf S4).modify ((pendingOf S4).size - 1) fun (x:Nat×Nat×Nat)=>match x with | (st,len,_)=>(st,len,pw)).toList lo
      rw [Array.toList_modify]
      refine g4.pow (lO _ _ ?_ _)
      intro x
      rfl
     have s5:Sg r (arrOf (setPending S4 ((pendingOf S4).modify ((pendingOf S4).size - 1) fun (x:Nat×Nat×Nat)=>match x with | (st,len,_)=>(st,len,pw)))) lo (lo+n):=s4
     generalize setPending S4 ((pendingOf S4).modify ((pendingOf S4).size - 1) fun (x:Nat×Nat×Nat)=>match x with | (st,len,_)=>(st,len,pw))=S5 at B5 g5 s5 ⊢
     obtain ⟨c1,c2⟩:=Ud S5 B5 g5 s5
     exact wpS_bind (wpS_modify (wpS_pure ⟨lo+n,rfl,c1,by omega,by omega,c2⟩))
    case mstepb=>
     rintro z c S4 _ _ ⟨rfl,B4,g4,s4⟩
     refine wpS_bind (wpS_get ?_)
     by_cases hp:(pendingOf S4).size > 1
     ·have Oq:(pendingOf S4).size - 2 < (pendingOf S4).size:=by omega
      rw [if_pos hp,Array.getElem?_eq_getElem Oq]
      try dsimp only
      refine aC (fun hq=>?_) (fun hq=>?_)
      ·exact wpS_pure ⟨rfl,B4,g4,s4⟩
      ·have hl:(pendingOf S4).size - 2+1 < (pendingOf S4).toList.length:=by rw [Array.length_toList];omega
       have cut:=vf hl
       have lt:=vg hl
       have O8:=g4
       rw [cut] at O8
       have run:=FW (E:=E) C B4 cut O8 (by omega) (Q:=fun bb aB=>bb=true/\SB a₀ κ aB/\cI r (arrOf aB) 0 (pendingOf aB).toList lo/\Sg r (arrOf aB) lo (lo+n)) fun aB b1 b2 b3 b4=>⟨rfl,b1,by rw [b2];exact b3,s4.congr fun k h1 _=>b4 k h1⟩
       rw [lt] at run
       refine wpS_bind (wpS_mono run fun bb aB ⟨e,b1,b2,b3⟩=>?_)
       subst e
       exact wpS_pure ⟨rfl,b1,b2,b3⟩
     ·rw [if_neg hp]
      exact wpS_pure ⟨rfl,B4,g4,s4⟩
end
end L2
end
section
namespace L2
open PySem PySem.W PyProof.Rows
theorem g6 {n:Nat} (h:n<=1000000):n<=sizeLine:=Nat.le_of_lt (Nat.lt_of_le_of_lt h (by decide))
theorem uj {n:Nat} (h:n<=1000000):n < sizeLine:=Nat.lt_of_le_of_lt h (by decide)
theorem filter_lt {l:List Nat} {f g:Nat->Bool} (h:∀x∈l,f x=true->g x=true) {y:Nat} (hy:y∈l) (h1:f y=false) (h2:g y=true):(l.filter f).length < (l.filter g).length:=by
 induction l with
 | nil=>cases hy
 | cons x l ih=>
  have le:(l.filter f).length<=(l.filter g).length:=by
   clear ih hy
   induction l with
   | nil=>exact Nat.le_refl _
   | cons z l ih2=>
    have e1:=h z (by simp)
    have ih3:=ih2 fun u hu=>h u (by rcases List.mem_cons.mp hu with r | r <;> simp [r])
    rw [List.filter_cons,List.filter_cons]
    cases c1:f z <;> cases c2:g z <;> simp [c1,c2] at e1 ⊢ <;> lia
  rw [List.filter_cons,List.filter_cons]
  rcases List.mem_cons.mp hy with e | e
  ·subst e
   simp [h1,h2];lia
  ·have:=ih (fun u hu=>h u (List.mem_cons_of_mem _ hu)) e
   have e1:=h x List.mem_cons_self
   cases c1:f x <;> cases c2:g x <;> simp [c1,c2] at e1 ⊢ <;> lia
theorem Ord.rank {b:Nat->Nat->Bool} {n:Nat} (O:Ord b n):∃ρ:Nat->Int,∀i j,i < n->j < n->(b i j=true↔ρ i < ρ j):=by
 have UL:∀i,i < n->b i i=false:=fun i hi=>by
  cases e:b i i with
  | false=>rfl
  | true=>have:=O.asy i i hi hi e;rw [e] at this;cases this
 have up:∀i j,i < n->j < n->b i j=true->(((List.range n).filter (b · i)).length:Int) < ((List.range n).filter (b · j)).length:=fun i j hi hj e=>by
  have:=filter_lt (l:=List.range n) (f:=(b · i)) (g:=(b · j)) (fun k hk e'=>O.tr k i j (List.mem_range.mp hk) hi hj e' e) (List.mem_range.mpr hi) (UL i hi) e
  lia
 refine ⟨fun i=>((List.range n).filter (b · i)).length,fun i j hi hj=>⟨up i j hi hj,fun h=>?_⟩⟩
 by_cases d:i=j
 ·subst d;lia
 ·rcases O.tot i j hi hj d with e | e
  ·exact e
  ·have:=up j i hj hi e
   dsimp only at h
   lia
section
variable {prog:Program} {w:World} {A:Around} {E:Value->Shared->Prop} {s:Shared} {κ:SortKind}
theorem FV {item:Nat->Keyed} {n:Nat} {b:Nat->Nat->Bool} {it:Array Keyed} (inj:∀i j,i < n->j < n->item i=item j->i=j) (O:Ord b n) (hn:2<=n)
  (hc:∀i j (Q:Bool->Shared->Prop),i < n->j < n->Q (b i j) s->wpAny (model prog w) A (keyLt' κ (item i).1 (item j).1) Q (fun _ _=>False) s) (hit:it.toList=(List.range n).map item) :
  wpAny (model prog w) A (sortRuns'.run (SortSt.mk' κ it #[] 7 none)) (fun r s3=>s3=s/\∃p,vq p n/\Ef b p n/\arrOf r.2=p.map item/\failedOf r.2=none) E s:=by
 obtain ⟨ρ,hρ⟩:=O.rank
 obtain ⟨g,hg⟩:∃g:Keyed->Nat,∀i,i < n->g (item i)=i:=by
  classical
  refine ⟨fun z=>if h:∃i,i < n/\item i=z then h.choose else 0,fun i hi=>?_⟩
  have h:∃k,k < n/\item k=item i:=⟨i,hi,rfl⟩
  dsimp only
  rw [dif_pos h]
  exact inj _ _ h.choose_spec.1 hi h.choose_spec.2
 have mem:∀z∈it,∃i,i < n/\z=item i:=fun z hz=>by
  have yK:z∈it.toList:=by simpa using hz
  rw [hit] at yK
  obtain ⟨i,hi,e⟩:=List.mem_map.mp yK
  exact ⟨i,List.mem_range.mp hi,e.symm⟩
 have sz:it.size=n:=by rw [<-Array.length_toList,hit];simp
 have C:Ee prog w A s κ (fun z=>ρ (g z)) it:=fun x y Q hx hy hq=>by
  obtain ⟨i,hi,rfl⟩:=mem x hx
  obtain ⟨j,hj,rfl⟩:=mem y hy
  refine hc i j Q hi hj ?_
  have e:b i j=decide (ρ (g (item i)) < ρ (g (item j))):=by
   rw [Bool.eq_iff_iff,decide_eq_true_eq,hg i hi,hg j hj];exact hρ i j hi hj
  rw [e];exact hq
 have run:=P4 (E:=E) (st:=SortSt.mk' κ it #[] 7 none) (Q:=fun _ bf=>∃p,vq p n/\Ef b p n/\arrOf bf=p.map item/\failedOf bf=none) C ⟨Array.Perm.refl _,rfl,rfl⟩ rfl (by rw [sz];exact hn) fun bf B sg=>?_
 ·exact run
 have hl:(arrOf bf).toList.Perm ((List.range n).map item):=by rw [<-hit];exact Array.perm_iff_toList_perm.mp B.perm
 have hb:(arrOf bf).toList.map (fun z=>item (g z))=(arrOf bf).toList:=by
  have:∀z∈(arrOf bf).toList,item (g z)=z:=fun z hz=>by
   obtain ⟨i,hi,rfl⟩:=mem z (B.mem (by simpa using hz))
   rw [hg i hi]
  rw [List.map_congr_left this,List.map_id']
 have hp:((arrOf bf).toList.map g).Perm (List.range n):=by
  have:=hl.map g
  rw [List.map_map] at this
  have e:(List.range n).map (g ∘ item)=List.range n:=by
   have:=List.map_congr_left (l:=List.range n) (f:=g ∘ item) (g:=id) fun i hi=>hg i (List.mem_range.mp hi)
   rw [this,List.map_id]
  rwa [e] at this
 refine ⟨((arrOf bf).map g),⟨Array.perm_iff_toList_perm.mpr (by rw [Array.toList_map,List.toList_toArray];exact hp)⟩,fun i hi=>?_,?_,B.ok⟩
 ·have hs':(arrOf bf).size=n:=by rw [B.size,sz]
  have P:vq ((arrOf bf).map g) n:=⟨Array.perm_iff_toList_perm.mpr (by rw [Array.toList_map,List.toList_toArray];exact hp)⟩
  have a1:=P.lt (by lia) i
  have a2:=P.lt (by lia) (i+1)
  have at_:∀k,k < n->Rk (fun z=>ρ (g z)) (arrOf bf) k=ρ (tW ((arrOf bf).map g) k):=fun k hk=>by
   rw [Rk.eq (by lia)]
   unfold tW
   rw [Array.getD_eq_getD_getElem?,Array.getElem?_map,Array.getElem?_eq_getElem (by lia)]
   rfl
  have h1:=sg i (i+1) (by lia) (by lia) (by lia)
  rw [at_ i (by lia),at_ (i+1) hi] at h1
  rcases O.tot _ _ a1 a2 (P.ne (by lia) hi (by lia)) with e | e
  ·exact e
  ·have:=(hρ _ _ a2 a1).mp e
   lia
 ·apply Array.ext'
  rw [Array.toList_map,Array.toList_map,List.map_map]
  exact hb.symm
end
end L2
end
section
namespace L2
open PySem PySem.Spec PySem.W PyProof.Rows Builtin
def bL (x y:List Int):Bool:=decide (x.length < y.length) || (decide (x.length=y.length) && HT.lexLt x y)
theorem iq:∀x:List Int,HT.lexLt x x=false
 | []=>rfl
 | a::l=>by
  unfold HT.lexLt
  simp [iq l]
theorem sU:∀{x y:List Int},x.length=y.length->x≠y->HT.lexLt x y=true\/HT.lexLt y x=true
 | [],[],_,h=>absurd rfl h
 | a::l,b::m,hl,h=>by
  unfold HT.lexLt
  by_cases e:a=b
  ·subst e
   have:=sU (x:=l) (y:=m) (by simpa using hl) (fun z=>h (by rw [z]))
   simpa using this
  ·simp only [e,Ne.symm e,decide_false,Bool.false_and,Bool.or_false,decide_eq_true_eq,if_false]
   lia
 | [],_::_,hl,_=>by simp at hl
 | _::_,[],hl,_=>by simp at hl
theorem sV:∀{x y:List Int},HT.lexLt x y=true->HT.lexLt y x=false
 | [],[],h=>by simp [HT.lexLt] at h
 | [],b::m,_=>rfl
 | a::l,[],h=>by simp [HT.lexLt] at h
 | a::l,b::m,h=>by
  unfold HT.lexLt at h ⊢
  by_cases e:a=b
  ·subst e
   simp at h ⊢
   exact sV h
  ·simp [e,Ne.symm e] at h ⊢
   lia
theorem qd:∀{x y z:List Int},HT.lexLt x y=true->HT.lexLt y z=true->HT.lexLt x z=true
 | [],[],_,h,_=>by simp [HT.lexLt] at h
 | [],b::m,[],_,h=>by simp [HT.lexLt] at h
 | [],b::m,c::n,_,_=>rfl
 | a::l,[],_,h,_=>by simp [HT.lexLt] at h
 | a::l,b::m,[],_,h=>by simp [HT.lexLt] at h
 | a::l,b::m,c::n,h1,h2=>by
  unfold HT.lexLt at h1 h2 ⊢
  by_cases e1:a=b
  ·subst e1
   by_cases e2:a=c
   ·subst e2
    simp at h1 h2 ⊢
    exact qd h1 h2
   ·simp [e2] at h1 h2 ⊢
    lia
  ·by_cases e2:b=c
   ·subst e2
    simp [e1] at h1 h2 ⊢
    lia
   ·by_cases e3:a=c
    ·subst e3
     simp [e1,e2] at h1 h2
     lia
    ·simp [e1,e2,e3] at h1 h2 ⊢
     lia
theorem sf {ss:List (List Int)} (nd:ss.Nodup):Ord (fun i j=>bL (ss.getD i []) (ss.getD j [])) ss.length where
 tr:=fun i j k hi hj hk h1 h2=>by
  unfold bL at *
  simp only [Bool.or_eq_true,Bool.and_eq_true,decide_eq_true_eq] at *
  rcases h1 with h1 | ⟨h1,l1⟩ <;> rcases h2 with h2 | ⟨h2,l2⟩
  ·exact .inl (by lia)
  ·exact .inl (by lia)
  ·exact .inl (by lia)
  ·exact .inr ⟨by lia,qd l1 l2⟩
 asy:=fun i j hi hj h=>by
  unfold bL at *
  simp only [Bool.or_eq_true,Bool.and_eq_true,decide_eq_true_eq] at h
  rcases h with h | ⟨h,l⟩
  ·simp only [Bool.or_eq_false_iff,Bool.and_eq_false_imp,decide_eq_false_iff_not,decide_eq_true_eq]
   exact ⟨by lia,fun z=>by lia⟩
  ·simp only [Bool.or_eq_false_iff,Bool.and_eq_false_imp,decide_eq_false_iff_not,decide_eq_true_eq]
   exact ⟨by lia,fun _=>sV l⟩
 tot:=fun i j hi hj d=>by
  have ne:ss.getD i []≠ss.getD j []:=by
   rw [List.getD_eq_getElem?_getD,List.getD_eq_getElem?_getD,List.getElem?_eq_getElem hi,List.getElem?_eq_getElem hj]
   exact fun e=>d ((List.getElem_inj nd).mp e)
  unfold bL
  simp only [Bool.or_eq_true,Bool.and_eq_true,decide_eq_true_eq]
  rcases Nat.lt_trichotomy (ss.getD i []).length (ss.getD j []).length with h | h | h
  ·exact .inl (.inl h)
  ·rcases sU h ne with z | z
   ·exact .inl (.inr ⟨h,z⟩)
   ·exact .inr (.inr ⟨h.symm,z⟩)
  ·exact .inr (.inl h)
section
variable {P:Program} {w:World} {A:Around} {E:Value->Shared->Prop} {s:Shared}
theorem g8:∀{us:List Value} {ns:List Int},IntsAre us ns->ItemsAre (cM P w) (ns.map Sum.inl) us
 | _,_,.nil=>.nil
 | _,_,.cons n t r=>.cons (by show (n == n)=true;simp) (g8 r)
theorem Q7 {ns ms:List Int}:decide ((ns.map Sum.inl:List Key)=ms.map Sum.inl)=decide (ns=ms):=by
 rw [Bool.eq_iff_iff,decide_eq_true_eq,decide_eq_true_eq]
 refine ⟨fun e=>?_,fun e=>by rw [e]⟩
 exact List.map_inj_right (fun a b h=>Sum.inl.inj h) |>.mp e
theorem Nc {p q a c:Addr} {lx ly:Int} {t u:Tok} {its wD:Array Value} {ns ms:List Int} {C:Bool->Shared->Prop} (hu:A.units < cLine) (hp:IsTup s.heap p #[.int lx t,.ref a]) (hq:IsTup s.heap q #[.int ly u,.ref c])
  (ha:IsTup s.heap a its) (hc:IsTup s.heap c wD) (i1:IntsAre its.toList ns) (i2:IntsAre wD.toList ms) (hx:lx=ns.length) (hy:ly=ms.length) (h:C (bL ns ms) s):wpAny (model P w) A (keyLt' (tuples' true) (.ref p) (.ref q)) C E s:=by
 obtain ⟨o1,e1,c1,n1,d1⟩:=id hp
 obtain ⟨o2,e2,c2,n2,d2⟩:=id hq
 obtain ⟨o3,e3,c3,n3,d3⟩:=id ha
 obtain ⟨o4,e4,c4,n4,d4⟩:=id hc
 refine kat_lt e1 d1 e2 d2 ?_
 show KatLex P w A true _ C [(.int lx t,.int ly u),(.ref a,.ref c)] 0 s
 refine kat_cons ((cM P w).eqBool (a:=Sum.inl lx) (b:=Sum.inl ly) (by show (lx == lx)=true;simp) (by show (ly == ly)=true;simp) ?_)
 refine kat_go (fun e=>?_) fun e=>?_
 ·have el:lx=ly:=Sum.inl.inj (of_decide_eq_true e)
  refine kat_yes (kat_cons (wpAny_eqBool_tuple (knd:=cM P w) hu ⟨o3,its,n3,e3,c3,d3,g8 i1⟩ ⟨o4,wD,n4,e4,c4,d4,g8 i2⟩ ?_))
  rw [Q7]
  refine kat_go (fun e'=>kat_yes (kat_nil ?_)) fun e'=>kat_no ?_
  ·have:ns=ms:=of_decide_eq_true e'
   subst this
   have z:bL ns ns=false:=by unfold bL;rw [iq];simp
   rw [z] at h
   exact h
  ·refine kat_one _ _ (HT.yw ha hc i1 i2 hu ?_)
   have z:bL ns ms=HT.lexLt ns ms:=by
    unfold bL
    rw [decide_eq_false (by lia:¬ns.length < ms.length),decide_eq_true (by lia:ns.length=ms.length)]
    simp
   rw [z] at h
   exact h
 ·have el:lx≠ly:=fun z=>by rw [z] at e;simp at e
  refine kat_no (oneLt_int ?_)
  have z:bL ns ms=decide (lx < ly):=by
   unfold bL
   rw [decide_eq_false (by lia:¬ns.length=ms.length),Bool.false_and,Bool.or_false,Bool.eq_iff_iff,decide_eq_true_eq,decide_eq_true_eq]
   lia
  rw [z] at h
  exact h
end
end L2
end
section
namespace L2
open PySem PySem.Spec PySem.W PyProof.Rows Builtin
section
variable {P:Program} {w:World} {H H1:Hp} {h h1 h2:Heap} {e a:Addr} {o:HO} {fs:List Addr}
theorem Ag (x:fA P w H h) (hn:H e=none) (k:∀b u,b≠e->h.get? b=some u->h2.get? b=some u):fA P w H h2:=fun a o ea=>
 (x a o ea).stay (fun b u hb q=>k b u (fun z=>by
  subst z
  rcases hb with rfl | hb
  ·rw [hn] at ea;cases ea
  ·rw [hn] at hb;cases hb) q) (fun _ q=>q) fun _ _ q=>q
theorem Fd (u:Un fs [] H H1 h h1) (he:h.objs.size<=e) (k:∀b u,b≠e->h1.get? b=some u->h2.get? b=some u):Un fs [] H H1 h h2:=
 have ne:∀b ob,h.get? b=some ob->b≠e:=fun b ob q=>Nat.ne_of_lt (Nat.lt_of_lt_of_le (Heap.lt_size q) he)
 ⟨fun b ob q n hb hx=>k _ _ (ne b ob q) (u.keep b ob q n hb hx),fun b ob q n hb hx=>let ⟨sl,r⟩:=u.slot b ob q n hb hx;⟨sl,k _ _ (ne b ob q) r⟩,u.free,fun b ob q hx=>let ⟨o',r⟩:=u.there b ob q hx;⟨o',k _ _ (ne b ob q) r⟩,u.tups,u.frzs,u.tbls⟩
theorem Ml (x:fA P w H h) (hn:H a=none) (new:cD P w (upd H a o) h a o):fA P w (upd H a o) h:=fun b u eb=>by
 by_cases hb:b=a
 ·subst hb;rw [ah] at eb;cases eb;exact new
 ·rw [aq hb] at eb
  exact (x b u eb).stay (fun _ _ _ q=>q) (fun c q=>by rw [aq (aj q hn)];exact q) fun c xs q=>by rw [aq (aj q hn)];exact q
theorem Pp (u:Un fs [] H H1 h h1) (ha:h.objs.size<=a) (hn:H a=none):Un fs [] H (upd H1 a o) h h1:=
 have ne:∀b ob,h.get? b=some ob->b≠a:=fun b ob q=>Nat.ne_of_lt (Nat.lt_of_lt_of_le (Heap.lt_size q) ha)
 ⟨u.keep,u.slot,fun b ob q n hx=>by rw [aq (ne b ob q)];exact u.free b ob q n hx,u.there,fun b xs q=>by rw [aq (aj q hn)];exact u.tups b xs q,fun b ob xs q=>by rw [aq (aj q hn)];exact u.frzs b ob xs q,fun b ps q=>by rw [aq (aj q hn)];exact u.tbls b ps q⟩
end
def rZ:Sp:=fun vs H Q _=>∃a,vs=[.ref a]/\∃xs,H a=some (.tup xs)/\∀p,H p=none->Q (.ref p) (upd H p (.tup [.int xs.length,.ref a]))
section
variable {X:Cx} {pins:List (Addr×Obj)} {σ:St} {H:Hp} {s:Shared}
structure vv (X:Cx) (H:Hp) (s:Shared) (D S:Addr) (e1:Nat) (H':Hp) (s':Shared) (kA:Array Value):Prop where
 os:s'.os=s.os
 bare:AllBare s'.gens
 un:Un (kO X.stack) [] H H' s.heap s'.heap
 bh:fA X.prog X.w H' s'.heap
 same:bU H H'
 nD:H' D=none
 nS:H' S=none
 oD:s'.heap.get? D=some (seqObj "list" #[] e1)
 oS:∃e,s'.heap.get? S=some (seqObj "list" kA e)
theorem vv.call {D S:Addr} {e1:Nat} {H':Hp} {s':Shared} {kA:Array Value} (I:Inv X pins σ H s) (m:vv X H s D S e1 H' s' kA) (hD:s.heap.objs.size<=D) (hS:s.heap.objs.size<=S) {k:Nat} {f:Addr} {fd:FuncData} {pm:Str} (F:bO X.prog X.w X.K X.mg X.base eL k f fd [pm] rZ) (hr:bW k X.A.in1.in1)
  (hb:Binds X.K fd [pm] []) {a:Addr} {xs:List V} (ha:H a=some (.tup xs)) {Q:Value->Shared->Prop} {E:Value->Shared->Prop}
  (q:∀p s2,H' p=none->vv X H s D S e1 (upd H' p (.tup [.int xs.length,.ref a])) s2 kA->Q (.ref p) s2):wpAny (model X.prog X.w) X.A.in1.in1 (call (.ref f) [.ref a]) Q E s':=by
 have I':Inv X pins σ H' s':=I.call' (ch:=[]) m.os m.un m.bh m.bare (fun b z=>absurd z (by simp))
 have nfD:∀b,s.heap.objs.size<=b->b∉kO X.stack:=fun b hb z=>by
  rcases List.mem_cons.mp (I.nR b z) with z | z
  ·exact absurd (Nat.lt_of_lt_of_le I.lt hb) (by rw [z];exact Nat.lt_irrefl _)
  ·exact I.Ut hb z
 refine wpAny_call (codeAny_mono (F.run X.A.in1.in1 X.stack s' H' ⟨[.ref a],[]⟩ [.ref a] [.ref a] (fun v H2=>∃p,v=.ref p/\H' p=none/\H2=upd H' p (.tup [.int xs.length,.ref a])) (fun _ _ _=>False) hr I'.Dv.in1.in1 (hb s' [.ref a] I'.jr rfl) (.cons rfl .nil) ⟨a,rfl,xs,m.same _ _ ha,fun p hp=>⟨p,rfl,hp,rfl⟩⟩) fun r s2 hq=>?_)
 cases r with
 | error e=>exact False.elim hq
 | ok fl=>
  cases fl with
  | next=>exact False.elim hq
  | brk=>exact False.elim hq
  | cont=>exact False.elim hq
  | ret u=>
   refine hide fun gG hG=>?_
   obtain ⟨v,H2,os,bare,un,bh,rv,p,rfl,hp,rfl⟩:=hq
   refine hG ?_
   cases rv
   obtain ⟨eS,oS⟩:=m.oS
   exact q p s2 hp ⟨os.trans m.os,bare,m.un.trans un,bh,m.same.trans fun b u eb=>by rw [aq (aj eb hp)];exact eb,un.free D _ m.oD m.nD (by simp),un.free S _ oS m.nS (by simp),un.keep D _ m.oD m.nD (nfD D hD) (by simp),eS,un.keep S _ oS m.nS (nfD S hS) (by simp)⟩
theorem vv.push {D S:Addr} {e1:Nat} {H':Hp} {s':Shared} {kA:Array Value} (m:vv X H s D S e1 H' s' kA) (hS:s.heap.objs.size<=S) (O4:D≠S) (g:Array Value->Array Value):vv X H s D S e1 H' { s' with heap:=s'.heap.update S (Obj.mapSeq g) } (g kA):=by
 obtain ⟨eS,oS⟩:=m.oS
 have sb:=Heap.SameBut.update s'.heap S (Obj.mapSeq g)
 have k:∀b u,b≠S->s'.heap.get? b=some u->(s'.heap.update S (Obj.mapSeq g)).get? b=some u:=fun b u nb q=>(sb.2 b nb).trans q
 exact ⟨m.os,m.bare,Fd m.un hS k,Ag m.bh m.nS k,m.same,m.nD,m.nS,k _ _ O4 m.oD,_,get?_update_seq oS g⟩
def Se (H':Hp) (as:List Addr) (ss:List (List Int)) (n:Nat) (kA:Array Value):Prop:=kA.size=n/\∀(j:Nat) v,kA[j]? = some v->∃p a ns,v=.ref p/\as[j]? = some a/\ss[j]? = some ns/\H' p=some (.tup [.int (ns.length:Nat),.ref a])
theorem CZ {D S:Addr} {e1:Nat} {H0:Hp} {s0:Shared} (I:Inv X pins σ H s) (m:vv X H s D S e1 H0 s0 #[]) (hD:s.heap.objs.size<=D) (hS:s.heap.objs.size<=S) (O4:D≠S) {k:Nat} {f:Addr} {fd:FuncData} {pm:Str} (F:bO X.prog X.w X.K X.mg X.base eL k f fd [pm] rZ) (hr:bW k X.A.in1.in1)
  (hb:Binds X.K fd [pm] []) {as:List Addr} {ss:List (List Int)} (ls:as.length=ss.length) (VH:as.length < 100000) (hs:∀(i:Nat) a ns,as[i]? = some a->ss[i]? = some ns->H a=some (.tup (List.map V.int ns))) {Q:PUnit->Shared->Prop} {E:Value->Shared->Prop} {body:Value->PUnit->Sem (ForInStep PUnit)}
  (dN:∀a R s1,wpAny (model X.prog X.w) X.A.in1.in1 (call (.ref f) [.ref a]) (fun v s2=>wpAny (model X.prog X.w) X.A.in1.in1 (Builtin.List.listUpdate (.ref S) (·.push v)) (fun _ s3=>R (.yield ⟨⟩) s3) E s2) (fun _ _=>False) s1->wpAny (model X.prog X.w) X.A.in1.in1 (body (.ref a) ⟨⟩) R E s1)
  (q:∀H' s' kA,vv X H s D S e1 H' s' kA->Se H' as ss as.length kA->Q ⟨⟩ s'):wpAny (model X.prog X.w) X.A.in1.in1 (forIn (as.map Value.ref) PUnit.unit body) Q E s0:=by
 refine ksk_fold (fun i s'=>∃H' kA,vv X H s D S e1 H' s' kA/\Se H' as ss i kA) (as.map Value.ref) 0 s0 ⟨H0,#[],m,rfl,fun j v e=>by simp at e⟩ (fun j x s1 hx hJ=>?_) fun s' hd=>?_
 ·refine hide fun gG hG=>?_
  obtain ⟨H',kA,m1,ks,kk⟩:=hJ
  refine hG ?_
  rw [List.getElem?_map] at hx
  cases ea:as[j]? with
  | none=>rw [ea] at hx;cases hx
  | some a=>
   rw [ea] at hx
   cases hx
   have hj:j < as.length:=(List.getElem?_eq_some_iff.mp ea).1
   have es:ss[j]? = some ss[j]:=List.getElem?_eq_getElem (by lia)
   refine dN a _ s1 (m1.call I hD hS F hr hb (hs j a _ ea es) fun p s2 hp m2=>?_)
   obtain ⟨eS,oS⟩:=m2.oS
   have z1:kA.size<=sizeLine:=g6 (by lia)
   have z2:(kA.push (.ref p)).size<=sizeLine:=by rw [Array.size_push];exact g6 (by lia)
   refine listUpdate_at (xs:=kA) oS rfl ⟨rfl,_,kA.push (.ref p),m2.push hS O4 (·.push (.ref p)),by rw [Array.size_push,ks],fun i v ev=>?_⟩ z1 (Nat.le_succ_of_le z2)
   by_cases hi:i < kA.size
   ·rw [Array.getElem?_push_lt hi] at ev
    obtain ⟨p',a',Eh,Ap,e2',e3',e4'⟩:=kk i v (by rw [Array.getElem?_eq_getElem hi];exact ev)
    exact ⟨p',a',Eh,Ap,e2',e3',by rw [aq (aj e4' hp)];exact e4'⟩
   ·have mE:i=kA.size:=by
     have:=(Array.getElem?_eq_some_iff.mp ev).1
     rw [Array.size_push] at this
     lia
    subst mE
    rw [Array.getElem?_push_size] at ev
    cases ev
    rw [ks,Nat.zero_add]
    exact ⟨p,a,_,rfl,ea,es,by rw [ah,List.length_map]⟩
 ·refine hide fun gG hG=>?_
  obtain ⟨H',kA,m1,ks,kk⟩:=hd
  refine hG ?_
  rw [List.length_map,Nat.zero_add] at ks
  exact q H' s' kA m1 ⟨ks,kk⟩
end
end L2
end
section
namespace L2
open PySem PySem.Spec PySem.W PyProof.Rows Builtin
section
variable {P:Program} {w:World} {H':Hp} {h:Heap} {p a:Addr}
theorem z9 {l:Int} (bh:fA P w H' h) (e:H' p=some (.tup [.int l,.ref a])):∃t,IsTup h p #[.int l t,.ref a]:=by
 refine hide fun gG hG=>?_
 obtain ⟨_,its,r,ht⟩:=bh p _ e
 refine hG ?_
 cases r with
 | cons r1 r2=>
  obtain ⟨t,rfl⟩:=r1
  cases r2 with
  | cons r3 r4=>
   cases r4
   cases r3
   exact ⟨t,ht⟩
theorem Ko {ns:List Int} (bh:fA P w H' h) (e:H' a=some (.tup (List.map V.int ns))):∃its,IsTup h a its/\IntsAre its.toList ns:=by
 refine hide fun gG hG=>?_
 obtain ⟨_,its,r,ht⟩:=bh a _ e
 refine hG ?_
 exact ⟨_,ht,intsAre_of r⟩
end
section
variable {X:Cx} {pins:List (Addr×Obj)} {σ:St} {H:Hp} {s:Shared}
structure Fin (X:Cx) (H:Hp) (s:Shared) (D:Addr) (H':Hp) (s':Shared) (bs:List Addr):Prop where
 os:s'.os=s.os
 bare:AllBare s'.gens
 un:Un (kO X.stack) [] H H' s.heap s'.heap
 bh:fA X.prog X.w H' s'.heap
 same:bU H H'
 nD:H' D=none
 oD:∃c,s'.heap.get? D=some (seqObj "list" (bs.map Value.ref).toArray c)
theorem se {D S:Addr} {e1:Nat} {H':Hp} {s':Shared} {kA:Array Value} {bs:List Addr} {st:SortSt} {Pq:PySem.Fin->Shared->Prop} {E:Value->Shared->Prop} (m:vv X H s D S e1 H' s' kA) (hD:s.heap.objs.size<=D) (hS:s.heap.objs.size<=S) (O4:D≠S) (hk:kA.size<=100000) (hb:bs.length<=100000)
  (aAC:(arrOf st).map (·.2)=(bs.map Value.ref).toArray) (hf:failedOf st=none) (q:∀s2,Fin X H s D H' s2 bs->Pq (.done (.ret .none)) s2):wpAny (model X.prog X.w) X.A.in1.in1 (ksk_tail D false e1 (.ref S) st) Pq E s':=by
 obtain ⟨eS,oS⟩:=m.oS
 have m1:=m.push hS O4 (fun _=>#[])
 have sb:=Heap.SameBut.update (s'.heap.update S (Obj.mapSeq fun _=>(#[]:Array Value))) D (Obj.mapSeq fun _=>(bs.map Value.ref).toArray)
 have k:∀b u,b≠D->(s'.heap.update S (Obj.mapSeq fun _=>(#[]:Array Value))).get? b=some u->((s'.heap.update S (Obj.mapSeq fun _=>(#[]:Array Value))).update D (Obj.mapSeq fun _=>(bs.map Value.ref).toArray)).get? b=some u:=fun b u nb q=>(sb.2 b nb).trans q
 unfold ksk_tail
 dsimp only
 refine wpAny_bind (listUpdate_at (xs:=kA) oS rfl ?_ (g6 (by lia)) (Nat.zero_le _))
 refine wpAny_bind (wpAny_letGo ?_)
 refine wpAny_bind (seqEpoch_at m1.oD rfl ?_)
 rw [aAC]
 refine wpAny_bind (listUpdate_at m1.oD rfl ?_ (Nat.zero_le _) (by
  have z:((bs.map Value.ref).toArray).size<=sizeLine:=by rw [List.size_toArray,List.length_map];exact g6 (by lia)
  first | exact z | exact Nat.le_succ_of_le z))
 rw [hf]
 simp only [bne_self_eq_false,Bool.false_eq_true,if_false]
 exact wpAny_pure (q _ ⟨m1.os,m1.bare,Fd m1.un hD k,Ag m1.bh m1.nD k,m1.same,m1.nD,_,get?_update_seq m1.oD fun _=>(bs.map Value.ref).toArray⟩)
theorem qh {h:Heap}:∀{l:List Value},(∀v∈l,∃p a,∃k:Int,∃t,v=.ref p/\IsTup h p #[.int k t,.ref a])->∃fs,KatTups h l fs/\fs.length=l.length/\∀f∈fs,∃(k:Int) (t:Tok),f=.int k t
 | [],_=>⟨[],.nil,rfl,fun _ z=>nomatch z⟩
 | v::l,hv=>by
  refine hide fun gG hG=>?_
  obtain ⟨p,a,k,t,rfl,o,e,c,n,d⟩:=hv v List.mem_cons_self
  obtain ⟨fs,r1,r2,r3⟩:=qh (l:=l) fun u hu=>hv u (List.mem_cons_of_mem _ hu)
  refine hG ?_
  exact ⟨.int k t::fs,.cons e c d rfl r1,by rw [List.length_cons,List.length_cons,r2],fun f hf=>by
   rcases List.mem_cons.mp hf with rfl | hf
   ·exact ⟨k,t,rfl⟩
   ·exact r3 f hf⟩
def setB (ss:List (List Int)) (i j:Nat):Bool:=bL (ss.getD i []) (ss.getD j [])
theorem getD_some {α:Type} {l:List α} {i:Nat} {x d:α} (h:l[i]? = some x):l.getD i d=x:=by rw [List.getD_eq_getElem?_getD,h];rfl
theorem FJ {D S:Addr} {e1:Nat} {H':Hp} {s':Shared} {kA:Array Value} {as:List Addr} {ss:List (List Int)} {Pq:PySem.Fin->Shared->Prop} {E:Value->Shared->Prop} (m:vv X H s D S e1 H' s' kA) (hu:X.A.in1.in1.units < cLine) (hD:s.heap.objs.size<=D) (hS:s.heap.objs.size<=S) (O4:D≠S)
  (kk:Se H' as ss as.length kA) (ls:as.length=ss.length) (VH:as.length < 100000) (nd:ss.Nodup) (hs:∀(i:Nat) a ns,as[i]? = some a->ss[i]? = some ns->H a=some (.tup (List.map V.int ns)))
  (q:∀s2 p,vq p as.length->Ef (setB ss) p as.length->Fin X H s D H' s2 (p.toList.map fun i=>as.getD i 0)->Pq (.done (.ret .none)) s2):wpAny (model X.prog X.w) X.A.in1.in1 (ksk_end D false (as.map Value.ref).toArray e1 (.ref S) kA) Pq E s':=by
 obtain ⟨ks,kv⟩:=kk
 have hzs:(kA.zip (as.map Value.ref).toArray).size=as.length:=by rw [Array.size_zip,ks,List.size_toArray,List.length_map,Nat.min_self]
 have Xb:∀i,i < as.length->∃p,kas_item (kA.zip (as.map Value.ref).toArray) i=(.ref p,.ref (as.getD i 0))/\∃a ns,as[i]? = some a/\ss[i]? = some ns/\H' p=some (.tup [.int (ns.length:Nat),.ref a]):=fun i hi=>by
  have Mu:i < kA.size:=by lia
  obtain ⟨p,a,ns,e1,e2,e3,e4⟩:=kv i kA[i] (Array.getElem?_eq_getElem Mu)
  refine ⟨p,?_,a,ns,e2,e3,e4⟩
  unfold kas_item
  rw [Array.getD_eq_getD_getElem?,Array.getElem?_eq_getElem (by rw [hzs];exact hi),Option.getD_some,Array.getElem_zip,e1,getD_some e2]
  congr 1
  have:(as.map Value.ref)[i]? = some (.ref a):=by rw [List.getElem?_map,e2];rfl
  have h2:=List.getElem?_eq_some_iff.mp this
  simpa using h2.2
 have Uk:∀p:Array Nat,vq p as.length->(p.map (kas_item (kA.zip (as.map Value.ref).toArray))).map (·.2)=((p.toList.map fun i=>as.getD i 0).map Value.ref).toArray:=fun p hp=>by
  apply Array.ext'
  rw [Array.toList_map,Array.toList_map,List.toList_toArray,List.map_map,List.map_map]
  refine List.map_congr_left fun i hi=>?_
  have gi:i < as.length:=by
   have:=(hp.perm.mem_iff (a:=i)).mp (by simpa using hi)
   simpa using this
  obtain ⟨p',e,_⟩:=Xb i gi
  show (kas_item _ i).2=_
  rw [e]
  rfl
 have Wn:∀p:Array Nat,vq p as.length->(p.toList.map fun i=>as.getD i 0).length<=100000:=fun p hp=>by rw [List.length_map,Array.length_toList,hp.size];lia
 unfold ksk_end
 dsimp only
 simp only [Bool.false_eq_true,if_false]
 by_cases h2:(as.map Value.ref).toArray.size < 2
 ·rw [if_pos h2,if_pos h2]
  refine wpAny_bind (wpAny_pure ?_)
  rw [StateT.run_pure]
  refine wpAny_bind (wpAny_pure ?_)
  dsimp only
  have hp:vq (List.toArray (List.range as.length)) as.length:=⟨Array.Perm.refl _⟩
  rw [List.size_toArray,List.length_map] at h2
  refine se (st:=SortSt.mk' general' (kA.zip (as.map Value.ref).toArray) #[] 7 none) m hD hS O4 (by lia) (Wn _ hp) ?_ rfl fun s2 f=>q s2 _ hp (fun i hi=>by lia) f
  rw [<-Uk _ hp]
  have:(List.toArray (List.range as.length)).map (kas_item (kA.zip (as.map Value.ref).toArray))=kA.zip (as.map Value.ref).toArray:=by
   have:=kas_range (kA.zip (as.map Value.ref).toArray)
   rwa [hzs] at this
  rw [this]
 ·rw [if_neg h2,if_neg h2]
  rw [List.size_toArray,List.length_map] at h2
  have h2':2<=as.length:=by lia
  have tups:∀v∈kA.toList,∃p a,∃k:Int,∃t,v=.ref p/\IsTup s'.heap p #[.int k t,.ref a]:=fun v hv=>by
   obtain ⟨i,hi,rfl⟩:=List.mem_iff_getElem.mp hv
   obtain ⟨p,a,ns,e1,e2,e3,e4⟩:=kv i (kA.toList[i]) (by rw [<-Array.getElem?_toList];exact List.getElem?_eq_getElem hi)
   obtain ⟨t,ht⟩:=z9 m.bh e4
   exact ⟨p,a,_,t,e1,ht⟩
  refine hide fun gG hG=>?_
  obtain ⟨fs,kt,lf,hf⟩:=qh tups
  refine hG ?_
  have kind:wpAny (model X.prog X.w) X.A.in1.in1 (keyKind' kA) (fun κ s2=>κ=tuples' true/\s2=s') E s':=by
   have:=kat_kind (M:=model X.prog X.w) (A:=X.A.in1.in1) (E:=E) (s:=s') (T:=Value.type "int") (Q:=fun κ s2=>κ=tuples' true/\s2=s') kt (by rw [lf,Array.length_toList];lia) (fun v hv=>by
    obtain ⟨k,t,rfl⟩:=hf v hv
    exact .now) (by decide) ⟨by congr 1,rfl⟩
   rwa [Array.toArray_toList] at this
  refine wpAny_bind (wpAny_mono kind (fun κ s2 ⟨e1,e2⟩=>?_) fun _ _ x=>x)
  subst e1 e2
  have hn:0 < as.length:=by lia
  have obj:∀i,i < as.length->∃p a t its,∃k:Int,(kas_item (kA.zip (as.map Value.ref).toArray) i).1=.ref p/\IsTup s2.heap p #[.int k t,.ref a]/\IsTup s2.heap a its/\IntsAre its.toList (ss.getD i [])/\k=(ss.getD i []).length:=fun i hi=>by
   refine hide fun gG hG=>?_
   obtain ⟨p,e,a,ns,e2,e3,e4⟩:=Xb i hi
   obtain ⟨t,ht⟩:=z9 m.bh e4
   obtain ⟨its,ha,hia⟩:=Ko m.bh (m.same _ _ (hs i a ns e2 e3))
   refine hG ?_
   exact ⟨p,a,t,its,_,by rw [e],ht,ha,by rw [getD_some e3];exact hia,by rw [getD_some e3]⟩
  have ssD:∀i,i < as.length->ss[i]? = some (ss.getD i []):=fun i hi=>by
   rw [List.getD_eq_getElem?_getD,List.getElem?_eq_getElem (by lia)];rfl
  have inj:∀i j,i < as.length->j < as.length->kas_item (kA.zip (as.map Value.ref).toArray) i=kas_item (kA.zip (as.map Value.ref).toArray) j->i=j:=fun i j hi hj e=>by
   refine hide fun gG hG=>?_
   obtain ⟨p,e1,a,ns,f1,f2,_⟩:=Xb i hi
   obtain ⟨p',Ap,a',Eh,f1',XH,_⟩:=Xb j hj
   refine hG ?_
   rw [e1,Ap] at e
   injection e with _ e2
   injection e2 with e2
   rw [getD_some f1,getD_some f1'] at e2
   subst e2
   have g1:=hs i a ns f1 f2
   have g2:=hs j a Eh f1' XH
   rw [g1] at g2
   have e3:ns=Eh:=by
    injection g2 with g2
    injection g2 with g2
    exact (List.map_inj_right fun _ _ h=>V.int.inj h).mp g2
   subst e3
   have h1:=(List.getElem?_eq_some_iff.mp f2)
   have h2:=(List.getElem?_eq_some_iff.mp XH)
   exact (List.getElem_inj nd).mp (h1.2.trans h2.2.symm)
  have run:=FV (prog:=X.prog) (w:=X.w) (A:=X.A.in1.in1) (E:=E) (κ:=tuples' true) (item:=kas_item (kA.zip (as.map Value.ref).toArray)) (n:=as.length) (b:=setB ss) (s:=s2) (it:=kA.zip (as.map Value.ref).toArray) inj
   (by have:=sf nd;rw [<-ls] at this;exact this) h2' (fun i j C hi hj hC=>by
    refine hide fun gG hG=>?_
    obtain ⟨p,a,t,its,k,e1,t1,t2,t3,t4⟩:=obj i hi
    obtain ⟨p',a',t',its',k',Ap,t1',t2',t3',t4'⟩:=obj j hj
    refine hG ?_
    rw [e1,Ap]
    exact Nc hu t1 t1' t2 t2' t3 t3' t4 t4' hC) (by
    have:=kas_range (kA.zip (as.map Value.ref).toArray)
    rw [hzs] at this
    have e:=congrArg Array.toList this
    rw [Array.toList_map,List.toList_toArray] at e
    exact e.symm)
  refine wpAny_bind (wpAny_mono run (fun r s3 ⟨e,p,hp,ha,e1,e2⟩=>?_) fun _ _ x=>x)
  obtain ⟨⟨⟩,bf⟩:=r
  subst e
  dsimp only
  exact se m hD hS O4 (by lia) (Wn _ hp) (by rw [e1];exact Uk p hp) e2 fun s4 f=>q s4 p hp ha f
end
end L2
end
section
namespace L2
open PySem PySem.Spec PySem.W PyProof.Rows Builtin
theorem vF:∀l:List Addr,Vals (List.map V.ref l) (List.map Value.ref l)
 | []=>.nil
 | a::l=>.cons rfl (vF l)
section
variable {X:Cx} {pins:List (Addr×Obj)} {σ:St} {H:Hp} {s:Shared}
theorem xU {k:Nat} {f:Addr} {fd:FuncData} {pm:Str} {x:Value} {as:List Addr} {ss:List (List Int)} {Q:VK} (I:Inv X pins σ H s) (F:bO X.prog X.w X.K X.mg X.base eL k f fd [pm] rZ) (hr:bW k X.A.in1.in1) (hb:Binds X.K fd [pm] [])
  (ls:as.length=ss.length) (VH:as.length < 100000) (nd:ss.Nodup) (hs:∀(i:Nat) a ns,as[i]? = some a->ss[i]? = some ns->H a=some (.tup (List.map V.int ns)))
  (hc:∀(Q':List Value->Shared->Prop),(∀s',(∀b o,s.heap.get? b=some o->s'.heap.get? b=some o)->s.heap.objs.size<=s'.heap.objs.size->s'.gens=s.gens->s'.os=s.os->Q' (as.map Value.ref) s')->wpAny (model X.prog X.w) X.A.in1 (collect x) Q' X.xe s)
  (q:∀D H' p,bU H H'->H D=none->vq p as.length->Ef (setB ss) p as.length->H' D=some (.lst (List.map V.ref (p.toList.map fun i=>as.getD i 0)))->Q (.ref D) H') :
  wpAny (model X.prog X.w) X.A (PySem.call (.builtin "sorted") [x] [(Str.ofString "key",.ref f)]) (EP X pins σ Q) X.xe s:=by
 refine call_function_entry_kw kind_sorted plain_sorted entry_sorted (ksk_s1 _ _) ?_
 unfold Builtin.«sorted»
 refine wpAny_bind (m:=checkCount "sorted" 1 1 _) (wpAny_pure ?_)
 refine wpAny_bind (hc _ fun s1 k1 z1 g1 o1=>?_)
 refine wpAny_bind (wpAny_newList ?_ (by rw [List.length_map];exact g6 (by lia)))
 have J0:(s1.heap.push (seqObj "list" (as.map Value.ref).toArray 0)).get? s1.heap.objs.size=some (seqObj "list" (as.map Value.ref).toArray 0):=Heap.get?_push_size _ rfl
 refine wpAny_bind (wpAny_holding (wpAny_call_entry_kw slot_list_sort ⟨_,J0,rfl⟩ entry_list_sort ?body (ksk_l1 _ _)))
 case body=>
  show wpAny (model X.prog X.w) X.A.in1.in1 (Builtin.«list.sort» ⟨[.ref s1.heap.objs.size],[(Str.ofString "key",.ref f)]⟩) _ _ _
  rw [ksk_t1]
  unfold ksk_tree
  have lv:(as.map Value.ref).toArray.size<=sizeLine:=by rw [List.size_toArray,List.length_map];exact g6 (by lia)
  obtain ⟨e1,Vb⟩:∃e1,((s1.heap.push (seqObj "list" (as.map Value.ref).toArray 0)).update s1.heap.objs.size (Obj.mapSeq fun _=>(#[]:Array Value))).get? s1.heap.objs.size=some (seqObj "list" #[] e1):=⟨_,get?_update_seq J0 fun _=>#[]⟩
  have sb:=Heap.SameBut.update (s1.heap.push (seqObj "list" (as.map Value.ref).toArray 0)) s1.heap.objs.size (Obj.mapSeq fun _=>(#[]:Array Value))
  have TL:((s1.heap.push (seqObj "list" (as.map Value.ref).toArray 0)).update s1.heap.objs.size (Obj.mapSeq fun _=>(#[]:Array Value))).objs.size=s1.heap.objs.size+1:=by rw [Heap.size_update,size_push']
  refine wpAny_bind (listItems_at J0 rfl ?_)
  refine wpAny_bind (listUpdate_at J0 rfl ?_ lv (Nat.zero_le _))
  refine wpAny_bind (seqEpoch_at Vb rfl ?_)
  refine wpAny_bind (wpAny_newTuple ?_ (by rw [List.toList_toArray,List.length_map];exact g6 (by lia)))
  refine wpAny_bind (wpAny_newList ?_ (Nat.zero_le _))
  refine wpAny_holding ?_
  have NZ:(((s1.heap.push (seqObj "list" (as.map Value.ref).toArray 0)).update s1.heap.objs.size (Obj.mapSeq fun _=>(#[]:Array Value))).push (seqObj "tuple" (as.map Value.ref).toArray 0)).objs.size=s1.heap.objs.size+2:=by rw [size_push',TL]
  have keep:∀b o,s.heap.get? b=some o->((((s1.heap.push (seqObj "list" (as.map Value.ref).toArray 0)).update s1.heap.objs.size (Obj.mapSeq fun _=>(#[]:Array Value))).push (seqObj "tuple" (as.map Value.ref).toArray 0)).push (seqObj "list" #[] 0)).get? b=some o:=fun b o e=>by
   have lb:b < s1.heap.objs.size:=Nat.lt_of_lt_of_le (Heap.lt_size e) z1
   exact Heap.get?_push_of_some _ (Heap.get?_push_of_some _ ((sb.2 b (Nat.ne_of_lt lb)).trans (Heap.get?_push_of_some _ (k1 b o e))))
  have m0:vv X H s s1.heap.objs.size (s1.heap.objs.size+2) e1 H { s1 with heap:=(((s1.heap.push (seqObj "list" (as.map Value.ref).toArray 0)).update s1.heap.objs.size (Obj.mapSeq fun _=>(#[]:Array Value))).push (seqObj "tuple" (as.map Value.ref).toArray 0)).push (seqObj "list" #[] 0) } #[]:=
   ⟨o1,by show AllBare s1.gens;rw [g1];exact I.bare,Un.kept keep,I.bh.kept keep,bU.refl H,I.bh.fresh z1,I.bh.fresh (by lia),Heap.get?_push_of_some _ (Heap.get?_push_of_some _ Vb),0,by rw [<-NZ];exact Heap.get?_push_size _ rfl⟩
  unfold ksk_rest
  refine wpAny_bind (wpAny_rule ?_)
  rw [<-Array.forIn_toList,List.toList_toArray]
  show wpAny (model X.prog X.w) X.A.in1.in1 _ _ X.xe { s1 with heap:=(((s1.heap.push (seqObj "list" (as.map Value.ref).toArray 0)).update s1.heap.objs.size (Obj.mapSeq fun _=>(#[]:Array Value))).push (seqObj "tuple" (as.map Value.ref).toArray 0)).push (seqObj "list" #[] 0) }
  rw [NZ]
  refine wpAny_bind (CZ I m0 z1 (by lia:s.heap.objs.size<=s1.heap.objs.size+2) (by lia:s1.heap.objs.size≠s1.heap.objs.size+2) F hr hb ls VH hs (fun a R s2 hw=>?_) fun H' s' kA m kk=>?_)
  ·refine wpAny_bind (wpAny_attempt (wpAny_mono hw (fun v s3 h3=>?_) fun _ _ hF=>hF.elim))
   dsimp only
   exact wpAny_bind (wpAny_mono h3 (fun _ s4 h4=>wpAny_pure h4) fun _ _ x=>x)
  ·obtain ⟨eS,oS⟩:=m.oS
   refine wpAny_bind (listItems_at oS rfl ?_)
   refine FJ m hr.fY z1 (by lia:s.heap.objs.size<=s1.heap.objs.size+2) (by lia:s1.heap.objs.size≠s1.heap.objs.size+2) kk ls VH nd hs fun s2 p hp ha fin=>⟨_,rfl,?_⟩
   obtain ⟨c,oD⟩:=fin.oD
   have hn:H s1.heap.objs.size=none:=I.bh.fresh z1
   have bl:(List.map V.ref (p.toList.map fun i=>as.getD i 0)).length<=sizeLine:=by rw [List.length_map,List.length_map,Array.length_toList,hp.size];exact g6 (by lia)
   have I2:Inv X pins σ (upd H' s1.heap.objs.size (.lst (List.map V.ref (p.toList.map fun i=>as.getD i 0)))) s2:=I.call' (ch:=[]) fin.os (Pp fin.un z1 hn) (Ml fin.bh fin.nD ⟨bl,_,c,vF _,oD⟩) fin.bare (fun b z=>absurd z (by simp))
   exact wpAny_pure ⟨_,rfl,.ref s1.heap.objs.size,_,I2,rfl,q _ _ p (fin.same.trans fun b u eb=>by rw [aq (aj eb fin.nD)];exact eb) hn hp ha ah⟩
end
end L2
end
section
namespace L2
open PySem PySem.Spec PySem.W PyProof.Rows Builtin
def kQ (h:Heap) (d:Addr) (es:Array DictEntry) (ep:Nat):Prop:=∃o,h.get? d=some o/\o.ExactDict/\o.data=.dict es ep
section
variable {P:Program} {w:World} {A:Around} {E:Value->Shared->Prop} {s:Shared} {d it:Addr} {es:Array DictEntry} {ep i:Nat}
theorem kQ.ty (r:kQ s.heap d es ep):s.TypeIs (.ref d) "dict":=let ⟨o,e,c,_⟩:=r;⟨o,e,c.1⟩
theorem kQ.on {h h':Heap} (r:kQ h d es ep) (k:∀o,h.get? d=some o->h'.get? d=some o):kQ h' d es ep:=let ⟨o,e,c⟩:=r;⟨o,k _ e,c⟩
theorem Gi {Q:Value->Shared->Prop} (lo:(d == sysModules)=false) (r:kQ s.heap d es ep) (q:Q (.ref s.heap.objs.size) { s with heap:=s.heap.push { cls:=.type "dict_keyiterator",data:=.fields #[.ref d,.int 0 0,.int es.size 0,.int ep 0] } }) :
  wpAny (model P w) A (pyIter (.ref d)) Q E s:=by
 have ty:=r.ty
 refine hide fun gG hG=>?_
 obtain ⟨o,ho,hc,Mw⟩:=r
 refine hG ?_
 refine wpAny_pyIter_slot ty PySem.F.slot_dict_iter (wpAny_call_entry PySem.F.slot_dict_iter ty PySem.F.entry_dict_iter ?_ (PySem.F.args_dict_iter_1 _))
 unfold Builtin.«dict.__iter__»
 refine wpAny_bind ?_
 unfold Builtin.Dict.dictSlotNone
 refine wpAny_bind (wpAny_notOrdered_dict ty (wpAny_pure ?_))
 refine (?_:wpAny (model P w) _ (Builtin.Dict.showsAll d >>= _) _ _ s)
 unfold Builtin.Dict.showsAll
 rw [if_neg (fun z=>by rw [lo] at z;cases z)]
 refine wpAny_bind (wpAny_pure (wpAny_bind (wpAny_dictEntries ho Mw (wpAny_bind (wpAny_dictEpoch ho Mw ?_)))))
 refine wpAny_bind (wpAny_newObj_type (wpAny_pure ⟨_,rfl,"dict_keyiterator",_,⟨_,Heap.get?_push_size _ rfl,rfl⟩,PySem.F.slot_dict_keyiterator_next.lookup,?_⟩))
 exact q
theorem Gj {Q:Option Value->Shared->Prop} (ki:s.heap.IsKeyIter it d i es.size ep) (r:kQ s.heap d es ep) (hi:i < es.size)
  (q:∀h',h'.IsKeyIter it d (i+1) es.size ep->Heap.SameBut it s.heap h'->Q (some es[i].key) { s with heap:=h' }):wpAny (model P w) A (pyNext (.ref it)) Q E s:=by
 refine hide fun gG hG=>?_
 obtain ⟨o,ho,hc,hd⟩:=id ki
 obtain ⟨od,Va,_,Vq⟩:=id r
 refine hG ?_
 have ty:=ki.typeIs
 unfold pyNext
 refine wpAny_bind (wpAny_attempt (wpAny_callSpecial?_slot (name:=Str.ofString "__next__") ty PySem.F.slot_dict_keyiterator_next (wpAny_call_entry PySem.F.slot_dict_keyiterator_next ty PySem.F.entry_dict_keyiterator_next ?_ (PySem.F.args_dict_keyiterator_next_1 _))))
 refine wpAny_bind (wpAny_pure (wpAny_bind (wpAny_bind ?_)))
 first | refine wpAny_bind (wpAny_typeNameOfWhole_keyiter ty (wpAny_pure (wpAny_bind (wpAny_fieldsOf ho hd ?_)))) | refine wpAny_bind (wpAny_typeNameOf_keyiter ty (wpAny_pure (wpAny_bind (wpAny_fieldsOf ho hd ?_))))
 rw [show Builtin.Dict_items.ownsTuple "dict_keyiterator" = false by decide]
 simp only [Bool.false_eq_true,if_false]
 refine (?_:wpAny (model P w) _ (if (Value.ref d == Value.none)=true then _ else _) _ _ s)
 rw [if_neg (fun z=>by cases z)]
 refine wpAny_bind (wpAny_pure (wpAny_bind (wpAny_dictEntries Va Vq ?_)))
 rw [if_neg (by simp)]
 refine wpAny_bind (wpAny_pure (wpAny_bind (wpAny_dictEpoch Va Vq ?_)))
 rw [if_neg (by simp)]
 refine wpAny_pure ?_
 simp only [show ¬((i:Int) < 0) from by omega,if_false,Int.toNat_natCast,Array.getElem?_eq_getElem hi]
 refine wpAny_bind ?_
 first | refine wpAny_bind (wpAny_typeNameOfWhole_keyiter ty (wpAny_pure (wpAny_bind (wpAny_isOneOf_keyiter ty ?_)))) | refine wpAny_bind (wpAny_typeNameOf_keyiter ty (wpAny_pure (wpAny_bind (wpAny_isOneOf_keyiter ty ?_))))
 refine (?_:wpAny (model P w) _ (setField (.ref it) 1 (rawInt ((i:Int)+1)) >>= _) _ _ s)
 refine wpAny_bind (wpAny_setField ho hd (by simp) ?_)
 have ki':(s.heap.update it (Obj.mapFields (·.setIfInBounds 1 (rawInt ((i:Int)+1))))).IsKeyIter it d (i+1) es.size ep:=by
  refine ⟨_,Heap.get?_update_self _ ho (Obj.isFreed_of_fields (Obj.data_mapFields hd _)),(Obj.cls_mapFields ..).trans hc,?_⟩
  rw [Obj.data_mapFields hd]
  simp [rawInt]
 refine wpAny_bind (wpAny_holding (wpAny_bind (wpAny_isOneOf_keyiter (s:={ s with heap:=s.heap.update it (Obj.mapFields (·.setIfInBounds 1 (rawInt ((i:Int)+1)))) }) ki'.typeIs ?_)))
 exact wpAny_pure (wpAny_pure ⟨_,rfl,wpAny_pure (q _ ki' (Heap.SameBut.update ..))⟩)
theorem Kx {Q:Option Value->Shared->Prop} (hh:A.handled=none) (ki:s.heap.IsKeyIter it d i es.size ep) (r:kQ s.heap d es ep) (hi:es.size<=i)
  (q:∀h',Heap.ExtBut it s.heap h'->Q none { s with heap:=h' }):wpAny (model P w) A (pyNext (.ref it)) Q E s:=by
 refine hide fun gG hG=>?_
 obtain ⟨o,ho,hc,hd⟩:=id ki
 obtain ⟨od,Va,_,Vq⟩:=id r
 refine hG ?_
 have ty:=ki.typeIs
 unfold pyNext
 refine wpAny_bind (wpAny_attempt (wpAny_callSpecial?_slot (name:=Str.ofString "__next__") ty PySem.F.slot_dict_keyiterator_next (wpAny_call_entry PySem.F.slot_dict_keyiterator_next ty PySem.F.entry_dict_keyiterator_next ?_ (PySem.F.args_dict_keyiterator_next_1 _))))
 refine wpAny_bind (wpAny_pure (wpAny_bind (wpAny_bind ?_)))
 first | refine wpAny_bind (wpAny_typeNameOfWhole_keyiter ty (wpAny_pure (wpAny_bind (wpAny_fieldsOf ho hd ?_)))) | refine wpAny_bind (wpAny_typeNameOf_keyiter ty (wpAny_pure (wpAny_bind (wpAny_fieldsOf ho hd ?_))))
 rw [show Builtin.Dict_items.ownsTuple "dict_keyiterator" = false by decide]
 simp only [Bool.false_eq_true,if_false]
 refine (?_:wpAny (model P w) _ (if (Value.ref d == Value.none)=true then _ else _) _ _ s)
 rw [if_neg (fun z=>by cases z)]
 refine wpAny_bind (wpAny_pure (wpAny_bind (wpAny_dictEntries Va Vq ?_)))
 rw [if_neg (by simp)]
 refine wpAny_bind (wpAny_pure (wpAny_bind (wpAny_dictEpoch Va Vq ?_)))
 rw [if_neg (by simp)]
 refine wpAny_pure ?_
 simp only [show ¬((i:Int) < 0) from by omega,if_false,Int.toNat_natCast,Array.getElem?_eq_none hi]
 refine wpAny_bind ?_
 first | refine wpAny_bind (wpAny_typeNameOfWhole_keyiter ty (wpAny_pure ?_)) | refine wpAny_bind (wpAny_typeNameOf_keyiter ty (wpAny_pure ?_))
 refine (?_:wpAny (model P w) _ (setField (.ref it) 0 .none >>= _) _ _ s)
 refine wpAny_bind (wpAny_setField ho hd (by simp) ?_)
 refine (?_:wpAny (model P w) _ (newExc (.type "StopIteration") [] >>= _) _ _ _)
 refine wpAny_bind ?_
 simp only [newExc,newTuple]
 refine wpAny_bind (wpAny_newObj_type ?_ (by size_fits))
 refine wpAny_bind (m:=firstArgMember _ _) (wpAny_of_eq (a:=Value.none)
  (by first | rfl | (simp only [firstArgMember];rfl)) ?_)
 refine wpAny_newObj_type ?_ (by size_fits)
 simp only [raiseNew]
 refine wpAny_bind (wpAny_handled ?_)
 rw [show A.in1.handled=none from hh]
 refine wpAny_bind (wpAny_pure (wpAny_throw ?_))
 refine wpAny_bind (wpAny_isInstance (T:="StopIteration") (b:=true)
  ⟨_,Heap.get?_push_size _ rfl,rfl⟩ isSubtype_stop ?_)
 exact wpAny_pure (q _ (((Heap.SameBut.update ..).extBut.push _).push _))
theorem Ci (hh:A.handled=none) (ne:d≠it):Walks P w A it [it,d] [it] es.size (fun j v=>(es[j]?.map fun e=>e.key)=some v) (fun j h=>h.IsKeyIter it d j es.size ep/\kQ h d es ep) where
 sub:=fun b hb=>by simp at hb;simp [hb]
 frame:=fun _ _ _ st hk=>⟨st.1.at fun o e=>hk it (by simp) o e,st.2.on fun o e=>hk d (by simp) o e⟩
 item:=fun j s Q E hj st hQ=>Gj st.1 st.2 hj fun h' k1 k2=>by
  refine hQ _ h' s.toks (by rw [Array.getElem?_eq_getElem hj];rfl) ⟨k1,st.2.on fun o e=>k2.extBut d o ne e⟩ fun b o hb e=>?_
  exact k2.extBut b o (fun z=>hb (by simp [z])) e
 done:=fun s Q E st hQ=>Kx hh st.1 st.2 (Nat.le_refl _) fun h' k=>by
  refine hQ h' s.toks fun b o hb e=>?_
  exact k b o (fun z=>hb (by simp [z])) e
 self:=fun _ _ _ _ st hQ=>wpAny_pyIter_keyiter st.1 hQ
theorem Kw (lo:(d == sysModules)=false):KdlSrc P w "dict" d d es.size (fun j v=>(es[j]?.map fun e=>e.key)=some v) (fun h=>kQ h d es ep) where
 type:=fun _ r=>r.ty
 there:=fun _ ⟨_,e,_⟩=>⟨Heap.lt_size e,Heap.lt_size e⟩
 keep:=fun _ _ r hk=>r.on fun o e=>hk d (.inl rfl) o e
 notList:=by decide
 notTuple:=by decide
 hint:=fun _ _ _ _ r hq=>kdl_hint_dict r.ty hq
 iter:=fun _ s hh r=>⟨_,_,(fun _ _ hq=>Gi lo r hq),Ci hh (by obtain ⟨_,e,_⟩:=r;exact Nat.ne_of_lt (Heap.lt_size e)),⟨⟨_,Heap.get?_push_size _ rfl,rfl,rfl⟩,r.on fun o e=>Heap.get?_push_of_some _ e⟩⟩
end
end L2
end
section
namespace L2
open PySem PySem.Spec PySem.W PyProof.Rows Builtin
def aG (H:Hp) (bs:List Addr) (ts:List (List Int)):Prop:=bs.length=ts.length/\∀(i:Nat) b t,bs[i]? = some b->ts[i]? = some t->H b=some (.tup (List.map V.int t))
def Gu (x:V) (H:Hp) (Q:VK):Prop:=∃d,x=.ref d/\∃aE ss,H d=some (.dT aE)/\aE.map (·.1)=ss.map (List.map Sum.inl)/\ss.length < 100000/\
 ∀D H' bs ts,bU H H'->H D=none->H' D=some (.lst (List.map V.ref bs))->aG H' bs ts->ts.Perm ss->ts.Pairwise (fun a b=>bL a b=true)->Q (.ref D) H'
def pO (te:TE):TE:=fun σ H Q=>te σ H fun x H1=>Gu x H1 Q
theorem jH (ns:List Int):List.map kV (List.map Sum.inl ns)=List.map V.int ns:=by rw [List.map_map];rfl
theorem R8 {ss:List (List Int)} {p:Array Nat} (hp:vq p ss.length) (O:Ord (setB ss) ss.length) (a:Ef (setB ss) p ss.length) (h0:0 < ss.length):(p.toList.map fun i=>ss.getD i []).Pairwise fun x y=>bL x y=true:=by
 rw [List.pairwise_map,List.pairwise_iff_getElem]
 intro i j hi hj Mt
 have hs:=hp.size
 rw [Array.length_toList] at hi hj
 have:=Ef.lt O hp h0 a (Nat.le_refl _) Mt (by lia)
 have e:∀k (hk:k < p.size),tW p k=p.toList[k]'(by simpa using hk):=fun k hk=>by
  unfold tW
  rw [Array.getD_eq_getD_getElem?,Array.getElem?_eq_getElem hk]
  simp
 rw [e i hi,e j hj] at this
 exact this
theorem La {α:Type} {l:List α} {p:Array Nat} {d:α} (hp:vq p l.length):(p.toList.map fun i=>l.getD i d).Perm l:=by
 have h1:p.toList.Perm (List.range l.length):=by simpa using Array.perm_iff_toList_perm.mp hp.perm
 have h2:=h1.map fun i=>l.getD i d
 have e:(List.range l.length).map (fun i=>l.getD i d)=l:=by
  apply List.ext_getElem?
  intro i
  rw [List.getElem?_map]
  by_cases hi:i < l.length
  ·rw [List.getElem?_range hi,List.getElem?_eq_getElem hi]
   simp [List.getD_eq_getElem?_getD,List.getElem?_eq_getElem hi]
  ·rw [List.getElem?_eq_none (by simpa using hi),List.getElem?_eq_none (by lia)]
   rfl
 rwa [e] at h2
theorem m7 {α β:Type} {f:α->β}:∀{l:List α},(l.map f).Nodup->l.Nodup
 | [],_=>List.nodup_nil
 | a::l,h=>by
  rw [List.map_cons,List.nodup_cons] at h
  exact List.nodup_cons.mpr ⟨fun z=>h.1 (List.mem_map_of_mem z),m7 h.2⟩
theorem sM {α β:Type} {F:α->β->Prop}:∀{l:List α} {m:List β},Paired F l m->∀{i:Nat} {b:β},m[i]? = some b->∃a,l[i]? = some a/\F a b
 | _,_,.nil,i,b,h=>by simp at h
 | _,_,.cons (a:=a) r rs,i,b,h=>by
  cases i with
  | zero=>cases h;exact ⟨a,rfl,r⟩
  | succ n=>exact sM rs (i:=n) h
section
variable {X:Cx} {k:Nat} {f:Addr} {fd:FuncData} {pm g:Str} {e:Expr} {te:TE} {p kp kpos pos:Pos}
theorem G' (hg:Gl X g) (hm:X.mg g=some (.ref f)) (n5:(g == ("__debug__" : Str))=false):PE X (.Name g kp) (tC (.ref f)):=fun pins s σ H Q I h=>kg I hg hm ⟨.ref f,H,I,rfl,h⟩ n5
theorem G8 (F:bO X.prog X.w X.K X.mg X.base eL k f fd [pm] rZ) (hr:bW (k+2) X.A) (hg:Gl X "sorted") (hm:X.mg "sorted" = none) (hv:bootBuiltins "sorted" = some (.builtin "sorted")) (hgf:Gl X g) (hmf:X.mg g=some (.ref f)) (hb:Binds X.K fd [pm] []) (ha:PE X e te)
  (n5:(g == ("__debug__" : Str))=false:=by decide) (he:starEach [e] X.env=[(false,eval e X.env)]:=by rfl) :
  PE X (.Call (.Name "sorted" p) [e] [⟨some "key",.Name g kp,kpos⟩] pos) (pO te):=by
 intro pins s σ H Q I h
 refine wpAny_Call_Name_kw (nW I hg hm hv ?_)
 refine callWith_kw (cy ((pB ha yd he) pos pins s σ H (fun vs H1=>match vs with | [x]=>Gu x H1 Q | _=>False) I h) fun us s1 ⟨vs,H1,I1,r1,q1⟩=>?_) (by rw [he];rfl) (by rw [he];rfl)
 match vs,r1,q1 with
 | [x],r1,q1=>
  obtain ⟨u,rfl,ru⟩:=vals1 r1
  refine cy ((Ld (nm:=some (Str.ofString "key")) (kpos:=kpos) (G' (kp:=kp) hgf hmf n5) Qm) pos pins s1 σ H1 (fun zs H2=>zs=[.ref f]/\H2=H1) I1 ⟨rfl,rfl⟩) fun ws s2 ⟨zs,H2,I2,r2,ez,eh⟩=>?_
  subst ez eh
  obtain ⟨u2,rfl,ru2⟩:=vals1 r2
  cases ru2
  obtain ⟨d,rfl,aE,ss,hd,ek,l64,q⟩:=q1
  cases ru
  obtain ⟨zl,lo,xs,pr,o,es,ep,ho,hx,Mw,hes,nd⟩:=I2.bh d _ hd
  have lx:aE.length=xs.length:=pr.length
  have lk:aE.length=ss.length:=by have:=congrArg List.length ek;simpa using this
  have at':∀(i:Nat) x,xs[i]? = some x->∃kv,aE[i]? = some kv/\kv.1=x.1/\H2 x.2.1=some (.tup (kv.1.map kV)):=fun i x hx=>by
   obtain ⟨kv,e1,e2⟩:=sM pr hx
   exact ⟨kv,e1,e2.1,e2.2.1⟩
  have sets:∀(i:Nat) a ns,(xs.map (·.2.1))[i]? = some a->ss[i]? = some ns->H2 a=some (.tup (List.map V.int ns)):=fun i a ns ha J2=>by
   rw [List.getElem?_map] at ha
   cases ex:xs[i]? with
   | none=>rw [ex] at ha;cases ha
   | some x=>
    rw [ex] at ha
    cases ha
    obtain ⟨kv,e1,_,e3⟩:=at' i x ex
    have:(aE.map (·.1))[i]? = some (ns.map Sum.inl):=by rw [ek,List.getElem?_map,J2];rfl
    rw [List.getElem?_map,e1] at this
    have e4:kv.1=ns.map Sum.inl:=Option.some.inj this
    rw [e4,jH] at e3
    exact e3
  have nds:ss.Nodup:=by
   have e5:xs.map (·.1)=ss.map (List.map Sum.inl):=by
    rw [<-ek]
    apply List.ext_getElem?
    intro i
    rw [List.getElem?_map,List.getElem?_map]
    cases ex:xs[i]? with
    | none=>rw [List.getElem?_eq_none (by have:=List.getElem?_eq_none_iff.mp ex;lia)];rfl
    | some x=>obtain ⟨kv,e1,e2,_⟩:=at' i x ex;rw [e1];exact congrArg some e2.symm
   rw [e5] at nd
   exact m7 nd
  have lss:(xs.map (·.2.1)).length=ss.length:=by rw [List.length_map];lia
  refine xU (as:=xs.map (·.2.1)) (ss:=ss) I2 F hr.in1.in1 hb lss (by lia) nds sets (fun Q' hQ'=>?_) fun D H' p sm hD hp ha hl=>?_
  ·refine xl (A:=X.A.in1) (Kw (es:=es) (ep:=ep) lo) hr.hd ⟨o,ho,hx,Mw⟩ (by rw [show es.size=aE.length by rw [<-Array.length_toList,hes,List.length_map];lia];exact zl) fun s' vs k1 k2 k3 k4 k5 k6=>?_
   have e6:vs=(xs.map (·.2.1)).map Value.ref:=by
    apply List.ext_getElem?
    intro i
    cases ev:vs[i]? with
    | none=>
     have:=List.getElem?_eq_none_iff.mp ev
     rw [List.getElem?_eq_none]
     rw [List.length_map,List.length_map]
     have:es.size=xs.length:=by rw [<-Array.length_toList,hes,List.length_map]
     lia
    | some v=>
     have h1:=k6 i v ev
     rw [<-Array.getElem?_toList,hes,List.getElem?_map] at h1
     rw [List.getElem?_map,List.getElem?_map]
     cases ex:xs[i]? with
     | none=>rw [ex] at h1;cases h1
     | some x=>rw [ex] at h1;exact h1.symm
   rw [e6] at *
   exact hQ' s' k1 k2 k3 k4
  ·have Xf:vq p ss.length:=by rw [<-lss];exact hp
   have haS:Ef (setB ss) p ss.length:=by rw [<-lss];exact ha
   refine q D H' (p.toList.map fun i=>(xs.map (·.2.1)).getD i 0) (p.toList.map fun i=>ss.getD i []) sm hD hl ⟨by simp,fun i b t hb ht=>?_⟩ (La Xf) ?_
   ·rw [List.getElem?_map] at hb ht
    cases ei:p.toList[i]? with
    | none=>rw [ei] at hb;cases hb
    | some j=>
     rw [ei] at hb ht
     have hj:j < ss.length:=by
      have:=(Xf.perm.mem_iff (a:=j)).mp (by simpa using List.mem_of_getElem? ei)
      simpa using this
     have Vv:(xs.map (·.2.1)).getD j 0=b:=Option.some.inj hb
     have Rg:ss.getD j []=t:=Option.some.inj ht
     refine sm _ _ (sets j b t ?_ ?_)
     ·rw [<-Vv,List.getD_eq_getElem?_getD,List.getElem?_eq_getElem (by lia)];rfl
     ·rw [<-Rg,List.getD_eq_getElem?_getD,List.getElem?_eq_getElem hj];rfl
   ·by_cases h0:0 < ss.length
    ·exact R8 Xf (sf nds) haS h0
    ·have:p.toList=[]:=by
      have:=Xf.size
      exact List.eq_nil_of_length_eq_zero (by rw [Array.length_toList];lia)
     rw [this]
     exact List.Pairwise.nil
end
end L2
end
section
namespace L2
open PySem PySem.Spec PySem.W PyProof.Rows Builtin
section
variable {X:Cx}
def WD (i j:Int):Prop:=0 < j/\j < 2 ^ 300
theorem Hj:kR X (binaryOp .FloorDiv) (rI WD fun i j=>.int (i / j)):=W3 fun i j _ _ _ _ _ hc q=>by
 have h1:(0:Int) < j:=hc.1
 have h2:j < 2 ^ 300:=hc.2
 refine floordiv_int (by omega) (by rw [Int.fdiv_eq_ediv_of_nonneg i (by omega)];exact q) (.inl (PyProof.noPylong_of_log2 ?_))
 have h3:j.natAbs < 2 ^ 300:=by omega
 have h4:j.natAbs≠0:=by omega
 have:=(Nat.log2_lt h4).mpr h3
 omega
def zR:List V->Hp->VK->Prop:=fun vs H Q=>∃a,vs=[.ref a]/\∃bs:List Bool,H a=some (.lst (bs.map V.bl))/\Q (.bl (bs.any id)) H
theorem DS:∀{bs:List Bool} {us:List Value},Vals (bs.map V.bl) us->∀(i:Nat) (v:Value),us[i]? = some v->v=.bool (bs.getD i false):=by
 intro bs
 induction bs with
 | nil=>intro us r i v h;cases r;cases i <;> cases h
 | cons b bs ih=>
  intro us r i v h
  rw [List.map_cons] at r
  cases r with
  | cons r1 r2=>
   cases r1
   cases i with
   | zero=>cases h;rfl
   | succ i=>exact ih r2 i v (by simpa using h)
theorem any_range:∀(bs:List Bool),((List.range bs.length).any fun i=>bs.getD i false)=bs.any id
 | []=>rfl
 | b::bs=>by
  rw [List.length_cons,List.range_succ_eq_map,List.any_cons,List.any_map,List.any_cons,<-any_range bs]
  rfl
theorem tP (hh:X.A.handled=none):dA X (.builtin "any") zR:=by
 intro pins s σ H vs us Q I rv h
 obtain ⟨a,rfl,bs,hq,q⟩:=h
 obtain ⟨u,rfl,ru⟩:=vals1 rv
 cases ru
 obtain ⟨its,r,pl,hz⟩:=I.list (bC hq)
 have hl:=r.length
 rw [List.length_map] at hl
 have lt:a < s.heap.objs.size:=let ⟨_,e,_⟩:=pl.isList;Heap.lt_size e
 refine call_any_walk (wpAny_pyIter_list pl.isList ⟨s.heap.objs.size,_,_,its.toArray.size,_,_,fun i=>bs.getD i false,rfl,Walks.list (A:=X.A.in1) hh _ a (Nat.ne_of_lt lt) its.toArray,⟨⟨_,Heap.get?_push_size _ rfl,rfl,rfl⟩,(pl.isList).push _⟩,?_,fun h' tk mv=>?_⟩)
 ·intro i v s1 Q1 E1 hv hq1
  have:v=.bool (bs.getD i false):=DS r i v (by simpa using hv)
  subst this
  exact wpAny_pure hq1
 ·rw [List.size_toArray,<-hl,any_range]
  have k:∀b o,s.heap.get? b=some o->h'.get? b=some o:=fun b o e=>mv b o (fun z=>absurd (Heap.lt_size e) (by rw [List.mem_singleton.mp z];exact Nat.lt_irrefl _)) (Heap.get?_push_of_some _ e)
  exact ⟨.bl (bs.any id),H,I.un (t':=tk) (Un.kept k) (I.bh.kept k),rfl,q⟩
variable {k:Nat} {f:Addr} {fd:FuncData} {pm g:Str} {e:Expr} {te:TE} {p kp kpos pos:Pos}
theorem Bs (F:bO X.prog X.w X.K X.mg X.base eL k f fd [pm] rZ) (hr:bW (k+2) X.A) (hg:Gl X "sorted") (hm:X.mg "sorted" = none) (hv:bootBuiltins "sorted" = some (.builtin "sorted")) (hgf:Gl X g) (hmf:X.mg g=some (.ref f)) (hb:Binds X.K fd [pm] []) (ha:ZE X e te)
  (n5:(g == ("__debug__" : Str))=false:=by decide) (he:starEach [e] X.env=[(false,eval e X.env)]:=by rfl) :
  ZE X (.Call (.Name "sorted" p) [e] [⟨some "key",.Name g kp,kpos⟩] pos) (pO te):=⟨G8 F hr hg hm hv hgf hmf hb ha.to n5 he⟩
def uz:V->List V->Hp->VK->Prop:=fun x vs H Q=>∃l i y,x=.ref l/\vs=[.int i,y]/\∃xs,H l=some (.lst xs)/\0<=i/\i<=xs.length/\xs.length < 100000/\Q .non (upd H l (.lst (xs.take i.toNat++y::xs.drop i.toNat)))
end
end L2
namespace L2
open PySem PySem.Spec PySem.W PyProof.Rows Builtin
theorem rJ {X:Cx} {pos:Pos}:ZE X (.Dict [] [] pos) pP:=⟨Ha⟩
end L2
end
section
namespace L2
open PySem PySem.Spec PyProof.Rows
def Sf (K:PySem.W.Frag) (a:Addr) (n:Nat):It:=
 ⟨fun i H=>i < n/\∃xs,mG K H a xs/\xs.length=n,fun i H x H'=>H'=H/\∀xs,mG K H a xs->xs[n - 1 - i]? = some x,fun i _=>i=n⟩
theorem Fe {P:Program} {w:World} {K:PySem.W.Frag} {tg:Expr} (a it:Addr) (n:Nat):Turn P w K tg (Sf K a n) [it] it (fun i h=>i<=n/\h.IsRevIter it a ((n:Int) - 1 - (i:Int))) where
 mem:=by simp
 obj:=fun i h st b hb=>by
  have e:b=it:=by simpa using hb
  subst e
  obtain ⟨_,o,e,c,d⟩:=st
  exact ⟨o,e,fun v z=>by rw [d] at z;cases z⟩
 keep:=fun i h h' st k=>⟨st.1,st.2.at fun o e=>k it (by simp) o e⟩
 item:=by
  intro X hP hw hK hc i pins s σ H E I hf st hg
  subst hP hw hK
  obtain ⟨hi,xs,hq,hn⟩:=hg
  obtain ⟨its,rv,p,hz⟩:=I.list hq
  have hx:xs[n - 1 - i]? = some (xs[n - 1 - i]'(by lia)):=List.getElem?_eq_getElem (by lia)
  obtain ⟨u,hu,ru⟩:=rv.get hx
  obtain ⟨f0,f1,f2,f3,f4,f5⟩:=hf it (by simp)
  have e1:(n:Int) - 1 - (i:Int)=((n - 1 - i:Nat):Int):=by lia
  have NX:=st.2
  rw [e1] at NX
  refine wpAny_pyNext_rev_item NX p.isList (x:=u) (by simpa using hu) fun h' bf sb=>?_
  have I1:Inv X pins σ H { s with heap:=h' }:=I.turned (t':=s.toks) (fun b o hb e=>(sb.2 b hb).trans e) f0 f1 f3 f4 f5
  obtain ⟨o,e,c,d⟩:=id bf
  have e2:((n - 1 - i:Nat):Int) - 1=(n:Int) - 1 - ((i+1:Nat):Int):=by lia
  rw [e2] at bf
  exact ⟨u,rfl,Am (s:={ s with heap:=h' }) e c d (by decide) ⟨_,H,I1,ru,⟨rfl,fun ys hy=>by rw [I.wA hy hq];exact hx⟩,⟨hi,bf⟩,fun b hb=>(hf b hb).1⟩⟩
 done:=by
  intro X hP hw hK hc i pins s σ H E I hf st hg
  subst hP hw hK
  obtain ⟨f0,f1,f2,f3,f4,f5⟩:=hf it (by simp)
  have hg':i=n:=hg
  have NX:=st.2
  rw [hg',show (n:Int) - 1 - (n:Int) = -1 by lia] at NX
  exact wpAny_pyNext_rev_end (I.ok.hd hc) NX fun h' eb=>⟨rfl,I.turned (t':=s.toks) (fun b o hb e=>eb b o hb e) f0 f1 f3 f4 f5⟩
 self:=fun _ _ _ _ _ st h=>wpAny_pyIter_revIter st.2 h
section
variable {X:Cx} {tg:Expr}
theorem boot_reversed:bootBuiltins "reversed" = some (.type "reversed"):=by decide +kernel
def Ib (K:PySem.W.Frag) (ta:TA):TI:=fun σ H R=>ta σ H fun vs H1=>∃a,vs=[.ref a]/\∃xs,mG K H1 a xs/\R (Sf K a xs.length) H1
theorem Qo {a:Expr} {ta:TA} {p pos:Pos} (hg:Gl X "reversed") (hm:X.mg "reversed" = none) (ha:PA X [a] ta) (hs:starEach [a] X.env=[(false,eval a X.env)]:=by rfl):PI X tg (.Call (.Name "reversed" p) [a] [] pos) (Ib X.K ta):=by
 intro pins s σ H R I h
 refine Call_ (nW I hg hm boot_reversed (PyProof.Rows.callWith_type1 (cy (ha pos pins s σ H _ I h) fun us s1 ⟨vs,H1,I1,r1,q1⟩=>?_) hs rfl))
 obtain ⟨l,e,xs,hq,q⟩:=q1
 subst e
 cases r1 with
 | cons r rr=>
  cases rr
  cases r
  obtain ⟨its,rv,pl,hz⟩:=I1.list hq
  have hlen:=rv.length
  refine call_reversed_list pl.isList ?_
  have I2:Inv X pins σ H1 { s1 with heap:=s1.heap.push (revObj l ((its.toArray.size:Int) - 1)) }:=I1.kept (t':=s1.toks) fun b o e=>Heap.get?_push_of_some _ e
  have st:Heap.IsRevIter (s1.heap.push (revObj l ((its.toArray.size:Int) - 1))) s1.heap.objs.size l ((its.toArray.size:Int) - 1):=⟨_,Heap.get?_push_size _ rfl,rfl,rfl⟩
  refine wpAny_pyIter_revIter st ?_
  refine ⟨s1.heap.objs.size,[s1.heap.objs.size],_,_,H1,rfl,I2,Fe l _ xs.length,⟨Nat.zero_le _,?_⟩,fun b hb=>?_,q⟩
  ·have e:(xs.length:Int) - 1 - ((0:Nat):Int)=(its.toArray.size:Int) - 1:=by simp;lia
   show Heap.IsRevIter _ _ _ ((xs.length:Int) - 1 - ((0:Nat):Int))
   rw [e]
   exact st
  ·have e:b=s1.heap.objs.size:=by simpa using hb
   subst e
   exact I1.MN (Nat.le_refl _) (I1.bh.fresh (Nat.le_refl _))
theorem yS {K:PySem.W.Frag} {a:Addr} {xs:List V} {g:TG} {tb:TS} {D:Ends} {σ:St} {H:Hp} (Pv:Nat->St->Hp->Prop) (h0:Pv 0 σ H) (hl:∀i σ H,i<=xs.length->Pv i σ H->H a=some (.lst xs))
  (hs:∀i x σ H,xs.reverse[i]? = some x->Pv i σ H->g x σ H fun σ2 H2=>tb { D with nx:=Pv (i+1),ct:=Pv (i+1),bk:=D.nx } σ2 H2) (hd:∀σ H,Pv xs.length σ H->D.nx σ H):qK (Sf K a xs.length) g tb D σ H:=by
 refine ⟨fun i m σ H=>m=xs.length - i/\i<=xs.length/\Pv i σ H,⟨xs.length,by simp,Nat.zero_le _,h0⟩,?_⟩
 rintro i m σ H ⟨rfl,hi,p⟩
 have hL:=hl i σ H hi p
 by_cases gi:i < xs.length
 ·refine .inr ⟨⟨gi,xs,bC hL,rfl⟩,Pv (i+1),fun σ' H' p'=>⟨xs.length - (i+1),by lia,rfl,gi,p'⟩,fun x H' yl=>?_⟩
  obtain ⟨rfl,hx⟩:=yl
  refine hs i x σ _ ?_ p
  rw [List.getElem?_reverse gi]
  exact hx xs (bC hL)
 ·have e:i=xs.length:=by lia
  subst e
  exact .inl ⟨rfl,hd σ H p⟩
theorem J7 {a:Expr} {ta:TA} {p pos:Pos} (h1:Gl X (Str.ofString "reversed")) (h2:X.mg (Str.ofString "reversed")=none) (h3:ZA X [a] ta) (h4:starEach [a] X.env=[(false,eval a X.env)]:=by rfl):ZI X tg (.Call (.Name (Str.ofString "reversed") p) [a] [] pos) (Ib X.K ta):=⟨Qo h1 h2 h3.1 h4⟩
end
end L2
end
section
namespace L2
open PySem PySem.Spec PyProof.Rows
theorem JN {α:Type} [DecidableEq α] {cl dl:List α}:((List.range (min cl.length dl.length)).all (fun j=>decide (cl[j]? = dl[j]?)) && cl.length == dl.length)=decide (cl=dl):=by
 rw [Bool.eq_iff_iff,Bool.and_eq_true,List.all_eq_true,decide_eq_true_iff,beq_iff_eq]
 constructor
 ·rintro ⟨h,l⟩
  apply List.ext_getElem?
  intro i
  by_cases hi:i < cl.length
  ·exact of_decide_eq_true (h i (List.mem_range.mpr (by lia)))
  ·rw [List.getElem?_eq_none (by lia),List.getElem?_eq_none (by lia)]
 ·rintro rfl
  exact ⟨fun j _=>decide_eq_true rfl,rfl⟩
theorem qi:∀{x y:List Int},List.map V.int x=List.map V.int y->x=y
 | [],[],_=>rfl
 | [],_::_,h=>by cases h
 | _::_,[],h=>by cases h
 | a::x,b::y,h=>by
  rw [List.map_cons,List.map_cons] at h
  injection h with h1 h2
  rw [V.int.inj h1,qi h2]
section
variable {X:Cx} {pins:List (Addr×Obj)} {s:Shared} {σ:St} {H:Hp} {A:Around}
theorem u6 {x y:List Int} {us ws:List Value} (r1:Vals (List.map V.int x) us) (r2:Vals (List.map V.int y) ws) (j:Nat) (h1:j < us.toArray.size) (h2:j < ws.toArray.size) :
  SeqAt.EqAt A s us.toArray[j] ws.toArray[j] (decide (x[j]? = y[j]?)):=by
 have l1:=r1.length
 have l2:=r2.length
 rw [List.length_map] at l1 l2
 have j1:j < x.length:=by rw [l1];simpa using h1
 have j2:j < y.length:=by rw [l2];simpa using h2
 have e1:x[j]? = some x[j]:=List.getElem?_eq_getElem j1
 have e2:y[j]? = some y[j]:=List.getElem?_eq_getElem j2
 have h:=Jk (A:=A) (s:=s) (ph (x:=.int x[j]) r1 h1 (by rw [List.getElem?_map,e1];rfl)) (ph (x:=.int y[j]) r2 h2 (by rw [List.getElem?_map,e2];rfl)) rfl rfl
 have e3:Eo (.int x[j]) (.int y[j])=decide (x[j]? = y[j]?):=by
  rw [e1,e2,Bool.eq_iff_iff,decide_eq_true_iff,Option.some.injEq]
  show (x[j] == y[j])=true↔_
  rw [beq_iff_eq]
 rw [e3] at h
 exact h
theorem RX {p q:Addr} {x y:List Int} (I:Inv X pins σ H s) (hp:H p=some (.tup (List.map V.int x))) (hq:H q=some (.tup (List.map V.int y))) (hu:A.units < cLine):SeqAt.EqAt A s (.ref p) (.ref q) (decide (x=y)):=by
 by_cases e:p=q
 ·subst e
  have:x=y:=by
   have h:=hp.symm.trans hq
   simp only [Option.some.injEq,HO.tup.injEq] at h
   exact qi h
  rw [decide_eq_true this]
  exact SeqAt.EqAt.same _
 ·obtain ⟨us,r1,t1,_⟩:=I.tuple (bR hp)
  obtain ⟨ws,r2,t2,_⟩:=I.tuple (bR hq)
  have l1:=r1.length
  have l2:=r2.length
  rw [List.length_map] at l1 l2
  have h:=SeqAt.RcAt.tuples (A:=A) (e:=fun j=>decide (x[j]? = y[j]?)) t1 t2 hu fun j h1 h2=>u6 r1 r2 j h1 h2
  rw [List.size_toArray,List.size_toArray,<-l1,<-l2,JN] at h
  exact .of_refs e h
def GJ (neg:Bool):R2:=fun x y H Q=>∃a b,x=.ref a/\y=.ref b/\∃u v:List Int,H a=some (.tup (List.map V.int u))/\H b=some (.tup (List.map V.int v))/\Q (.bl (if neg then !decide (u=v) else decide (u=v))) H
def GK (neg:Bool):R2:=fun x y H Q=>∃a b,x=.ref a/\y=.ref b/\∃ps qs cl dl,H a=some (.lst (List.map V.ref ps))/\H b=some (.lst (List.map V.ref qs))/\aG H ps cl/\aG H qs dl/\Q (.bl (if neg then !decide (cl=dl) else decide (cl=dl))) H
end
end L2
end
section
namespace L2
open PySem PySem.Spec PyProof.Rows
section
variable {X:Cx} {pins:List (Addr×Obj)} {σ:St} {H:Hp} {s:Shared}
end
section
variable {X:Cx} {elt target iter:Expr} {ifs:List Expr} {scope:Scope} {pos:Pos} {cs xs:List Str} {idx:List Nat} {wi:TI} {g:CB->TG} {tt:CB->TT} {te:CB->TE}
end
section
variable {X:Cx} {N:List Str} {ib:Scope} {elt target iter:Expr} {ifs:List Expr} {scope:Scope} {pos:Pos} {wi:TI} {g:CB->TG} {tt:CB->TT} {te:CB->TE}
end
end L2
end
section
namespace L2
open PySem PySem.Spec PyProof.Rows
section
variable {prog:Program} {w:World} {A:Around} {E:Value->Shared->Prop} {s:Shared}
end
section
variable {X:Cx}
end
end L2
end
section
namespace L2
open PySem PySem.Spec PyProof.Rows
def Up (xs:Array Nat):Prop:=xs.toList.Pairwise (· < ·)
theorem Up.lt {xs:Array Nat} (u:Up xs) {i k:Nat} (h:i < k) (hk:k < xs.size):xs.getD i 0 < xs.getD k 0:=by
 have h1:i < xs.toList.length:=by rw [Array.length_toList];lia
 have h2:k < xs.toList.length:=by rw [Array.length_toList];lia
 have:=(List.pairwise_iff_getElem.mp u) i k h1 h2 h
 rw [Array.getElem_toList,Array.getElem_toList] at this
 rw [Array.getD_eq_getD_getElem?,Array.getD_eq_getD_getElem?,Array.getElem?_eq_getElem (by lia),Array.getElem?_eq_getElem hk]
 exact this
theorem Jc {xs:Array Nat} {i j:Nat} (h:i < xs.size):xs.getD i j=xs.getD i 0:=by
 rw [Array.getD_eq_getD_getElem?,Array.getD_eq_getD_getElem?,Array.getElem?_eq_getElem h];rfl
theorem qB {xs:Array Nat} {j:Nat} (u:Up xs):∀(f lo hi:Nat),hi - lo<=f->lo<=hi->hi<=xs.size->(∀i,i < lo->xs.getD i 0 < j)->(∀i,hi<=i->i < xs.size->j<=xs.getD i 0)->
  SetTable.below.go xs j f lo hi<=xs.size/\(∀i,i < SetTable.below.go xs j f lo hi->xs.getD i 0 < j)/\∀i,SetTable.below.go xs j f lo hi<=i->i < xs.size->j<=xs.getD i 0
 | 0,lo,hi,h0,h1,h2,a,b=>by
  have e:lo=hi:=by lia
  subst e
  exact ⟨h2,a,b⟩
 | f+1,lo,hi,h0,h1,h2,a,b=>by
  unfold SetTable.below.go
  by_cases c:lo < hi
  ·rw [if_pos c]
   dsimp only
   have hm:(lo+hi) / 2 < xs.size:=by lia
   rw [Jc hm]
   by_cases d:xs.getD ((lo+hi) / 2) 0 < j
   ·rw [if_pos d]
    refine qB u f _ _ (by lia) (by lia) h2 (fun i Iq=>?_) b
    by_cases e:i=(lo+hi) / 2
    ·rw [e];exact d
    ·have:=u.lt (i:=i) (k:=(lo+hi) / 2) (by lia) hm;lia
   ·rw [if_neg d]
    refine qB u f _ _ (by lia) (by lia) (by lia) a fun i Iq hz=>?_
    by_cases e:i=(lo+hi) / 2
    ·rw [e];lia
    ·have:=u.lt (i:=(lo+hi) / 2) (k:=i) (by lia) hz;lia
  ·rw [if_neg c]
   have e:lo=hi:=by lia
   subst e
   exact ⟨h2,a,b⟩
theorem mj {xs:Array Nat} (u:Up xs) (j:Nat):SetTable.below xs j<=xs.size/\(∀i,i < SetTable.below xs j->xs.getD i 0 < j)/\∀i,SetTable.below xs j<=i->i < xs.size->j<=xs.getD i 0:=
 qB u xs.size 0 xs.size (by lia) (Nat.zero_le _) (Nat.le_refl _) (fun i h=>absurd h (Nat.not_lt_zero _)) (fun i h1 h2=>absurd h2 (by lia))
def iP (xs:Array Nat) (i:Nat):Nat:=if i=0 then 0 else xs.getD (i - 1) 0+1
theorem below_at {xs:Array Nat} (u:Up xs) {i:Nat} (hi:i<=xs.size):SetTable.below xs (iP xs i)=i:=by
 obtain ⟨h0,h1,h2⟩:=mj u (iP xs i)
 generalize SetTable.below xs (iP xs i)=r at h0 h1 h2 ⊢
 unfold iP at h1 h2
 rcases Nat.lt_trichotomy r i with h | h | h
 ·have:=h2 (i - 1) (by lia) (by lia)
  rw [if_neg (by lia)] at this
  lia
 ·exact h
 ·have:=h1 i h
  by_cases e:i=0
  ·rw [if_pos e] at this;lia
  ·rw [if_neg e] at this
   have:=u.lt (i:=i - 1) (k:=i) (by lia) (by lia)
   lia
theorem DT {xs:Array Nat} (u:Up xs) {j:Nat} (h:j∈xs.toList):xs[SetTable.below xs j]? = some j:=by
 obtain ⟨k,hk,e⟩:=List.getElem_of_mem h
 rw [Array.length_toList] at hk
 rw [Array.getElem_toList] at e
 have ek:xs.getD k 0=j:=by rw [Array.getD_eq_getD_getElem?,Array.getElem?_eq_getElem hk];exact e
 obtain ⟨h0,h1,h2⟩:=mj u j
 have:SetTable.below xs j=k:=by
  generalize SetTable.below xs j=r at h0 h1 h2 ⊢
  rcases Nat.lt_trichotomy r k with h | h | h
  ·have a:=h2 r (Nat.le_refl _) (by lia)
   have b:=u.lt (i:=r) (k:=k) h hk
   lia
  ·exact h
  ·have:=h1 k h;lia
 rw [this,Array.getElem?_eq_getElem hk,e]
theorem rj {α:Type} (xs:Array α) (p:Nat) (x:α):(SetTable.insertAt xs p x).toList=xs.toList.take p++x::xs.toList.drop p:=by
 unfold SetTable.insertAt
 simp [Array.toList_extract,List.extract]
 exact List.take_of_length_le (by simp)
theorem By {xs:Array Nat} (u:Up xs) {j:Nat} (h:j∉xs.toList):Up (SetTable.insertAt xs (SetTable.below xs j) j):=by
 obtain ⟨h0,h1,h2⟩:=mj u j
 generalize SetTable.below xs j=r at h0 h1 h2 ⊢
 unfold Up
 rw [rj,List.pairwise_append]
 have lt:∀a∈xs.toList.take r,a < j:=fun a ha=>by
  obtain ⟨k,hk,e⟩:=List.getElem_of_mem ha
  rw [List.length_take,Array.length_toList] at hk
  rw [List.getElem_take,Array.getElem_toList] at e
  have:=h1 k (by lia)
  rw [Array.getD_eq_getD_getElem?,Array.getElem?_eq_getElem (by lia)] at this
  rw [<-e];exact this
 have gt:∀a∈xs.toList.drop r,j < a:=fun a ha=>by
  have hm:=List.mem_of_mem_drop ha
  obtain ⟨k,hk,e⟩:=List.getElem_of_mem ha
  rw [List.length_drop,Array.length_toList] at hk
  rw [List.getElem_drop,Array.getElem_toList] at e
  have:=h2 (r+k) (by lia) (by lia)
  rw [Array.getD_eq_getD_getElem?,Array.getElem?_eq_getElem (by lia)] at this
  have h3:j<=a:=by rw [<-e];exact this
  have h4:j≠a:=fun z=>h (by rw [z];exact hm)
  lia
 refine ⟨u.sublist (List.take_sublist _ _),List.pairwise_cons.mpr ⟨gt,u.sublist (List.drop_sublist _ _)⟩,fun a ha b hb=>?_⟩
 rcases List.mem_cons.mp hb with e | hb
 ·rw [e];exact lt a ha
 ·have:=lt a ha;have:=gt b hb;lia
theorem lL {t:SetTable} {hashAt:Nat->Int} {h:Int}:∀(f:Nat) (p:SetTable.Probe) (j:Nat) (d:Option Nat),(∀q,p.dummy=some q->t.slot q=.dummy)->SetTable.probe.go t hashAt h f p=some (.empty j d)->
  t.slot j=.empty/\∀q,d=some q->t.slot q=.dummy
 | 0,p,j,d,_,e=>by cases e
 | f+1,p,j,d,hd,e=>by
  unfold SetTable.probe.go at e
  have adv:∀p:SetTable.Probe,(t.advance p).dummy=p.dummy:=fun p=>by unfold SetTable.advance;split <;> rfl
  cases hs:t.slot p.j with
  | empty=>
   rw [hs] at e
   dsimp only at e
   cases e
   exact ⟨hs,hd⟩
  | dummy=>
   rw [hs] at e
   refine lL f _ j d (fun q hq=>?_) e
   rw [adv] at hq
   cases hq
   exact hs
  | live i=>
   rw [hs] at e
   dsimp only at e
   split at e
   ·cases e
   ·refine lL f _ j d (fun q hq=>?_) e
    rw [adv] at hq
    exact hd q hq
theorem yQ {t:SetTable} (u:Up t.place) {h:Int} {j:Nat} {b:Bool} (e:t.freeSlot h=some (j,b)):j∉t.place.toList:=by
 unfold SetTable.freeSlot at e
 have key:∀q,t.slot q=.empty\/t.slot q=.dummy->q∉t.place.toList:=fun q hq hm=>by
  have z:=DT u hm
  have sl:t.slot q=.live (SetTable.below t.place q):=by
   unfold SetTable.slot
   dsimp only
   rw [z];simp
  rw [sl] at hq
  rcases hq with h | h <;> cases h
 cases hp:t.probe (fun _=>h+1) h (t.probeStart h) with
 | none=>rw [hp] at e;cases e
 | some m=>
  rw [hp] at e
  cases m with
  | candidate j i n=>cases e
  | empty j0 d=>
   obtain ⟨a,c⟩:=lL _ _ _ _ (fun q hq=>by cases hq) hp
   dsimp only at e
   cases d with
   | none=>cases e;exact key _ (.inl a)
   | some q=>cases e;exact key _ (.inr (c q rfl))
theorem mP (n:Nat):Up (Array.range n):=by
 unfold Up
 rw [Array.toList_range]
 exact List.pairwise_lt_range
theorem QV {t:SetTable} (u:Up t.place) (es:Array (Int×Value)) (h:Int) (x:Value):Up (layNew t es h x).2.1.place:=by
 unfold layNew
 split
 ·rename_i slot Tb q
  dsimp only
  unfold SetTable.orStandIn
  split
  ·exact By u (yQ u q)
  ·exact mP _
 ·exact mP _
theorem L5 {mask finger moves:Nat} {led plain:Bool} {hs:Array Int} {t':SetTable} {o:Array Nat} (h:SetTable.laid mask finger moves led plain hs=some (t',o)):Up t'.place:=by
 unfold SetTable.laid at h
 cases q:SetTable.layClean mask hs with
 | none=>rw [q] at h;cases h
 | some owner=>
  rw [q] at h
  cases h
  unfold Up
  rw [List.toList_toArray,List.pairwise_map,List.pairwise_filterMap]
  refine List.pairwise_lt_range.imp fun {a b} Xn c hc d hd=>?_
  cases ha:owner.getD a none with
  | none=>rw [ha] at hc;cases hc
  | some k=>
   cases hb:owner.getD b none with
   | none=>rw [hb] at hd;cases hd
   | some k'=>
    rw [ha] at hc;rw [hb] at hd
    cases hc;cases hd
    exact Xn
theorem Gg {t:SetTable} (es:Array (Int×Value)) (k:Nat):Up (relayAll t es k).2.1.place:=by
 unfold relayAll
 split
 ·rename_i t' o q
  dsimp only
  split
  ·exact L5 q
  ·exact mP _
 ·exact mP _
end L2
end
section
namespace L2
open PySem PySem.Spec PyProof.Rows
def rB (p:Int×Tok):Int×Value:=(hashInt p.1,.int p.1 p.2)
structure iG (w:World) (h:Heap) (a:Addr) (l:List (Int×Tok)):Prop where
 ex:∃es ep t,h.get? a=some (dm es ep t)/\es.toList=l.map (rB)/\t.fits es.size=true/\t.led = !ow w/\Up t.place
 nd:(l.map (·.1)).Nodup
 sz:l.length < scanBound
theorem iG.at {w:World} {h h':Heap} {a:Addr} {l:List (Int×Tok)} (x:iG w h a l) (k:∀o,h.get? a=some o->h'.get? a=some o):iG w h' a l:=
 ⟨let ⟨es,ep,t,e,r⟩:=x.ex;⟨es,ep,t,k _ e,r⟩,x.nd,x.sz⟩
section
variable {P:Program} {w:World} {A:Around} {E:Value->Shared->Prop} {s:Shared} {a:Addr} {l:List (Int×Tok)}
theorem Dw (l:List (Int×Tok)):ElemsOf (intKind P w) (l.map (rB)):=by
 intro e he
 obtain ⟨p,_,rfl⟩:=List.mem_map.mp he
 exact ⟨⟨p.1,intKind_is P w _ _,rfl⟩,rfl⟩
theorem Dq (x:Int):∀l:List (Int×Tok),(∀j,(l.map (rB)).findIdx? (fun e=>(intKind P w).is x e.2)=some j->x∈l.map (·.1))/\((l.map (rB)).findIdx? (fun e=>(intKind P w).is x e.2)=none->x∉l.map (·.1)):=by
 intro l
 refine ⟨fun j h=>?_,fun h hm=>?_⟩
 ·obtain ⟨hj,hp,_⟩:=List.findIdx?_eq_some_iff_getElem.mp h
  rw [List.getElem_map] at hp
  rw [List.length_map] at hj
  have:(l[j]).1=x:=(intKind P w).inj _ _ _ (intKind_is P w _ _) hp
  exact List.mem_map.mpr ⟨l[j],List.getElem_mem hj,this⟩
 ·obtain ⟨p,hp,rfl⟩:=List.mem_map.mp hm
  have:=List.findIdx?_eq_none_iff.mp h (rB p) (List.mem_map_of_mem hp)
  rw [show (intKind P w).is p.1 (rB p).2=true from intKind_is P w _ _] at this
  cases this
theorem sJ {es':List (Int×Value)} {l:List (Int×Tok)} (p:es'.Perm (l.map (rB))):∃l':List (Int×Tok),es'=l'.map (rB)/\l'.Perm l:=by
 let back:Int×Value->Int×Tok:=fun e=>match e.2 with | .int x t=>(x,t) | _=>(default,0)
 have hb:∀q:Int×Tok,back (rB q)=q:=fun q=>rfl
 refine ⟨es'.map back,?_,?_⟩
 ·rw [List.map_map]
  conv=>lhs;rw [<-List.map_id es']
  refine List.map_congr_left fun e he=>?_
  obtain ⟨q,_,rfl⟩:=List.mem_map.mp (p.mem_iff.mp he)
  rfl
 ·have:=p.map back
  rw [List.map_map,show (back ∘ rB)=id from funext hb,List.map_id] at this
  exact this
theorem add_int {x:Int} {tk:Tok} {Q:Bool->Shared->Prop} (S:iG w s.heap a l) (room:l.length+1 < scanBound)
  (q:∀h' l' b,Heap.SameBut a s.heap h'->iG w h' a l'->(∀z,z∈l'.map (·.1)↔z∈l.map (·.1)\/z=x)->l'.length<=l.length+1->Q b { s with heap:=h' }) :
  wpAny (model P w) A (setAddHashed a (.int x tk) (hashInt x)) Q E s:=by
 obtain ⟨⟨es,ep,t,ho,Ov,hf,Im,iw⟩,nd,sz⟩:=S
 have hsz:es.size=l.length:=by rw [<-Array.length_toList,Ov,List.length_map]
 have hE:ElemsOf (intKind P w) es.toList:=by rw [Ov];exact Dw l
 have hk:(intKind P w).is x (.int x tk)=true:=intKind_is P w _ _
 have hd:(dm es ep t).data=.set es ep t:=rfl
 unfold setAddHashed setAddHashedIn
 refine wpAny_holding (wpAny_bind (wpAny_setState_of ho hd hf ?_))
 dsimp only
 rw [byScan_of (knd:=intKind P w) rfl (by rw [hsz];exact sz) hE]
 simp only [↓reduceIte]
 unfold setAddByScan
 refine wpAny_bind (wpAny_bind (wpAny_rule (wpAny_bind (wpAny_setScan_of (knd:=intKind P w) hk ho hd hf hE ?_))))
 have hfi:=Dq (P:=P) (w:=w) x l
 rw [<-Ov] at hfi
 cases hr:List.findIdx? (fun e=>(intKind P w).is x e.2) es.toList with
 | some j=>
  dsimp only
  have hm:=hfi.1 j hr
  refine wpAny_pure (wpAny_pure ?_)
  have e:s={ s with heap:=s.heap }:=by cases s;rfl
  rw [e]
  exact q s.heap l false (Heap.SameBut.refl a s.heap) ⟨⟨es,ep,t,ho,Ov,hf,Im,iw⟩,nd,sz⟩ (fun z=>⟨.inl,fun h=>h.elim id fun e=>e ▸ hm⟩) (Nat.le_succ _)
 | none=>
  have hm:=hfi.2 hr
  dsimp only
  have pp:=layNew_perm t es (hashInt x) (.int x tk)
  have pf:=layNew_fits t es (hashInt x) (.int x tk)
  have pl:=LW t es (hashInt x) (.int x tk)
  have pq:=QV iw es (hashInt x) (.int x tk)
  generalize hL:layNew t es (hashInt x) (.int x tk)=L at pp pf pl pq ⊢
  obtain ⟨mF,t1,Tb,gave⟩:=L
  dsimp only at pp pf pl pq ⊢
  rw [Array.toList_push,Ov] at pp
  obtain ⟨l1,e1,p1⟩:=sJ (l:=l++[(x,tk)]) (es':=mF.toList) (by rw [List.map_append];exact pp)
  have Uy:l1.length=l.length+1:=by rw [p1.length_eq,List.length_append];rfl
  have Z5:(l1.map (·.1)).Nodup:=by
   rw [(p1.map (·.1)).nodup_iff,List.map_append,List.nodup_append]
   refine ⟨nd,by simp,fun u hu v hv=>?_⟩
   rw [List.map_cons,List.map_nil,List.mem_singleton] at hv
   rintro rfl
   rw [hv] at hu
   exact hm hu
  have Uv:∀z,z∈l1.map (·.1)↔z∈l.map (·.1)\/z=x:=fun z=>by
   rw [(p1.map (·.1)).mem_iff,List.map_append,List.mem_append];simp
  have aAx:mF.size=l.length+1:=by rw [<-Array.length_toList,e1,List.length_map,Uy]
  have gw:∀(b:Bool) {s₁:Shared} {Q':Unit->Shared->Prop},Q' () s₁->wpAny (model P w) A (match b with | true=>rule "set.scan.the-table-gave-way" | false=>pure ()) Q' E s₁:=
   fun b s₁ Q' hq=>by cases b <;> first | exact wpAny_pure hq | exact wpAny_rule hq
  refine wpAny_bind (gw _ ?_)
  have fin:∀t2:SetTable,t2.fits mF.size=true->t2.led=t.led->Up t2.place->
    wpAny (model P w) A (do
     storeSet a mF t2
     if (!Tb && t2.tooFull)=true then do
      (match (relayAll t2 mF (SetTable.grown mF.size)).2.2 with | true=>rule "set.scan.the-table-gave-way" | false=>pure ())
      storeSet a (relayAll t2 mF (SetTable.grown mF.size)).1 (relayAll t2 mF (SetTable.grown mF.size)).2.1
      pure (some true)
     else pure (some true)) (fun r s'=>∃b,r=some b/\Q b s') E s:=by
   intro t2 f2 l2 p2
   refine wpAny_bind (wpAny_storeSet_of ho hd ?_ (by rw [aAx];exact fits_of_scanBound room))
   have g1:(s.heap.update a (Obj.putSet mF t2)).get? a=some (dm mF (ep+1) t2):=by
    have:=Heap.get?_update_self (Obj.putSet mF t2) ho (by rw [putSet_of mF t2 hd];rfl)
    rw [putSet_of mF t2 hd] at this;exact this
   have sb:=Heap.SameBut.update s.heap a (Obj.putSet mF t2)
   split
   ·have rp:=relayAll_perm t2 mF (SetTable.grown mF.size)
    have rf:=relayAll_fits t2 mF (SetTable.grown mF.size)
    have rl:=Cg t2 mF (SetTable.grown mF.size)
    have rq:=Gg (t:=t2) mF (SetTable.grown mF.size)
    generalize hR:relayAll t2 mF (SetTable.grown mF.size)=R at rp rf rl rq ⊢
    obtain ⟨RW,t3,aBC⟩:=R
    dsimp only at rp rf rl rq ⊢
    rw [e1] at rp
    obtain ⟨HR,e2,Zd⟩:=sJ rp
    have Ux:HR.length=l.length+1:=by rw [Zd.length_eq,Uy]
    have aAw:RW.size=l.length+1:=by rw [<-Array.length_toList,e2,List.length_map,Ux]
    refine wpAny_bind (gw _ ?_)
    refine wpAny_bind (wpAny_storeSet_of g1 rfl ?_ (by rw [aAw];exact fits_of_scanBound room))
    have g2:((s.heap.update a (Obj.putSet mF t2)).update a (Obj.putSet RW t3)).get? a=some (dm RW (ep+1+1) t3):=by
     have:=Heap.get?_update_self (Obj.putSet RW t3) g1 (by rw [putSet_of RW t3 (show (dm mF (ep+1) t2).data=_ from rfl)];rfl)
     rw [putSet_of RW t3 (show (dm mF (ep+1) t2).data=_ from rfl)] at this;exact this
    refine wpAny_pure ⟨true,rfl,q _ HR true (sb.trans (Heap.SameBut.update _ a _)) ⟨⟨RW,_,t3,g2,e2,rf,by rw [rl,l2,Im],rq⟩,by rw [(Zd.map (·.1)).nodup_iff];exact Z5,by lia⟩ (fun z=>by rw [(Zd.map (·.1)).mem_iff];exact Uv z) (by lia)⟩
   ·exact wpAny_pure ⟨true,rfl,q _ l1 true sb ⟨⟨mF,_,t2,g1,e1,f2,by rw [l2,Im],p2⟩,Z5,by lia⟩ Uv (by lia)⟩
  split
  ·rename_i o7
   refine wpAny_bind ?_
   rw [hashByValue_scannable 8 (show (Value.int x tk).scannable=true from rfl)]
   refine wpAny_pure ?_
   rw [show (if plainKind (Value.int x tk)=true then t1 else { t1 with plain:=false })=t1 from rfl]
   refine wpAny_mono (fin t1 pf pl pq) (fun r s' h=>?_) fun _ _ h=>h
   obtain ⟨b,rfl,hq⟩:=h
   exact wpAny_pure hq
  ·rename_i o7
   refine wpAny_bind (wpAny_pure ?_)
   simp only [↓reduceIte]
   refine wpAny_mono (fin t1 pf pl pq) (fun r s' h=>?_) fun _ _ h=>h
   obtain ⟨b,rfl,hq⟩:=h
   exact wpAny_pure hq
end
section
variable {P:Program} {w:World} {A:Around} {R:Result->Shared->Prop} {I:Addr} {fp wr:List Addr} {G:Array GenState->Array GenState->Prop} {n:Nat} {Pv:Nat->Value->Prop} {St:Nat->Shared->Prop}
theorem wz (W:WalksS P w A.in1 I fp wr G n Pv St) (S:Addr) (SQ:S∉fp) (val:Nat->Int) (hval:∀i v,Pv i v->∃t,v=.int (val i) t) (hb:n+1 < scanBound) :
  ∀(k i:Nat) (s:Shared) (l:List (Int×Tok)),n - i=k->i<=n->St i s->iG w s.heap S l->l.length<=i->(∀z,z∈l.map (·.1)↔∃j,j < i/\val j=z)->
   (∀s' l',Moved (S::wr) G s s'->iG w s'.heap S l'->(∀z,z∈l'.map (·.1)↔∃j,j < n/\val j=z)->R (.ok (.ret .none)) s')->
   codeAny (model P w) A (.builtin "set.update.loop" ⟨[.ref S,.ref I],[]⟩) R s:=by
 have nw:S∉wr:=fun z=>SQ (W.sub _ z)
 have up:∀b∈wr,b∈S::wr:=fun b z=>List.mem_cons_of_mem _ z
 intro k
 induction k with
 | zero=>
  intro i s l hk hi st hS hl hm r
  obtain rfl:i=n:=by lia
  refine codeAny_builtin F.entry_set_update_loop ?_
  rw [Around.under_plainId F.plain_set_update_loop _]
  refine wpAny_bind (m:=pyNext (.ref I)) (W.done s _ _ st fun s' mv=>?_)
  refine wpAny_pure (r s' l (mv.mono up) (hS.at fun o e=>mv.heap S o nw e) hm)
 | succ k ih=>
  intro i s l hk hi st hS hl hm r
  have lt:i < n:=by lia
  refine codeAny_builtin F.entry_set_update_loop ?_
  rw [Around.under_plainId F.plain_set_update_loop _]
  refine wpAny_bind (m:=pyNext (.ref I)) (W.item i s _ _ lt st fun v s' pv bf mv=>?_)
  obtain ⟨t,rfl⟩:=hval i v pv
  have Mz:=hS.at (h':=s'.heap) fun o e=>mv.heap S o nw e
  refine wpAny_bind (m:=holding [Value.int (val i) t] (setAdd S (.int (val i) t))) (wpAny_holding ?_)
  unfold setAdd
  refine wpAny_holding (wpAny_bind ((intKind P w).pyHash (k:=val i) (intKind_is _ _ _ _) ?_))
  refine add_int (s:={ s' with toks:=s'.toks+1 }) Mz (by lia) fun h' l' b sb S2 m2 Ux=>?_
  refine wpAny_pure ⟨plainId_quiet F.plain_set_update_loop _,ih (i+1) _ l' (by lia) lt (W.frame _ s' _ _ bf (Nat.le_succ _) fun c hc o e=>?_) S2 (by lia) (fun z=>?_) fun s2 l2 mv2 S3 m3=>?_⟩
  ·rw [sb.2 c (fun q:c=S=>SQ (by rw [<-q];exact hc))];exact e
  ·rw [m2 z,hm z]
   constructor
   ·rintro (⟨j,hj,e⟩ | e)
    ·exact ⟨j,by lia,e⟩
    ·exact ⟨i,by lia,e.symm⟩
   ·rintro ⟨j,hj,e⟩
    by_cases q:j=i
    ·subst q;exact .inr e.symm
    ·exact .inl ⟨j,by lia,e⟩
  ·refine r s2 l2 (Moved.trans W.gtrans ((mv.mono up).then_heap (Nat.le_succ _) fun c o hc e=>?_) mv2) S3 m3
   rw [sb.2 c (fun q:c=S=>hc (by rw [q];exact List.mem_cons_self))];exact e
end
theorem qj:∀{vs:List Value} {ss:List Int},IntsAre vs ss->∀(i:Nat) (v:Value),vs[i]? = some v->∃t,v=.int (ss.getD i 0) t
 | _,_,.nil,i,v,h=>by cases i <;> cases h
 | _,_,.cons y t r,0,v,h=>by cases h;exact ⟨t,rfl⟩
 | _,_,.cons y t r,i+1,v,h=>by
  obtain ⟨u,e⟩:=qj r i v (by simpa using h)
  exact ⟨u,by rw [e];rfl⟩
section
variable {P:Program} {w:World} {A:Around} {E:Value->Shared->Prop} {s:Shared}
theorem TV {l:Addr} {items:Array Value} {ss:List Int} {Q:Value->Shared->Prop} (hh:A.handled=none) (hl:s.heap.IsList l items) (hi:IntsAre items.toList ss) (hb:items.size+1 < scanBound)
  (h:∀(h':Heap) (tk:Nat) (ls:List (Int×Tok)),iG w h' s.heap.objs.size ls->(∀z,z∈ls.map (·.1)↔z∈ss)->(∀b o,b < s.heap.objs.size->s.heap.get? b=some o->h'.get? b=some o)->Q (.ref s.heap.objs.size) { s with heap:=h',toks:=tk }) :
  wpAny (model P w) A (call (.type "set") [.ref l]) Q E s:=by
 have e:∀z:Int,(∃j,j < items.size/\ss.getD j 0=z)↔z∈ss:=fun z=>by
  have hlen:items.size=ss.length:=by rw [<-Array.length_toList];exact hi.length
  rw [hlen,List.mem_iff_getElem]
  constructor
  ·rintro ⟨j,hj,e⟩;exact ⟨j,hj,by rw [<-e];simp [hj]⟩
  ·rintro ⟨j,hj,e⟩;exact ⟨j,hj,by rw [<-e];simp [hj]⟩
 obtain ⟨c,tl,aAF⟩:=PySem.F.called_set.mro
 have Ve:=PySem.F.called_set.made
 have yL:=PySem.F.called_set.sub
 refine wpAny_call (codeAny_of_tree (wpAny_pure (a:=_) ⟨Code.quiet_builtin _ (by decide +kernel),codeAny_builtin PySem.F.entry_type_call ?_⟩))
 rw [Around.under_plain (weight_type_call_type "set" [.ref l] []) rfl]
 have h1:=PySem.F.called_set.notType
 have h2:=PySem.F.called_set.canCreate
 have hct:=PySem.F.typeCall_set_1 (.ref l)
 repeat (any_goals (first | assumption | wp_step))
 refine codeAny_mono (zK (x:=.ref l) (E:=E) (Q:=fun obj s₁=>obj=.ref s.heap.objs.size/\s₁={ s with heap:=s.heap.push (dm #[] 0 (.fresh 0 0 (!ow w))) }) ⟨rfl,rfl⟩) fun r s₁ hr=>?_
 cases r with
 | error e=>exact hr
 | ok fl=>
  cases fl with
  | ret obj=>
   obtain ⟨rfl,rfl⟩:=hr
   have hS:(s.heap.push (dm #[] 0 (.fresh 0 0 (!ow w)))).get? s.heap.objs.size=some (dm #[] 0 (.fresh 0 0 (!ow w))):=Heap.get?_push_size _ rfl
   have hT:Shared.TypeIs { s with heap:=s.heap.push (dm #[] 0 (.fresh 0 0 (!ow w))) } (.ref s.heap.objs.size) "set":=⟨_,hS,rfl⟩
   have hli:=PySem.F.called_set.init.lookup
   have hbi:=PySem.F.called_set.init.bind (.ref s.heap.objs.size)
   repeat (any_goals (first | assumption | wp_step))
   refine codeAny_mono (codeAny_call_builtin (R:=wants (fun r s₂=>r=.none/\∃h' tk ls,s₂={ s with heap:=h',toks:=tk }/\iG w h' s.heap.objs.size ls/\(∀z,z∈ls.map (·.1)↔z∈ss)/\
     (∀b o,b < s.heap.objs.size->s.heap.get? b=some o->h'.get? b=some o)) E) PySem.F.called_set.init.plain PySem.F.entry_set_init (check_set_init_1 hT ?_)) fun r₂ s₂ Rh=>?_
   ·obtain ⟨ol,U8,tj,nl,Ox⟩:=hl
    obtain ⟨Zx,Hs,Us,ye⟩:=ol
    simp only at tj Ox
    subst tj;subst Ox
    have Rr:(s.heap.push (dm #[] 0 (.fresh 0 0 (!ow w)))).get? l=some { cls:=.type "list",dict:=Hs,data:=.seq items nl,slots:=ye }:=Heap.get?_push_of_some _ U8
    have aAy:=PySem.F.sub_list_set
    have aAz:=PySem.F.sub_list_frozenset
    have qQ:(Value.type "list" == Value.type "dict")=false:=by decide
    have rn:(s.heap.push (dm #[] 0 (.fresh 0 0 (!ow w)))).IsList l items:=⟨_,Rr,rfl,nl,rfl⟩
    unfold Builtin.«set.__init__» noKeywords Builtin.Frozenset.updateFrom
    unfold dm at *
    generalize hPI:pyIter=PI
    wp_walk
    subst hPI
    refine wpAny_pyIter_list rn (wpAny_bind (wpAny_runValue ?_))
    have Vg:l < s.heap.objs.size:=Heap.lt_size U8
    have hh3:A.in1.in1.in1.handled=none:=by simp [hh]
    have hsz:(s.heap.push (dm #[] 0 (.fresh 0 0 (!ow w)))).objs.size=s.heap.objs.size+1:=Heap.size_push _ _
    have Rv:l≠(s.heap.push (dm #[] 0 (.fresh 0 0 (!ow w)))).objs.size:=by rw [hsz];exact Nat.ne_of_lt (Nat.lt_succ_of_lt Vg)
    have SQ:s.heap.objs.size∉[(s.heap.push (dm #[] 0 (.fresh 0 0 (!ow w)))).objs.size,l]:=by
     rw [hsz];simp only [List.mem_cons,List.mem_singleton,List.not_mem_nil,or_false,not_or];exact ⟨Nat.ne_of_lt (Nat.lt_succ_self _),Nat.ne_of_gt Vg⟩
    refine wz ((Walks.list hh3 _ l Rv items).toS) s.heap.objs.size SQ (fun j=>ss.getD j 0) (fun i v hv=>?hv) hb (items.size - 0) 0 _ [] (by lia) (Nat.zero_le _)
     ⟨⟨_,Heap.get?_push_size _ rfl,rfl,rfl⟩,(rn.push _)⟩ ?hS0 (Nat.zero_le _) (fun z=>⟨(fun z=>nomatch z),fun ⟨_,hj,_⟩=>absurd hj (Nat.not_lt_zero _)⟩) ?hR
    case hv=>exact qj hi i v (by rw [Array.getElem?_toList];exact hv)
    case hS0=>exact ⟨⟨#[],0,_,Heap.get?_push_of_some _ hS,rfl,rfl,rfl,List.Pairwise.nil⟩,List.nodup_nil,by decide⟩
    case hR=>
     intro s' l' hm Mz mem
     obtain ⟨h',g',d',Td,Um⟩:=s'
     have eg:g'=s.gens:=hm.gens
     have ed:d'=s.drawn:=hm.drawn
     have eo:Um=s.os:=hm.os
     subst eg;subst ed;subst eo
     refine wpAny_pure (wpAny_pure ⟨rfl,h',Td,l',rfl,Mz,fun z=>(mem z).trans (e z),fun b o hb e=>?_⟩)
     refine hm.heap b o ?_ (Heap.get?_push_of_some _ (Heap.get?_push_of_some _ e))
     rw [hsz]
     simp only [List.mem_cons,List.mem_singleton,List.not_mem_nil,or_false,not_or];exact ⟨Nat.ne_of_lt hb,Nat.ne_of_lt (Nat.lt_succ_of_lt hb)⟩
   ·cases r₂ with
    | error e=>exact Rh
    | ok fl₂=>
     cases fl₂ with
     | ret r=>
      obtain ⟨rfl,h',tk,ls,rfl,Mz,hm',Rw⟩:=Rh
      repeat (any_goals (first | assumption | wp_step))
      exact h _ _ _ Mz hm' Rw
     | _=>exact Rh.elim
  | _=>exact hr.elim
end
section
variable {P:Program} {w:World} {A:Around} {E:Value->Shared->Prop} {s:Shared} {a:Addr} {l:List (Int×Tok)}
theorem iG.typeIs (S:iG w s.heap a l):s.TypeIs (.ref a) "set":=let ⟨_,_,_,e,_⟩:=S.ex;⟨_,e,rfl⟩
def Bl (P:Program) (w:World) (z:Nat) (a:Addr) (l:List (Int×Tok)) (I:Addr) (s':Shared):Prop:=
 ∃(ord:List Value) (fp:List Addr) (St:Nat->Shared->Prop),(∀B:Around,B.handled=none->WalksS P w B I fp [I] (fun x y=>y=x) l.length (fun i v=>ord[i]? = some v) St)/\St 0 s'/\
  (∀b∈fp,b < s'.heap.objs.size/\(b=a\/z<=b))/\I∈fp/\ord.Perm (l.map fun p=>Value.int p.1 p.2)
end
section
variable {P:Program} {w:World} {A:Around} {E:Value->Shared->Prop} {s:Shared} {a:Addr} {es:Array (Int×Value)} {t:SetTable} {ep slot i:Nat}
theorem ym {Q:Option (Value×Nat)->Shared->Prop} (hb:ow w=false) (hl:t.led=true) (d:(!t.plain && decide (es.size > 1))=false) (hS:s.heap.get? a=some (dm es ep t)) (hf:t.fits es.size=true)
  (q:Q (match es[SetTable.below t.place slot]?,t.place[SetTable.below t.place slot]? with | some (_,x),some j=>some (x,j+1) | _,_=>none) s):wpAny (model P w) A (setNext a slot i ep) Q E s:=by
 unfold setNext
 refine wpAny_bind (wpAny_setState_of hS rfl hf (wpAny_bind (iZ ?_)))
 rw [hb]
 dsimp only
 rw [if_neg (by simp)]
 show wpAny _ _ (if (!t.plain && decide (es.size > 1))=true then _ else _) _ _ _
 rw [d,if_neg (by simp)]
 show wpAny _ _ ((if (!t.led && !es.isEmpty)=true then _ else _) >>= _) _ _ _
 rw [hl,Bool.not_true,Bool.false_and,if_neg (by simp)]
 exact wpAny_bind (wpAny_pure (wpAny_pure q))
end
section
variable {P:Program} {w:World} {A:Around} {E:Value->Shared->Prop} {s:Shared} {a:Addr} {l:List (Int×Tok)}
theorem BX {Q:Value->Shared->Prop} (S:iG w s.heap a l)
  (q:∀I s',s.heap.objs.size<=I->(∀b o,s.heap.get? b=some o->s'.heap.get? b=some o)->s'.gens=s.gens->s'.os=s.os->Bl P w s.heap.objs.size a l I s'->Q (.ref I) s'):wpAny (model P w) A (pyIter (.ref a)) Q E s:=by
 obtain ⟨⟨es,ep,t,ho,Ov,hf,Im,iw⟩,nd,sz⟩:=id S
 have hsz:es.size=l.length:=by rw [<-Array.length_toList,Ov,List.length_map]
 have hval:es.toList.map (·.2)=l.map fun p=>Value.int p.1 p.2:=by rw [Ov,List.map_map];rfl
 have lt:a < s.heap.objs.size:=Heap.lt_size ho
 refine wpAny_pyIter_slot S.typeIs PySem.F.slot_set_iter (wpAny_call_entry PySem.F.slot_set_iter S.typeIs qX ?_ (PySem.F.args_set_iter_1 _))
 unfold Builtin.«frozenset.__iter__»
 refine wpAny_bind (m:=Builtin.Frozenset.slot0 "__iter__" ⟨[.ref a],[]⟩) (wpAny_of_eq (a:=a) rfl ?_)
 unfold Builtin.Frozenset.sizeOf
 refine wpAny_bind (wpAny_bind (wpAny_setEntries_of ho rfl hf (wpAny_pure ?_)))
 unfold setDrawn
 refine wpAny_bind (wpAny_bind (wpAny_setState_of ho rfl hf (wpAny_bind (iZ (wpAny_pure ?_)))))
 have last:∀(first:Value) (s1:Shared),s1.heap.get? a=some (dm es ep t)->(∀b o,s.heap.get? b=some o->s1.heap.get? b=some o)->s.heap.objs.size<=s1.heap.objs.size->s1.gens=s.gens->s1.os=s.os->
   (∀s',s'.heap.get? s1.heap.objs.size=some (kJ first 0 es.size ep a)->(∀b o,s1.heap.get? b=some o->s'.heap.get? b=some o)->Bl P w s.heap.objs.size a l s1.heap.objs.size s')->
   wpAny (model P w) A.in1 (do let e <-setEpoch a;let v <-newFields "set_iterator" [first,rawInt 0,Value.ref a,rawInt es.size,rawInt e];ret v) (fun fin s'=>∃v,fin=Fin.done (Flow.ret v)/\∃T' r,s'.TypeIs v T'/\typeLookup (Value.type T') (Str.ofString "__next__")=pure (some r)/\Q v s') E s1:=by
  intro first s1 h1 k1 z1 g1 o1 hw
  refine wpAny_bind (wpAny_setEpoch_of h1 rfl hf ?_)
  unfold newFields
  refine wpAny_bind (wpAny_newObj_type ?_ (by size_fits))
  have hI:(s1.heap.push { cls:=.type "set_iterator",data:=.fields [first,rawInt 0,Value.ref a,rawInt es.size,rawInt ep].toArray }).get? s1.heap.objs.size=some (kJ first 0 es.size ep a):=Heap.get?_push_size _ rfl
  refine wpAny_pure ⟨_,rfl,"set_iterator",_,⟨_,hI,rfl⟩,dC.lookup,q _ _ z1 (fun b o e=>Heap.get?_push_of_some _ (k1 b o e)) g1 o1 (hw _ hI fun b o e=>Heap.get?_push_of_some _ e)⟩
 show wpAny _ _ (if (!ow w && (!t.plain && decide (es.size > 1)))=true then _ else _) _ _ _
 by_cases hd:(!ow w && (!t.plain && decide (es.size > 1)))=true
 ·rw [if_pos hd]
  refine wpAny_bind (tJ es.size (List.range es.size) _ _ (by simp) fun ys d hp=>?_)
  have Xc:ys.length=es.size:=by rw [hp.length_eq,List.length_range]
  refine wpAny_bind (wpAny_newTuple ?_ (by rw [List.length_map,Xc,hsz];exact fits_of_scanBound sz))
  refine last (.ref s.heap.objs.size) _ (Heap.get?_push_of_some _ ho) (fun b o e=>Heap.get?_push_of_some _ e) (by show _<=(Heap.push _ _).objs.size;rw [Heap.size_push];exact Nat.le_succ _) rfl rfl fun s' hI k=>?_
  have e1:(Heap.push s.heap { cls:=.type "tuple",data:=.seq (ys.map fun (i:Nat)=>rawInt i).toArray }).objs.size=s.heap.objs.size+1:=Heap.size_push _ _
  have Oq:=k s.heap.objs.size _ (Heap.get?_push_size _ rfl)
  have OD:=k a _ (Heap.get?_push_of_some _ ho)
  have lts:∀j∈ys,j < es.size:=fun j hj=>List.mem_range.mp (hp.mem_iff.mp hj)
  refine ⟨ys.map fun j=>(es.toList.map (·.2)).getD j .none,_,_,fun C hC=>Bx (n:=l.length) (pl:=ys) (c:=0) (p:=s.heap.objs.size) (es:=es) (t:=t) (ep:=ep) (a:=a) hC (by rw [e1];exact Nat.ne_of_lt (Nat.lt_succ_of_lt lt)) (by rw [e1];exact Nat.ne_of_lt (Nat.lt_succ_self _)) hf hsz (by rw [List.length_map,Xc,hsz]) (by rw [Xc,hsz]) fun i hi=>?_,⟨by rw [<-hsz];exact hI,OD,Oq⟩,?_,by simp,?_⟩
  ·have Iq:i < ys.length:=by rw [Xc,hsz];exact hi
   have hk:=lts ys[i] (List.getElem_mem Iq)
   refine ⟨ys[i],es[ys[i]].1,es[ys[i]].2,List.getElem?_eq_getElem Iq,Array.getElem?_eq_getElem hk,?_⟩
   rw [List.getElem?_map,List.getElem?_eq_getElem Iq,Option.map_some,List.getD_eq_getElem?_getD,List.getElem?_map,Array.getElem?_toList,Array.getElem?_eq_getElem hk]
   rfl
  ·intro b hb
   simp only [List.mem_cons,List.not_mem_nil,or_false] at hb
   rcases hb with rfl | rfl | rfl
   ·exact ⟨Heap.lt_size hI,.inr (by rw [e1];exact Nat.le_succ _)⟩
   ·exact ⟨Heap.lt_size OD,.inl rfl⟩
   ·exact ⟨Heap.lt_size Oq,.inr (Nat.le_refl _)⟩
  ·rw [<-hval]
   refine (hp.map _).trans ?_
   rw [show (List.range es.size).map (fun j=>(es.toList.map (·.2)).getD j .none)=es.toList.map (·.2) from ?_]
   refine List.ext_getElem? fun i=>?_
   by_cases hi:i < es.size
   ·simp [hi]
   ·simp [hi]
 ·rw [if_neg hd]
  refine wpAny_bind (wpAny_pure ?_)
  refine last (rawInt 0) s ho (fun _ _ e=>e) (Nat.le_refl _) rfl rfl fun s' hI k=>?_
  have OD:=k a _ ho
  have XD:∀b∈[s.heap.objs.size,a],b < s'.heap.objs.size/\(b=a\/s.heap.objs.size<=b):=fun b hb=>by
   simp only [List.mem_cons,List.not_mem_nil,or_false] at hb
   rcases hb with rfl | rfl
   ·exact ⟨Heap.lt_size hI,.inr (Nat.le_refl _)⟩
   ·exact ⟨Heap.lt_size OD,.inl rfl⟩
  cases hb:ow w with
  | true=>
   refine ⟨(pickOrder (w.params.setOrder a ep) es).toList.map (·.2),_,_,fun C hC=>rN (n:=l.length) (es:=es) (t:=t) (ep:=ep) (a:=a) (fun _=>0) hC (Nat.ne_of_lt lt) hf hsz (by rw [List.length_map,(sF _ es).length_eq,Array.length_toList,hsz]) fun i _ s1 C' E' Q' h1 hq=>?_,⟨by rw [<-hsz];exact hI,OD⟩,XD,by simp,?_⟩
   ·refine wj hb h1 hf ?_
    rw [List.getElem?_map,Array.getElem?_toList,Option.map_map] at hq
    exact hq
   ·rw [<-hval];exact (sF _ es).map _
  | false=>
   have led:t.led=true:=by rw [Im,hb];rfl
   have hpz:t.place.size=es.size:=by
    unfold SetTable.fits at hf
    rw [Bool.and_eq_true] at hf
    exact eq_of_beq hf.1
   have dr:(!t.plain && decide (es.size > 1))=false:=by rw [hb] at hd;simpa using hd
   refine ⟨es.toList.map (·.2),_,_,fun C hC=>rN (n:=l.length) (es:=es) (t:=t) (ep:=ep) (a:=a) (iP t.place) hC (Nat.ne_of_lt lt) hf hsz (by rw [List.length_map,Array.length_toList,hsz]) fun i hi s1 C' E' Q' h1 hq=>?_,⟨by rw [<-hsz];exact hI,OD⟩,XD,by simp,by rw [hval]⟩
   refine ym hb led dr h1 hf ?_
   rw [below_at iw (by lia)]
   rw [List.getElem?_map,Array.getElem?_toList] at hq
   by_cases h2:i < es.size
   ·rw [Array.getElem?_eq_getElem h2] at hq ⊢
    rw [Array.getElem?_eq_getElem (show i < t.place.size by lia)]
    have e:iP t.place (i+1)=t.place[i]'(by lia)+1:=by
     unfold iP
     rw [if_neg (by lia),Nat.add_sub_cancel,Array.getD_eq_getD_getElem?,Array.getElem?_eq_getElem (show i < t.place.size by lia)]
     rfl
    rw [e] at hq
    exact hq
   ·rw [Array.getElem?_eq_none (by lia)] at hq ⊢
    exact hq
end
section
variable {P:Program} {w:World} {A:Around} {E:Value->Shared->Prop} {s:Shared} {a:Addr} {l:List (Int×Tok)}
theorem vi {Q:List Value->Shared->Prop} (hh:A.handled=none) (S:iG w s.heap a l)
  (q:∀(s':Shared) (vs:List Value),(∀b o,s.heap.get? b=some o->s'.heap.get? b=some o)->s.heap.objs.size<=s'.heap.objs.size->s'.gens=s.gens->s'.os=s.os->vs.Perm (l.map fun p=>Value.int p.1 p.2)->Q vs s'):wpAny (model P w) A (collect (.ref a)) Q E s:=by
 have lt:a < s.heap.objs.size:=let ⟨_,_,_,e,_⟩:=S.ex;Heap.lt_size e
 unfold collect
 refine wpAny_bind (wpAny_runValue (codeAny_builtin entry_proto_collect' ?_))
 rw [Around.under_plainId PySem.F.plain_proto_collect _]
 refine wpAny_bind (m:=newList []) (wpAny_newObj_type ?_)
 refine wpAny_pure ⟨plainId_quiet PySem.F.plain_list_iadd _,codeAny_builtin entry_list_iadd' ?_⟩
 rw [Around.under_plainId PySem.F.plain_list_iadd _]
 let L0:Obj:={ cls:=.type "list",data:=.seq ([]:List Value).toArray }
 have k0:∀b o,s.heap.get? b=some o->(s.heap.push L0).get? b=some o:=fun b o e=>Heap.get?_push_of_some _ e
 have hL:(s.heap.push L0).get? s.heap.objs.size=some L0:=Heap.get?_push_size _ rfl
 have S0:iG w (s.heap.push L0) a l:=S.at fun o e=>k0 a o e
 show wpAny _ A.in1 (Builtin.List.listExtendWith (.ref s.heap.objs.size) (.ref a) (.ref s.heap.objs.size)) _ _ { s with heap:=s.heap.push L0 }
 unfold Builtin.List.listExtendWith
 refine wpAny_bind (wpAny_typeOf (T:="set") (iG.typeIs (s:={ s with heap:=s.heap.push L0 }) S0) ?_)
 have h1:Builtin.List.listSameRef (.ref s.heap.objs.size) (.ref a)=false:=by simp [Builtin.List.listSameRef,Nat.ne_of_gt lt]
 have h2:(Value.type "set" == Value.type "list")=false:=by decide
 have h3:(Value.type "set" == Value.type "tuple")=false:=by decide
 simp only [h1,h2,h3,Bool.or_false,Bool.false_eq_true,if_false]
 refine wpAny_bind (BX (s:={ s with heap:=s.heap.push L0 }) S0 fun I s1 zI k1 g1 o1 W=>?_)
 have S1:iG w s1.heap a l:=S0.at fun o e=>k1 a o e
 have Ak:=k1 _ _ hL
 have qQ:s.heap.objs.size≠I:=by
  have:(s.heap.push L0).objs.size<=I:=zI
  rw [Heap.size_push] at this
  exact Nat.ne_of_lt this
 refine wpAny_bind (wpAny_holding (FP (iG.typeIs S1) ?_))
 obtain ⟨ord,fp,St,wk,st,XD,mI,po⟩:=W
 have hlen:l.length<=sizeLine:=fits_of_scanBound S.sz
 have z1:(s.heap.push L0).objs.size=s.heap.objs.size+1:=Heap.size_push _ _
 have nf:s.heap.objs.size∉fp:=fun z=>by
  rcases (XD _ z).2 with e | e
  ·exact absurd e (Nat.ne_of_gt lt)
  ·have e':(s.heap.push L0).objs.size<=s.heap.objs.size:=e
   rw [z1] at e'
   exact absurd e' (Nat.not_succ_le_self _)
 refine wpAny_ite_split (fun _=>?_) (fun z=>absurd (by decide +kernel) z)
 refine wpAny_bind (wpAny_rule (wpAny_bind ?_))
 show wpAny _ _ (updateSeq s.heap.objs.size (·.push .none) >>= fun _=>updateSeq s.heap.objs.size (·.pop)) _ _ _
 refine wpAny_bind (wpAny_updateSeq Ak rfl ?_)
 have RK:=Heap.get?_update_self (Obj.mapSeq (·.push Value.none)) Ak rfl
 refine wpAny_updateSeq (hz:=by seq_fits) RK rfl ?_
 have Xw:=Heap.get?_update_self (Obj.mapSeq (·.pop)) RK rfl
 have Qx:∀b o,b≠s.heap.objs.size->s1.heap.get? b=some o->((s1.heap.update s.heap.objs.size (Obj.mapSeq (·.push Value.none))).update s.heap.objs.size (Obj.mapSeq (·.pop))).get? b=some o:=
  fun b o hb e=>(Heap.get?_update_other _ _ (Ne.symm hb)).trans ((Heap.get?_update_other _ _ (Ne.symm hb)).trans e)
 have W1:=wk A.in1 hh
 refine wpAny_pure ⟨plainId_quiet PySem.F.plain_extend_loop _,codeAny_extend_loopS W1 hlen _ nf _ l.length 0 _ #[] _ rfl (Nat.zero_le _) (W1.frame 0 s1 _ s1.toks st (Nat.le_refl _) fun b hb o e=>Qx b o (fun z=>nf (z ▸ hb)) e) Xw (ItemsOf.nil _) fun s2 acc c2 mv hS2 wZ=>?_⟩
 refine wpAny_bind (m:=load s.heap.objs.size) (wpAny_load hS2 (wpAny_pure ?_))
 refine q s2 acc.toList (fun b o e=>mv.heap b o (fun hm=>?_) (Qx b o (Nat.ne_of_lt (Heap.lt_size e)) (k1 b o (k0 b o e)))) (Nat.le_of_lt (Heap.lt_size hS2)) (mv.gens.trans g1) (mv.os.trans o1) ?_
 ·have gi:b < s.heap.objs.size:=Heap.lt_size e
  rcases List.mem_cons.mp hm with e1 | e1
  ·exact absurd e1 (Nat.ne_of_lt gi)
  ·rw [List.mem_singleton.mp e1] at gi
   have:(s.heap.push L0).objs.size<=I:=zI
   rw [z1] at this
   exact absurd (Nat.lt_of_lt_of_le gi (Nat.le_of_succ_le this)) (Nat.lt_irrefl _)
 ·have e:acc.toList=ord:=by
   refine List.ext_getElem? fun j=>?_
   by_cases hj:j < l.length
   ·have h0:j < acc.size:=by rw [wZ.1];exact hj
    have h1:acc[j]? = some acc[j]:=Array.getElem?_eq_getElem h0
    rw [Array.getElem?_toList,h1,wZ.2 j _ h1]
   ·rw [List.getElem?_eq_none (by rw [Array.length_toList,wZ.1];lia),List.getElem?_eq_none (by rw [po.length_eq,List.length_map];lia)]
  rw [e];exact po
theorem yJ {vs:List Value} {l:List (Int×Tok)} (po:vs.Perm (l.map fun p=>Value.int p.1 p.2)):∃ts,IntsAre vs ts/\ts.Perm (l.map (·.1)):=by
 have:∃l':List (Int×Tok),vs=l'.map (fun p:Int×Tok=>Value.int p.1 p.2)/\l'.Perm l:=by
  let back:Value->Int×Tok:=fun e=>match e with | .int x t=>(x,t) | _=>(default,0)
  refine ⟨vs.map back,?_,?_⟩
  ·rw [List.map_map]
   conv=>lhs;rw [<-List.map_id vs]
   refine List.map_congr_left fun e he=>?_
   obtain ⟨z,_,rfl⟩:=List.mem_map.mp (po.mem_iff.mp he)
   rfl
  ·have:=po.map back
   rw [List.map_map,show (back ∘ fun p:Int×Tok=>Value.int p.1 p.2)=id from rfl,List.map_id] at this
   exact this
 obtain ⟨l',rfl,pl⟩:=this
 refine ⟨l'.map (·.1),?_,pl.map _⟩
 clear po pl
 induction l' with
 | nil=>exact .nil
 | cons p l' ih=>exact .cons p.1 p.2 ih
theorem xV {x:Value} {us:List Int} {Q:Value->Shared->Prop} (VH:us.length < 64)
  (hc:∀(Q':List Value->Shared->Prop),(∀(s':Shared) (vs:List Value) (ts:List Int),(∀b o,s.heap.get? b=some o->s'.heap.get? b=some o)->s.heap.objs.size<=s'.heap.objs.size->s'.gens=s.gens->s'.os=s.os->IntsAre vs ts->ts.Perm us->Q' vs s')->wpAny (model P w) A.in1 (collect x) Q' E s)
  (q:∀(s':Shared) (D c:Nat) (vs:List Value) (ss:List Int),(∀b o,s.heap.get? b=some o->s'.heap.get? b=some o)->s.heap.objs.size<=D->s'.gens=s.gens->s'.os=s.os->s'.heap.get? D=some { cls:=.type "list",data:=.seq vs.toArray c }->IntsAre vs ss->
   ss.Perm us->ss.Pairwise (·<=·)->Q (.ref D) s'):wpAny (model P w) A (call (.builtin "sorted") [x]) Q E s:=by
 refine Calls.call_function_entry kind_sorted plain_sorted entry_sorted (args_sorted1 _) ?_
 unfold Builtin.«sorted»
 refine wpAny_bind (m:=checkCount "sorted" 1 1 _) (wpAny_pure ?_)
 refine wpAny_bind (hc _ fun s1 vs ts k1 old g1 o1 Ej pts=>?_)
 have hl:vs.length=us.length:=by rw [Ej.length,pts.length_eq]
 refine wpAny_bind (wpAny_newList ?_ (by rw [hl];exact iO (by lia)))
 have J0:(s1.heap.push (seqObj "list" vs.toArray 0)).get? s1.heap.objs.size=some (seqObj "list" vs.toArray 0):=Heap.get?_push_size _ rfl
 refine wpAny_bind (wpAny_holding (wpAny_call_entry slot_list_sort ⟨_,J0,rfl⟩ entry_list_sort (list_sort_tree J0 Ej (by lia) fun out ss' e1 e2 e3=>⟨_,rfl,?_⟩) (args_list_sort _)))
 obtain ⟨c,hc⟩:=sortedHeap_at (out:=out) J0
 refine wpAny_pure ⟨_,rfl,q _ s1.heap.objs.size c out.toList ss' (fun b o e=>?_) old g1 o1 (by rw [hc]) e1 (e2.trans pts) e3⟩
 have lt:=Heap.lt_size (k1 b o e)
 show (sortedHeap _ _ _ _).get? b=some o
 rw [sortedHeap_old (Nat.ne_of_lt lt) (by rw [size_push'];exact Nat.lt_succ_of_lt lt)]
 exact Heap.get?_push_of_some _ (k1 b o e)
end
def Ww (w:World) (p:Addr) (ss:List Int):HO:=.ext fun h=>∃l,iG w h p l/\∀z,z∈l.map (·.1)↔z∈ss
section
variable {X:Cx}
def vV (w:World):List V->Hp->VK->Prop:=fun vs H Q=>∃a ss,vs=[.ref a]/\H a=some (Ww w a ss)/\ss.length < 64/\
 ∀ss':List Int,(∀z,z∈ss'↔z∈ss)->ss'.Pairwise (· < ·)->∀p,H p=none->Q (.ref p) (upd H p (.lst (ss'.map V.int)))
theorem yx {l:List Int} (n:l.Nodup) (h:l.Pairwise (·<=·)):l.Pairwise (· < ·):=(List.Pairwise.and n h).imp fun ⟨a,b⟩=>by lia
theorem o9 (hh:X.A.handled=none):dA X (.builtin "sorted") (vV X.w):=by
 intro pins s σ H vs us Q I rv h
 obtain ⟨a,ss,rfl,hq,hn,q⟩:=h
 obtain ⟨u,rfl,ru⟩:=vals1 rv
 cases ru
 obtain ⟨⟨l,hS,hm⟩,_,_⟩:=I.bh a _ hq
 have hl:(l.map (·.1)).length<=ss.length:=sQ hS.nd fun x hx=>(hm x).mp hx
 refine xV (us:=l.map (·.1)) (by lia) (fun Q' hQ'=>vi (A:=X.A.in1) hh hS fun s' vs k z g o po=>let ⟨ts,h1,h2⟩:=yJ po;hQ' s' vs ts k z g o h1 h2) fun s' D c vs ss' k z g o hD Ii Y0 Yg=>?_
 have tf:H D=none:=I.bh.fresh z
 have I1:Inv X pins σ (upd H D (.lst (ss'.map V.int))) { s with heap:=s'.heap,toks:=s.toks }:=I.laid k z ⟨by rw [List.length_map,Y0.length_eq];exact iO (by lia),vs,c,nP Ii,hD⟩
 refine ⟨.ref D,_,I1.same rfl g o,rfl,q ss' (fun z=>(Y0.mem_iff).trans (hm z)) (yx (Y0.nodup_iff.mpr hS.nd) Yg) _ tf⟩
end
end L2
end
section
namespace L2
open PySem PySem.Spec PyProof.Rows
section
variable {X:Cx}
def Gw (w:World):List V->Hp->VK->Prop:=fun vs H Q=>∃a,vs=[.ref a]/\∃ss:List Int,H a=some (.lst (ss.map V.int))/\ss.length < 4000/\∀p,H p=none->Q (.ref p) (upd H p (Ww w p ss))
def ke (w:World):List V->Hp->VK->Prop:=fun vs H Q=>∃a,vs=[.ref a]/\∃ss:List Int,H a=some (Ww w a ss)/\ss.length < 64/\
 ∀ss':List Int,(∀z,z∈ss'↔z∈ss)->ss'.Pairwise (· < ·)->∀p,H p=none->Q (.ref p) (upd H p (.lst (ss'.map V.int)))
theorem qz (hh:X.A.handled=none):dA X (.builtin "sorted") (ke X.w):=(o9 hh).imp fun x H Q ⟨p,e,ss,h,n,q⟩=>⟨p,ss,e,h,n,q⟩
end
end L2
end
section
namespace HT
open PySem PyProof.Rows L2
section
variable {prog:Program} {w:World} {A:Around} {E:Value->Shared->Prop} {s:Shared}
theorem ku {t sl:Addr} {items:Array Value} {vl vu:Value} {lo hi:Option Int} {Q:Value->Shared->Prop} (ht:IsTup s.heap t items) (hs:s.heap.IsSliceOf sl vl vu .none) (pl:IsPart vl lo) (pu:IsPart vu hi)
  (h1:cJ items.size 0 lo=0) (h2:cJ items.size items.size hi=items.size) (h:Q (.ref t) s):wpAny (model prog w) A (getItem (.ref t) (.ref sl)) Q E s:=by
 obtain ⟨os,Rq,Xk,Vo⟩:=id hs
 have SN:s.TypeIs (.ref sl) "slice":=⟨os,Rq,Xk⟩
 unfold getItem
 try with_reducible refine wpAny_holding ?_
 first | refine wpAny_bind (wpAny_pure ?_) | skip
 refine wpAny_bind (wpAny_sequenceKey ht.typeIs (by decide) ?_)
 refine wpAny_bind (wpAny_callSpecial?_slot (name:=Str.ofString "__getitem__") ht.typeIs PyProof.Rows.slot_tuple_getitem
  (wpAny_call_entry PyProof.Rows.slot_tuple_getitem ht.typeIs entry_tuple_getitem ?_ (args_tuple_getitem _ _)))
 show wpAny _ _ (Builtin.Tuple.tupleItemsOf (.ref t) >>= _) _ _ s
 refine wpAny_bind (tupleItemsOf_ ht ?_)
 refine wpAny_bind (wpAny_typeOf SN ?_)
 rw [if_pos (by decide)]
 refine wpAny_bind (ig hs pl pu ?_)
 have fG:(((cJ items.size 0 lo:Nat):Int) == 0 && (1:Int) == 1 && (cJ items.size items.size hi - cJ items.size 0 lo) == items.size)=true:=by
  rw [h1,h2];simp
 show wpAny _ _ (if (((cJ items.size 0 lo:Nat):Int) == 0 && (1:Int) == 1 && (cJ items.size items.size hi - cJ items.size 0 lo) == items.size)=true then _ else _) _ _ s
 rw [if_pos fG]
 refine wpAny_bind (m:=Builtin.Tuple.tupleIsExact (.ref t)) ?_
 unfold Builtin.Tuple.tupleIsExact
 refine wpAny_bind (wpAny_typeOf ht.typeIs (wpAny_pure ?_))
 rw [if_pos (by decide)]
 exact wpAny_bind (wpAny_rule (wpAny_pure ⟨_,rfl,wpAny_pure h⟩))
end
end HT
namespace L2
open PySem PySem.Spec PyProof.Rows
section
variable {X:Cx}
def zN:V->Option Int->Option Int->Hp->VK->Prop:=fun x lo hi H Q=>∃a,x=.ref a/\∃xs,H a=some (.tup xs)/\
 ((HT.cJ xs.length 0 lo=0/\HT.cJ xs.length xs.length hi=xs.length)->Q (.ref a) H)/\(¬(HT.cJ xs.length 0 lo=0/\HT.cJ xs.length xs.length hi=xs.length)->∀p,H p=none->Q (.ref p) (upd H p (.tup (gE xs lo hi))))
theorem TJ:J5 X zN:=by
 intro pins s σ H x v vl vu lo hi sl Q I rx hs pl pu h
 obtain ⟨a,rfl,xs,hx,q1,q2⟩:=h
 by_cases hw:HT.cJ xs.length 0 lo=0/\HT.cJ xs.length xs.length hi=xs.length
 ·cases rx
  obtain ⟨its,r,ht,hz⟩:=I.tuple (bR hx)
  have hlen:its.toArray.size=xs.length:=by rw [List.size_toArray];exact r.length.symm
  refine ⟨"tuple",_,PyProof.Rows.slot_tuple_getitem.lookup,ht.typeIs,?_⟩
  exact HT.ku ht hs pl pu (by rw [hlen];exact hw.1) (by rw [hlen];exact hw.2) ⟨.ref a,H,I,rfl,q1 hw⟩
 ·exact Ym pins s σ H _ v vl vu lo hi sl Q I rx hs pl pu ⟨a,rfl,xs,hx,hw,q2 hw⟩
end
end L2
end
section
namespace L2
open PySem PySem.Spec PyProof.Rows
section
variable {X:Cx} {pins:List (Addr×Obj)} {s:Shared} {σ:St} {H:Hp}
def oK (bs:List Addr) (ts:List (List Int)) (x:List Int):Value->Bool
 | .ref p=>(bs.zip ts).any fun q=>decide (q.1=p) && decide (q.2=x)
 | _=>false
theorem wH {bs:List Addr} {ts:List (List Int)} {x:List Int} (a:aG H bs ts) {i:Nat} {p:Addr} {t:List Int} (h1:bs[i]? = some p) (h2:ts[i]? = some t):oK bs ts x (.ref p)=decide (t=x):=by
 unfold oK
 rw [Bool.eq_iff_iff,List.any_eq_true,decide_eq_true_iff]
 constructor
 ·rintro ⟨⟨p',t'⟩,hm,e⟩
  simp only [Bool.and_eq_true,decide_eq_true_eq] at e
  obtain ⟨rfl,rfl⟩:=e
  obtain ⟨j,hj,ej⟩:=List.mem_iff_getElem.mp hm
  rw [List.length_zip] at hj
  rw [List.getElem_zip] at ej
  injection ej with e1 e2
  have g1:=a.2 j _ _ (List.getElem?_eq_getElem (by omega)) (List.getElem?_eq_getElem (by omega))
  rw [e1,e2] at g1
  have g2:=a.2 i _ _ h1 h2
  rw [g1] at g2
  injection g2 with g2
  injection g2 with g2
  exact (qi g2).symm
 ·rintro rfl
  refine ⟨(p,t),?_,by simp⟩
  have i1:=List.getElem?_eq_some_iff.mp h1
  have i2:=List.getElem?_eq_some_iff.mp h2
  refine List.mem_iff_getElem.mpr ⟨i,by rw [List.length_zip];have:=i1.1;have:=i2.1;omega,?_⟩
  rw [List.getElem_zip,i1.2,i2.2]
theorem D' {bs:List Addr} {ts:List (List Int)} {x:List Int} (a:aG H bs ts) {us:List Value} (r:Vals (List.map V.ref bs) us):us.any (oK bs ts x)=decide (x∈ts):=by
 have l:=r.length
 rw [List.length_map] at l
 have lt:=a.1
 have at_:∀i (hi:i < us.length),oK bs ts x us[i]=decide (ts[i]'(by omega)=x):=fun i hi=>by
  have e1:bs[i]? = some (bs[i]'(by omega)):=List.getElem?_eq_getElem (by omega)
  have v:us[i]=.ref (bs[i]'(by omega)):=by
   have:=ph (x:=.ref (bs[i]'(by omega))) r (j:=i) (by simpa using hi) (by rw [List.getElem?_map,e1];rfl)
   simpa [RelV] using this
  rw [v]
  exact wH a e1 (List.getElem?_eq_getElem (by omega))
 rw [Bool.eq_iff_iff,List.any_eq_true,decide_eq_true_iff]
 constructor
 ·rintro ⟨u,hu,e⟩
  obtain ⟨i,hi,rfl⟩:=List.mem_iff_getElem.mp hu
  rw [at_ i hi,decide_eq_true_iff] at e
  rw [<-e];exact List.getElem_mem _
 ·intro h
  obtain ⟨i,hi,rfl⟩:=List.mem_iff_getElem.mp h
  exact ⟨us[i]'(by omega),List.getElem_mem _,by rw [at_ i (by omega),decide_eq_true_iff]⟩
def KY (neg:Bool):R2:=fun x y H Q=>∃a L,x=.ref a/\y=.ref L/\∃u bs ts,H a=some (.tup (List.map V.int u))/\H L=some (.lst (List.map V.ref bs))/\aG H bs ts/\Q (.bl (if neg then !decide (u∈ts) else decide (u∈ts))) H
theorem LK {A:Around} {a:Addr} {u:List Int} {bs:List Addr} {ts:List (List Int)} (I:Inv X pins σ H s) (ha:H a=some (.tup (List.map V.int u))) (sa:aG H bs ts) (hu:A.units < cLine) {us:List Value} (r:Vals (List.map V.ref bs) us):∀z∈us,SeqAt.EqAt A s z (.ref a) (oK bs ts u z):=fun z hz=>by
 obtain ⟨i,hi,rfl⟩:=List.mem_iff_getElem.mp hz
 have l:=r.length
 rw [List.length_map] at l
 have lt:=sa.1
 have e1:bs[i]? = some (bs[i]'(by omega)):=List.getElem?_eq_getElem (by omega)
 have e2:ts[i]? = some (ts[i]'(by omega)):=List.getElem?_eq_getElem (by omega)
 have v:us[i]=.ref (bs[i]'(by omega)):=by
  have:=ph (x:=.ref (bs[i]'(by omega))) r (j:=i) (by simpa using hi) (by rw [List.getElem?_map,e1];rfl)
  simpa [RelV] using this
 rw [v,wH sa e1 e2]
 exact RX I (sa.2 i _ _ e1 e2) ha hu
theorem sO (hu:X.A.units+1 < cLine):kR X (compareOp .NotIn) (KY true):=by
 intro pins s σ H x y v u Q I rx ry h
 obtain ⟨a,L,rfl,rfl,w,bs,ts,ha,hL,sa,q⟩:=h
 cases rx;cases ry
 obtain ⟨its,r,pl,hz⟩:=I.list (bC hL)
 refine SeqAt.notIn_listAt (oK bs ts w) pl.isList (fun z hz=>LK I ha sa (by first | (rw [Around.in1_units];omega) | omega) r z (by simpa using hz)) ⟨.bl _,H,I,rfl,?_⟩
 rw [show its.toArray.any (oK bs ts w)=its.any (oK bs ts w) by simp,D' sa r]
 exact q
end
end L2
end
section
namespace L2
open PySem PySem.Spec PyProof.Rows
def jZ {δ:Type} (Rep:Hp->V->δ->Prop) (H:Hp) (vs:List V) (ds:List δ):Prop:=vs.length=ds.length/\∀(i:Nat) v d,vs[i]? = some v->ds[i]? = some d->Rep H v d
theorem jZ.nil {δ:Type} {Rep:Hp->V->δ->Prop} {H:Hp}:jZ Rep H [] []:=⟨rfl,fun i v d h=>by simp at h⟩
theorem jZ.snoc {δ:Type} {Rep:Hp->V->δ->Prop} {H:Hp} {vs:List V} {ds:List δ} {v:V} {d:δ} (h:jZ Rep H vs ds) (hv:Rep H v d):jZ Rep H (vs++[v]) (ds++[d]):=by
 refine ⟨by rw [List.length_append,List.length_append,h.1];rfl,fun i u e hu he=>?_⟩
 have hl:=h.1
 by_cases hi:i < vs.length
 ·rw [List.getElem?_append_left hi] at hu
  rw [List.getElem?_append_left (by lia)] at he
  exact h.2 i u e hu he
 ·rw [List.getElem?_append_right (by lia)] at hu
  rw [List.getElem?_append_right (by lia),<-hl] at he
  have h0:i - vs.length=0:=by
   cases z:i - vs.length with
   | zero=>rfl
   | succ n=>rw [z] at hu;simp at hu
  rw [h0] at hu he
  cases hu;cases he
  exact hv
theorem jZ.mono {δ:Type} {Rep:Hp->V->δ->Prop} {H H':Hp} {vs:List V} {ds:List δ} (k:∀v d,Rep H v d->Rep H' v d) (h:jZ Rep H vs ds):jZ Rep H' vs ds:=⟨h.1,fun i v d a b=>k v d (h.2 i v d a b)⟩
def gH (H:Hp) (v:V) (x:List Int):Prop:=∃b,v=.ref b/\H b=some (.tup (List.map V.int x))
theorem uq {H:Hp} {vs:List V} {ts:List (List Int)} (h:jZ gH H vs ts):∃bs,vs=List.map V.ref bs/\aG H bs ts:=by
 induction vs generalizing ts with
 | nil=>
  have:ts=[]:=List.length_eq_zero_iff.mp h.1.symm
  subst this
  exact ⟨[],rfl,rfl,fun i b t e=>by simp at e⟩
 | cons v vs ih=>
  cases ts with
  | nil=>exact absurd h.1 (by simp)
  | cons t ts=>
   obtain ⟨bs,e1,s1⟩:=ih (ts:=ts) ⟨by have:=h.1;simpa using this,fun i v d a b=>h.2 (i+1) v d (by simpa using a) (by simpa using b)⟩
   obtain ⟨b,rfl,hb⟩:=h.2 0 v t rfl rfl
   refine ⟨b::bs,by rw [e1];rfl,by rw [List.length_cons,List.length_cons,s1.1],fun i c u hc hu=>?_⟩
   cases i with
   | zero=>cases hc;cases hu;exact hb
   | succ n=>exact s1.2 n c u (by simpa using hc) (by simpa using hu)
theorem j8 {δ:Type} (f:Nat->Option δ) (i:Nat):(List.range (i+1)).filterMap f=(List.range i).filterMap f++(f i).toList:=by
 rw [List.range_succ,List.filterMap_append]
 cases e:f i <;> simp [e]
theorem Jh {δ:Type} (f:Nat->Option δ) (i:Nat):((List.range i).filterMap f).length<=i:=Nat.le_trans (List.length_filterMap_le _ _) (by rw [List.length_range];exact Nat.le_refl _)
theorem yX {K:PySem.W.Frag} {a:Addr} {zs:List V} {idx:List Nat} {tt:CB->TT} {te:CB->TE} {σ:St} {Q:VK} {H1:Hp} {δ:Type} (S:Hp->Hp->Prop) (f:Nat->Option δ) (Rep:Addr->Hp->V->δ->Prop) (sr:S H1 H1) (st:∀H H',S H1 H->S H H'->S H1 H')
  (sp:∀D H o,H1 D=none->S H1 H->S H1 (upd H D o)) (sk:∀D H H' o,H1 D=none->S H1 H->S H H'->H D=some o->H' D=some o)
  (mono:∀D H H' v d,S H1 H->S H H'->Rep D H v d->Rep D H' v d) (yn:∀D H o v d,H1 D=none->S H1 H->(∃xs,H D=some (.lst xs))->Rep D H v d->Rep D (upd H D o) v d)
  (hL:∀H,S H1 H->H a=some (.lst zs)) (l9:zs.length<=900000)
  (hs:∀(D:Addr) (c:CB) (H:Hp) (i:Nat) (z:V) (yes:V->Hp->Prop) (no:Hp->Prop),zs[i]? = some z->S H1 H->H1 D=none->(∃xs,H D=some (.lst xs))->(∀d,f i=some d->∀v H',S H H'->Rep D H' v d->yes v H')->(f i=none->∀H',S H H'->no H')->tt c (some (z)::bQ σ idx) H fun b H4=>if b=true then te c (some (z)::bQ σ idx) H4 yes else no H4)
  (q:∀D H' vs,S H1 H'->H1 D=none->H' D=some (.lst vs)->jZ (Rep D) H' vs ((List.range (zs.length)).filterMap f)->Q (.ref D) H'):gX (zi K a) 1 idx (fun _=>cV 0) tt te σ Q H1:=by
 obtain ⟨Pc,kr⟩:∃Pc:Addr->Nat->List V->Hp->Prop,∀Z i ys H',Pc Z i ys H'↔S H1 H'/\H' Z=some (.lst ys)/\jZ (Rep Z) H' ys ((List.range i).filterMap f):=⟨_,fun _ _ _ _=>Iff.rfl⟩
 refine vh Pc (fun Z hZ=>(kr _ _ _ _).mpr ⟨sp Z _ _ hZ sr,ah,.nil⟩) (fun Z hZ i ys H' _ pv=>hL H' ((kr _ _ _ _).mp pv).1) (fun Z hZ i z ys H' hz pv cb=>?_) (fun Z hZ ys H' pv=>?_)
 ·obtain ⟨s1,qm,rl⟩:=(kr _ _ _ _).mp pv
  have hi:i < zs.length:=(List.getElem?_eq_some_iff.mp hz).1
  refine hs Z cb H' i z _ _ hz s1 hZ ⟨_,qm⟩ (fun d hd v H2 s2 hv=>?_) (fun hn H2 s2=>?_)
  ·refine ⟨sk Z _ _ _ hZ s1 s2 qm,?_,(kr _ _ _ _).mpr ⟨sp Z _ _ hZ (st _ _ s1 s2),ah,?_⟩⟩
   ·rw [rl.1]
    have:=Jh f i
    exact Nat.lt_of_le_of_lt (by lia:((List.range i).filterMap f).length<=1000000) (by decide)
   ·rw [j8,hd]
    exact (((rl.mono fun v d=>mono Z _ _ v d s1 s2)).snoc hv).mono fun v d=>yn Z H2 _ v d hZ (st _ _ s1 s2) ⟨_,sk Z _ _ _ hZ s1 s2 qm⟩
  ·refine (kr _ _ _ _).mpr ⟨st _ _ s1 s2,sk Z _ _ _ hZ s1 s2 qm,?_⟩
   rw [j8,hn,Option.toList_none,List.append_nil]
   exact rl.mono fun v d=>mono Z _ _ v d s1 s2
 ·obtain ⟨s1,qm,rl⟩:=(kr _ _ _ _).mp pv
  exact q Z H' ys s1 hZ qm rl
theorem DN {K:PySem.W.Frag} {a:Addr} {zs:List V} {idx:List Nat} {tt:CB->TT} {te:CB->TE} {σ:St} {Q:VK} {H1:Hp} {δ:Type} (S:Hp->Hp->Prop) (f:Nat->Option δ) (Rep:Addr->Hp->V->δ->Prop) (sr:S H1 H1) (st:∀H H',S H1 H->S H H'->S H1 H')
  (sp:∀D H o,H1 D=none->S H1 H->S H1 (upd H D o)) (sk:∀D H H' o,H1 D=none->S H1 H->S H H'->H D=some o->H' D=some o)
  (mono:∀D H H' v d,S H1 H->S H H'->Rep D H v d->Rep D H' v d) (yn:∀D H o v d,H1 D=none->S H1 H->(∃xs,H D=some (.lst xs))->Rep D H v d->Rep D (upd H D o) v d)
  (hL:∀H,S H1 H->H a=some (.tup zs)) (l9:zs.length<=900000)
  (hs:∀(D:Addr) (c:CB) (H:Hp) (i:Nat) (z:V) (yes:V->Hp->Prop) (no:Hp->Prop),zs[i]? = some z->S H1 H->H1 D=none->(∃xs,H D=some (.lst xs))->(∀d,f i=some d->∀v H',S H H'->Rep D H' v d->yes v H')->(f i=none->∀H',S H H'->no H')->tt c (some (z)::bQ σ idx) H fun b H4=>if b=true then te c (some (z)::bQ σ idx) H4 yes else no H4)
  (q:∀D H' vs,S H1 H'->H1 D=none->H' D=some (.lst vs)->jZ (Rep D) H' vs ((List.range (zs.length)).filterMap f)->Q (.ref D) H'):gX (Ny K a) 1 idx (fun _=>cV 0) tt te σ Q H1:=by
 obtain ⟨Pc,kr⟩:∃Pc:Addr->Nat->List V->Hp->Prop,∀Z i ys H',Pc Z i ys H'↔S H1 H'/\H' Z=some (.lst ys)/\jZ (Rep Z) H' ys ((List.range i).filterMap f):=⟨_,fun _ _ _ _=>Iff.rfl⟩
 refine jQ Pc (fun Z hZ=>(kr _ _ _ _).mpr ⟨sp Z _ _ hZ sr,ah,.nil⟩) (fun Z hZ i ys H' _ pv=>hL H' ((kr _ _ _ _).mp pv).1) (fun Z hZ i z ys H' hz pv cb=>?_) (fun Z hZ ys H' pv=>?_)
 ·obtain ⟨s1,qm,rl⟩:=(kr _ _ _ _).mp pv
  have hi:i < zs.length:=(List.getElem?_eq_some_iff.mp hz).1
  refine hs Z cb H' i z _ _ hz s1 hZ ⟨_,qm⟩ (fun d hd v H2 s2 hv=>?_) (fun hn H2 s2=>?_)
  ·refine ⟨sk Z _ _ _ hZ s1 s2 qm,?_,(kr _ _ _ _).mpr ⟨sp Z _ _ hZ (st _ _ s1 s2),ah,?_⟩⟩
   ·rw [rl.1]
    have:=Jh f i
    exact Nat.lt_of_le_of_lt (by lia:((List.range i).filterMap f).length<=1000000) (by decide)
   ·rw [j8,hd]
    exact (((rl.mono fun v d=>mono Z _ _ v d s1 s2)).snoc hv).mono fun v d=>yn Z H2 _ v d hZ (st _ _ s1 s2) ⟨_,sk Z _ _ _ hZ s1 s2 qm⟩
  ·refine (kr _ _ _ _).mpr ⟨st _ _ s1 s2,sk Z _ _ _ hZ s1 s2 qm,?_⟩
   rw [j8,hn,Option.toList_none,List.append_nil]
   exact rl.mono fun v d=>mono Z _ _ v d s1 s2
 ·obtain ⟨s1,qm,rl⟩:=(kr _ _ _ _).mp pv
  exact q Z H' ys s1 hZ qm rl
theorem gy {K:PySem.W.Frag} {a:Addr} {zs:List V} {idx:List Nat} {tt:CB->TT} {te:CB->TE} {σ:St} {Q:VK} {H1:Hp} {δ:Type} (f:Nat->Option δ) (Rep:Addr->Hp->V->δ->Prop) (mono:∀D H H' v d,bU H H'->Rep D H v d->Rep D H' v d) (yn:∀D H o v d,(∃xs,H D=some (.lst xs))->H1 D=none->Rep D H v d->Rep D (upd H D o) v d)
  (hL:H1 a=some (.lst zs)) (l9:zs.length<=900000)
  (hs:∀(D:Addr) (c:CB) (H:Hp) (i:Nat) (z:V) (yes:V->Hp->Prop) (no:Hp->Prop),zs[i]? = some z->bU H1 H->H1 D=none->(∃xs,H D=some (.lst xs))->(∀d,f i=some d->∀v H',bU H H'->Rep D H' v d->yes v H')->(f i=none->∀H',bU H H'->no H')->tt c (some (z)::bQ σ idx) H fun b H4=>if b=true then te c (some (z)::bQ σ idx) H4 yes else no H4)
  (q:∀D H' vs,bU H1 H'->H1 D=none->H' D=some (.lst vs)->jZ (Rep D) H' vs ((List.range (zs.length)).filterMap f)->Q (.ref D) H'):gX (zi K a) 1 idx (fun _=>cV 0) tt te σ Q H1:=
 yX bU f Rep (fun _ _ e=>e) (fun _ _ a b=>a.trans b) (fun D H o hD s b u e=>by rw [aq (aj e hD)];exact s b u e) (fun D H H' o _ _ s e=>s D o e) (fun D H H' v d _ s r=>mono D H H' v d s r) (fun D H o v d hD _ hl r=>yn D H o v d hl hD r) (fun H s=>s _ _ hL) l9 hs q
theorem oq {K:PySem.W.Frag} {a:Addr} {zs:List V} {idx:List Nat} {tt:CB->TT} {te:CB->TE} {σ:St} {Q:VK} {H1:Hp} {δ:Type} (f:Nat->Option δ) (Rep:Addr->Hp->V->δ->Prop) (mono:∀D H H' v d,bU H H'->Rep D H v d->Rep D H' v d) (yn:∀D H o v d,(∃xs,H D=some (.lst xs))->H1 D=none->Rep D H v d->Rep D (upd H D o) v d)
  (hL:H1 a=some (.tup zs)) (l9:zs.length<=900000)
  (hs:∀(D:Addr) (c:CB) (H:Hp) (i:Nat) (z:V) (yes:V->Hp->Prop) (no:Hp->Prop),zs[i]? = some z->bU H1 H->H1 D=none->(∃xs,H D=some (.lst xs))->(∀d,f i=some d->∀v H',bU H H'->Rep D H' v d->yes v H')->(f i=none->∀H',bU H H'->no H')->tt c (some (z)::bQ σ idx) H fun b H4=>if b=true then te c (some (z)::bQ σ idx) H4 yes else no H4)
  (q:∀D H' vs,bU H1 H'->H1 D=none->H' D=some (.lst vs)->jZ (Rep D) H' vs ((List.range (zs.length)).filterMap f)->Q (.ref D) H'):gX (Ny K a) 1 idx (fun _=>cV 0) tt te σ Q H1:=
 DN bU f Rep (fun _ _ e=>e) (fun _ _ a b=>a.trans b) (fun D H o hD s b u e=>by rw [aq (aj e hD)];exact s b u e) (fun D H H' o _ _ s e=>s D o e) (fun D H H' v d _ s r=>mono D H H' v d s r) (fun D H o v d hD _ hl r=>yn D H o v d hl hD r) (fun H s=>s _ _ hL) l9 hs q
theorem gH.mono {H H':Hp} {v:V} {d:List Int} (k:∀b xs,H b=some (.tup xs)->H' b=some (.tup xs)) (r:gH H v d):gH H' v d:=let ⟨b,e,h⟩:=r;⟨b,e,k _ _ h⟩
theorem gH.put {H:Hp} {v:V} {d:List Int} {D:Addr} {o:HO} (hl:∃xs,H D=some (.lst xs)) (r:gH H v d):gH (upd H D o) v d:=by
 obtain ⟨b,rfl,h⟩:=r
 obtain ⟨xs,hx⟩:=hl
 exact ⟨b,rfl,by rw [aq (aY h hx (by intro z;cases z))];exact h⟩
theorem gH.same:∀(D:Addr) (H H':Hp) (v:V) (d:List Int),bU H H'->(fun _=>gH) D H v d->(fun _=>gH) D H' v d:=fun _ _ _ _ _ s r=>r.mono fun b xs e=>s _ _ e
theorem gH.puts {H1:Hp}:∀(D:Addr) (H:Hp) (o:HO) (v:V) (d:List Int),(∃xs,H D=some (.lst xs))->H1 D=none->(fun _=>gH) D H v d->(fun _=>gH) D (upd H D o) v d:=fun _ _ _ _ _ hl _ r=>r.put hl
def Nv (H:Hp) (v d:V):Prop:=v=d
theorem t7 {H:Hp} {vs ds:List V} (h:jZ Nv H vs ds):vs=ds:=List.ext_getElem? fun i=>by
 by_cases hi:i < vs.length
 ·have hj:i < ds.length:=by have:=h.1;lia
  rw [List.getElem?_eq_getElem hi,List.getElem?_eq_getElem hj]
  exact congrArg some (h.2 i _ _ (List.getElem?_eq_getElem hi) (List.getElem?_eq_getElem hj))
 ·rw [List.getElem?_eq_none (by lia),List.getElem?_eq_none (by have:=h.1;lia)]
theorem M3 {δ:Type} {f:Nat->Option δ} {l:List δ} (h:∀i,i < l.length->f i=l[i]?):(List.range l.length).filterMap f=l:=by
 have:∀n,n<=l.length->(List.range n).filterMap f=l.take n:=fun n=>by
  induction n with
  | zero=>intro _;rfl
  | succ n ih=>
   intro hn
   rw [j8,ih (by lia),h n (by lia),List.take_add_one]
 rw [this _ (Nat.le_refl _),List.take_length]
theorem oa {δ:Type} {l:List δ} {p:δ->Bool} {f:Nat->Option δ} (h:∀i (hi:i < l.length),f i=if p l[i] then some l[i] else none):(List.range l.length).filterMap f=l.filter p:=by
 have:∀n,n<=l.length->(List.range n).filterMap f=(l.take n).filter p:=fun n=>by
  induction n with
  | zero=>intro _;rfl
  | succ n ih=>
   intro hn
   rw [j8,ih (by lia),h n (by lia),List.take_add_one,List.filter_append,List.getElem?_eq_getElem (by lia)]
   cases e:p l[n] <;> simp [e]
 rw [this _ (Nat.le_refl _),List.take_length]
theorem qw {α δ:Type} {l:List α} {g:α->δ} {f:Nat->Option δ} (h:∀i (hi:i < l.length),f i=some (g l[i])):(List.range l.length).filterMap f=l.map g:=by
 have:=M3 (f:=f) (l:=l.map g) fun i hi=>by
  rw [List.length_map] at hi
  rw [h i hi,List.getElem?_map,List.getElem?_eq_getElem hi];rfl
 rwa [List.length_map] at this
end L2
end
section
namespace L2
open PySem
theorem aG.mono {H H':Hp} {bs:List Addr} {ts:List (List Int)} (k:∀b xs,H b=some (.tup xs)->H' b=some (.tup xs)) (s:aG H bs ts):aG H' bs ts:=⟨s.1,fun i b t hb ht=>k _ _ (s.2 i b t hb ht)⟩
theorem aG.snoc {H:Hp} {bs:List Addr} {ts:List (List Int)} {b:Addr} {t:List Int} (s:aG H bs ts) (hb:H b=some (.tup (List.map V.int t))):aG H (bs++[b]) (ts++[t]):=by
 refine ⟨by rw [List.length_append,List.length_append,s.1];rfl,fun i c u hc hu=>?_⟩
 by_cases hi:i < bs.length
 ·rw [List.getElem?_append_left hi] at hc
  rw [List.getElem?_append_left (by rw [<-s.1];exact hi)] at hu
  exact s.2 i c u hc hu
 ·rw [List.getElem?_append_right (by lia)] at hc
  rw [List.getElem?_append_right (by rw [<-s.1];lia),<-s.1] at hu
  have h0:i - bs.length=0:=by
   cases z:i - bs.length with
   | zero=>rfl
   | succ n=>rw [z] at hc;simp at hc
  rw [h0] at hc hu
  cases hc;cases hu
  exact hb
theorem aG.app {H:Hp} {bs cs:List Addr} {ts us:List (List Int)} (s:aG H bs ts) (u:aG H cs us):aG H (bs++cs) (ts++us):=by
 refine ⟨by rw [List.length_append,List.length_append,s.1,u.1],fun i c x hc hx=>?_⟩
 by_cases hi:i < bs.length
 ·rw [List.getElem?_append_left hi] at hc
  rw [List.getElem?_append_left (by rw [<-s.1];exact hi)] at hx
  exact s.2 i c x hc hx
 ·rw [List.getElem?_append_right (by lia)] at hc
  rw [List.getElem?_append_right (by rw [<-s.1];lia),<-s.1] at hx
  exact u.2 _ c x hc hx
theorem wC (K:PySem.W.Frag) (T:String):PySem.W.kitOne K (.type T) (.type T)=some true:=by
 unfold PySem.W.kitOne
 rw [if_pos (by simp)]
end L2
end
section
namespace L2
open PySem PySem.Spec PyProof.Rows
section
variable {P:Program} {w:World} {A:Around} {E:Value->Shared->Prop} {s:Shared}
theorem BZ {l:Addr} {items:Array Value} {ss:List Int} {Q:Value->Shared->Prop} (hh:A.handled=none) (hl:s.heap.IsTuple l items) (hi:IntsAre items.toList ss) (hb:items.size+1 < scanBound)
  (h:∀(h':Heap) (tk:Nat) (ls:List (Int×Tok)),iG w h' s.heap.objs.size ls->(∀z,z∈ls.map (·.1)↔z∈ss)->(∀b o,b < s.heap.objs.size->s.heap.get? b=some o->h'.get? b=some o)->Q (.ref s.heap.objs.size) { s with heap:=h',toks:=tk }) :
  wpAny (model P w) A (call (.type "set") [.ref l]) Q E s:=by
 have e:∀z:Int,(∃j,j < items.size/\ss.getD j 0=z)↔z∈ss:=fun z=>by
  have hlen:items.size=ss.length:=by rw [<-Array.length_toList];exact hi.length
  rw [hlen,List.mem_iff_getElem]
  constructor
  ·rintro ⟨j,hj,e⟩;exact ⟨j,hj,by rw [<-e];simp [hj]⟩
  ·rintro ⟨j,hj,e⟩;exact ⟨j,hj,by rw [<-e];simp [hj]⟩
 obtain ⟨c,tl,aAF⟩:=PySem.F.called_set.mro
 have Ve:=PySem.F.called_set.made
 have yL:=PySem.F.called_set.sub
 refine wpAny_call (codeAny_of_tree (wpAny_pure (a:=_) ⟨Code.quiet_builtin _ (by decide +kernel),codeAny_builtin PySem.F.entry_type_call ?_⟩))
 rw [Around.under_plain (weight_type_call_type "set" [.ref l] []) rfl]
 have h1:=PySem.F.called_set.notType
 have h2:=PySem.F.called_set.canCreate
 have hct:=PySem.F.typeCall_set_1 (.ref l)
 repeat (any_goals (first | assumption | wp_step))
 refine codeAny_mono (zK (x:=.ref l) (E:=E) (Q:=fun obj s₁=>obj=.ref s.heap.objs.size/\s₁={ s with heap:=s.heap.push (dm #[] 0 (.fresh 0 0 (!ow w))) }) ⟨rfl,rfl⟩) fun r s₁ hr=>?_
 cases r with
 | error e=>exact hr
 | ok fl=>
  cases fl with
  | ret obj=>
   obtain ⟨rfl,rfl⟩:=hr
   have hS:(s.heap.push (dm #[] 0 (.fresh 0 0 (!ow w)))).get? s.heap.objs.size=some (dm #[] 0 (.fresh 0 0 (!ow w))):=Heap.get?_push_size _ rfl
   have hT:Shared.TypeIs { s with heap:=s.heap.push (dm #[] 0 (.fresh 0 0 (!ow w))) } (.ref s.heap.objs.size) "set":=⟨_,hS,rfl⟩
   have hli:=PySem.F.called_set.init.lookup
   have hbi:=PySem.F.called_set.init.bind (.ref s.heap.objs.size)
   repeat (any_goals (first | assumption | wp_step))
   refine codeAny_mono (codeAny_call_builtin (R:=wants (fun r s₂=>r=.none/\∃h' tk ls,s₂={ s with heap:=h',toks:=tk }/\iG w h' s.heap.objs.size ls/\(∀z,z∈ls.map (·.1)↔z∈ss)/\
     (∀b o,b < s.heap.objs.size->s.heap.get? b=some o->h'.get? b=some o)) E) PySem.F.called_set.init.plain PySem.F.entry_set_init (check_set_init_1 hT ?_)) fun r₂ s₂ Rh=>?_
   ·obtain ⟨ol,U8,tj,nl,Ox⟩:=hl
    obtain ⟨Zx,Hs,Us,ye⟩:=ol
    simp only at tj Ox
    subst tj;subst Ox
    have Rr:(s.heap.push (dm #[] 0 (.fresh 0 0 (!ow w)))).get? l=some { cls:=.type "tuple",dict:=Hs,data:=.seq items nl,slots:=ye }:=Heap.get?_push_of_some _ U8
    have aAy:=PySem.F.sub_tuple_set
    have aAz:=PySem.F.sub_tuple_frozenset
    have qQ:(Value.type "tuple" == Value.type "dict")=false:=by decide
    have rn:(s.heap.push (dm #[] 0 (.fresh 0 0 (!ow w)))).IsTuple l items:=⟨_,Rr,rfl,nl,rfl⟩
    unfold Builtin.«set.__init__» noKeywords Builtin.Frozenset.updateFrom
    unfold dm at *
    generalize hPI:pyIter=PI
    wp_walk
    subst hPI
    refine wpAny_pyIter_tuple rn (wpAny_bind (wpAny_runValue ?_))
    have Vg:l < s.heap.objs.size:=Heap.lt_size U8
    have hh3:A.in1.in1.in1.handled=none:=by simp [hh]
    have hsz:(s.heap.push (dm #[] 0 (.fresh 0 0 (!ow w)))).objs.size=s.heap.objs.size+1:=Heap.size_push _ _
    have Rv:l≠(s.heap.push (dm #[] 0 (.fresh 0 0 (!ow w)))).objs.size:=by rw [hsz];exact Nat.ne_of_lt (Nat.lt_succ_of_lt Vg)
    have SQ:s.heap.objs.size∉[(s.heap.push (dm #[] 0 (.fresh 0 0 (!ow w)))).objs.size,l]:=by
     rw [hsz];simp only [List.mem_cons,List.mem_singleton,List.not_mem_nil,or_false,not_or];exact ⟨Nat.ne_of_lt (Nat.lt_succ_self _),Nat.ne_of_gt Vg⟩
    refine wz ((Walks.tuple hh3 _ l Rv items).toS) s.heap.objs.size SQ (fun j=>ss.getD j 0) (fun i v hv=>?hv) hb (items.size - 0) 0 _ [] (by lia) (Nat.zero_le _)
     ⟨⟨_,Heap.get?_push_size _ rfl,rfl,rfl⟩,(rn.push _)⟩ ?hS0 (Nat.zero_le _) (fun z=>⟨(fun z=>nomatch z),fun ⟨_,hj,_⟩=>absurd hj (Nat.not_lt_zero _)⟩) ?hR
    case hv=>exact qj hi i v (by rw [Array.getElem?_toList];exact hv)
    case hS0=>exact ⟨⟨#[],0,_,Heap.get?_push_of_some _ hS,rfl,rfl,rfl,List.Pairwise.nil⟩,List.nodup_nil,by decide⟩
    case hR=>
     intro s' l' hm Mz mem
     obtain ⟨h',g',d',Td,Um⟩:=s'
     have eg:g'=s.gens:=hm.gens
     have ed:d'=s.drawn:=hm.drawn
     have eo:Um=s.os:=hm.os
     subst eg;subst ed;subst eo
     refine wpAny_pure (wpAny_pure ⟨rfl,h',Td,l',rfl,Mz,fun z=>(mem z).trans (e z),fun b o hb e=>?_⟩)
     refine hm.heap b o ?_ (Heap.get?_push_of_some _ (Heap.get?_push_of_some _ e))
     rw [hsz]
     simp only [List.mem_cons,List.mem_singleton,List.not_mem_nil,or_false,not_or];exact ⟨Nat.ne_of_lt hb,Nat.ne_of_lt (Nat.lt_succ_of_lt hb)⟩
   ·cases r₂ with
    | error e=>exact Rh
    | ok fl₂=>
     cases fl₂ with
     | ret r=>
      obtain ⟨rfl,h',tk,ls,rfl,Mz,hm',Rw⟩:=Rh
      repeat (any_goals (first | assumption | wp_step))
      exact h _ _ _ Mz hm' Rw
     | _=>exact Rh.elim
  | _=>exact hr.elim
end
section
variable {X:Cx}
def uD (w:World):List V->Hp->VK->Prop:=fun vs H Q=>∃a,vs=[.ref a]/\∃ss:List Int,H a=some (.tup (ss.map V.int))/\ss.length < 4000/\∀p,H p=none->Q (.ref p) (upd H p (Ww w p ss))
theorem y7 (hh:X.A.handled=none):dA X (.type "set") (uD X.w):=by
 intro pins s σ H vs us Q I rv h
 obtain ⟨a,rfl,ss,hq,hn,q⟩:=h
 obtain ⟨u,rfl,ru⟩:=vals1 rv
 cases ru
 obtain ⟨its,r,pl,hz⟩:=I.tuple (bR hq)
 have hl:=r.length
 rw [List.length_map] at hl
 refine BZ (ss:=ss) hh pl (intsAre_of r) (by show its.toArray.size+1 < 4096;rw [List.size_toArray];lia) fun h' tk ls hS hm hk=>?_
 have Rw:∀b o,s.heap.get? b=some o->h'.get? b=some o:=fun b o e=>hk b o (Heap.lt_size e) e
 refine ⟨.ref s.heap.objs.size,_,I.laid (t':=tk) (o:=Ww X.w s.heap.objs.size ss) Rw (Nat.le_refl _) ?_,rfl,q _ I.fresh⟩
 exact ⟨⟨ls,hS,hm⟩,(let ⟨_,_,_,e,_⟩:=hS.ex;⟨_,e⟩),fun h1 h2 ⟨l1,x1,m1⟩ k=>⟨l1,x1.at k,m1⟩⟩
end
end L2
end
section
namespace L2
open PySem PySem.Spec PyProof.Rows
section
variable {P:Program} {w:World} {κ:Type} [DecidableEq κ] {knd:PySem.KeyKind P w κ} {A:Around} {E:Value->Shared->Prop} {s:Shared} {a b:Addr} {aE HS:List (κ×Value)}
end
section
variable {X:Cx}
def N3 (neg:Bool):R2:=fun x y H Q=>∃a b,x=.ref a/\y=.ref b/\∃aE HS,H a=some (.dK aE)/\H b=some (.dK HS)/\aE.length=HS.length/\
 (∀k v,(k,v)∈aE->∃p q t,v=.ref p/\(k,V.ref q)∈HS/\H p=some (.tup (List.map V.int t))/\H q=some (.tup (List.map V.int t)))/\Q (.bl (!neg)) H
end
end L2
end
section
namespace L2
open PySem PySem.Spec PyProof.Rows
section
variable {X:Cx} {pins:List (Addr×Obj)} {σ:St} {H:Hp} {s:Shared} {d:Addr} {o:Obj} {aE:List (Key×V)}
end
def Itd (d:Addr) (o:Obj) (aE:List (Key×V)):It:=
 ⟨fun i H=>i < aE.length/\H d=some (.tI o (.dK aE)),fun i H x H'=>H'=H/\∃k v,aE[i]? = some (k,v)/\x=kV k,fun i H=>aE.length<=i/\H d=some (.tI o (.dK aE))⟩
section
variable {X:Cx} {tg:Expr}
def Oe (te:TE):TI:=fun σ H R=>te σ H fun v H1=>∃a aE,v=.ref a/\H1 a=some (.dK aE)/\∀o,R (Itd a o aE) (upd H1 a (.tI o (.dK aE)))
def NR (H0:Hp) (t:TS):TS:=fun D σ H=>∃d o aE,H d=some (.tI o (.dK aE))/\H0 d=none/\t D σ (upd H d (.dK aE))
end
end L2
end
section
namespace L2
open PySem PySem.Spec PyProof.Rows
section
variable {X:Cx}
def Gn:V->List V->Hp->VK->Prop:=fun x vs H Q=>∃a n d,x=.ref a/\vs=[.int n,d]/\∃aE,H a=some (.dK aE)/\Q ((dM aE (Sum.inl n)).getD d) H
def vW:V->List V->Hp->VK->Prop:=fun x vs H Q=>∃l b xs zs,x=.ref l/\vs=[.ref b]/\H l=some (.lst xs)/\H b=some (.tup zs)/\xs.length+zs.length<=sizeLine/\Q .non (upd H l (.lst (xs++zs)))
end
section
variable {X:Cx} {N:List Str} {sc:Scope} {pos:Pos}
end
section
variable {X:Cx}
end
end L2
end
section
namespace L2
open PySem
theorem Ce {H H1:Hp} {p:Addr} {o:HO} (a:bU H H1) (hn:H p=none):bU H (upd H1 p o):=fun b u e=>by rw [aq (aj e hn)];exact a b u e
theorem sW {κ:Type} [DecidableEq κ] {aE:List (κ×V)} {k:κ} {v:V}:(putK aE k v).map (·.1)=if k∈aE.map (·.1) then aE.map (·.1) else aE.map (·.1)++[k]:=by
 unfold putK
 by_cases h:(aE.any fun kv=>decide (kv.1=k))=true
 ·have hm:k∈aE.map (·.1):=by
   obtain ⟨kv,Sw,e⟩:=List.any_eq_true.mp h
   rw [<-of_decide_eq_true e]
   exact List.mem_map_of_mem Sw
  rw [if_pos h,if_pos hm,List.map_map]
  refine List.map_congr_left fun kv _=>?_
  show (if kv.1=k then (kv.1,v) else kv).1=kv.1
  split <;> rfl
 ·have hm:k∉aE.map (·.1):=fun z=>by
   obtain ⟨kv,Sw,e⟩:=List.mem_map.mp z
   exact h (List.any_eq_true.mpr ⟨kv,Sw,decide_eq_true e⟩)
  rw [if_neg h,if_neg hm,List.map_append]
  rfl
theorem uX {a b:List Int} (h:(a.map Sum.inl:List Key)=b.map Sum.inl):a=b:=(List.map_inj_right fun _ _ e=>Sum.inl.inj e).mp h
theorem fO {qs:List Addr} {i:Nat} {x:V} (h:(List.map V.ref qs)[i]? = some x):∃q,qs[i]? = some q/\x=.ref q:=by
 rw [List.getElem?_map] at h
 cases e:qs[i]? with
 | none=>rw [e] at h;cases h
 | some q=>rw [e] at h;exact ⟨q,rfl,(Option.some.inj h).symm⟩
theorem aK {H:Hp} {p:Addr} (h:H p=none) (o:HO):bU H (upd H p o):=fun b u q=>by rw [aq (aj q h)];exact q
def Fz:Sp:=fun vs H Q _=>∃L,vs=[.ref L]/\∃as ss,H L=some (.lst (List.map V.ref as))/\aG H as ss/\as.length<=90000/\
 ∀D H' bs ts,bU H H'->H D=none->H' D=some (.lst (List.map V.ref bs))->aG H' bs ts->ts.Nodup->(∀x,x∈ts↔x∈ss)->ts.Pairwise (fun a b=>bL a b=true)->Q (.ref D) H'
def aA (x y:List Int):Bool:=x.all fun m=>decide (m∈y)
theorem ql (m:Int) (y:List Int):Od (.int m) (List.map V.int y)=decide (m∈y):=by
 unfold Od
 rw [List.any_map,Bool.eq_iff_iff,List.any_eq_true,decide_eq_true_eq]
 constructor
 ·rintro ⟨z,hz,e⟩
  have:z=m:=by simpa [Eo] using e
  rw [<-this];exact hz
 ·intro h
  exact ⟨m,h,by simp [Eo]⟩
theorem og (y:List Int):(List.map V.int y).all gq=true:=by
 rw [List.all_map,List.all_eq_true]
 intro _ _
 rfl
theorem int_at {ns:List Int} {i:Nat} {x:V} (h:(List.map V.int ns)[i]? = some x):∃n,ns[i]? = some n/\x=.int n:=by
 rw [List.getElem?_map] at h
 cases e:ns[i]? with
 | none=>rw [e] at h;cases h
 | some q=>rw [e] at h;exact ⟨q,rfl,(Option.some.inj h).symm⟩
def PN:Sp:=fun vs H Q _=>∃a b,vs=[.ref a,.ref b]/\∃x y:List Int,H a=some (.tup (List.map V.int x))/\H b=some (.tup (List.map V.int y))/\Q (.bl (aA x y)) H
def sd (lies:Bool):Sp:=fun vs H Q _=>∃a L,vs=[.ref a,.ref L]/\∃(x:List Int) (bs:List Addr) (ts:List (List Int)),H a=some (.tup (List.map V.int x))/\H L=some (.lst (List.map V.ref bs))/\aG H bs ts/\Q (.bl (ts.any fun t=>if lies then aA x t else aA t x)) H
def hv (l:Addr) (a b c d e:Int):HO:=.lst [.ref l,.int a,.int b,.int c,.int d,.int e]
def Wx (l:Addr) (o:HO):Prop:=∃a b c d e,o=hv l a b c d e/\0<=a
def uh:Sp:=fun vs H Q _=>∃h,vs=[.ref h]/\∃l a b c d e,H h=some (hv l a b c d e)/\Q (.int (d * 48271 % 2147483647+e * 40693 % 2147483399)) (upd H h (hv l a b c (d * 48271 % 2147483647) (e * 40693 % 2147483399)))
def PB:Sp:=fun vs H Q _=>∃h,vs=[.ref h]/\∃l ns o,H h=some o/\Wx l o/\H l=some (.lst (List.map V.int ns))/\∀o',Wx l o'->Q .non (upd H h o')
def FG:Sp:=fun vs H Q _=>∃h m,vs=[.ref h,.int m]/\1<=m/\m < 2 ^ 300/\∃l ns o,H h=some o/\Wx l o/\H l=some (.lst (List.map V.int ns))/\∀r o',0<=r->r < m->Wx l o'->Q (.int r) (upd H h o')
def Hd (H:Hp) (h l:Addr):Prop:=∃ns o,H h=some o/\Wx l o/\H l=some (.lst (List.map V.int ns))
def dW (H:Hp) (h:Addr):Prop:=∃l,Hd H h l
structure Dr (h:Addr) (H H':Hp):Prop where
 keep:∀b o,b≠h->H b=some o->H' b=some o
 hand:∀l,Hd H h l->Hd H' h l
theorem Dr.refl {h:Addr} {H:Hp}:Dr h H H:=⟨fun _ _ _ e=>e,fun _ x=>x⟩
theorem Dr.trans {h:Addr} {H H1 H2:Hp} (a:Dr h H H1) (b:Dr h H1 H2):Dr h H H2:=⟨fun c o hc e=>b.keep c o hc (a.keep c o hc e),fun l x=>b.hand l (a.hand l x)⟩
theorem Dr.fi {h:Addr} {H H1:Hp} (a:Dr h H H1) (x:dW H h):dW H1 h:=let ⟨l,y⟩:=x;⟨l,a.hand l y⟩
theorem Hd.apart {H:Hp} {h l:Addr} (x:Hd H h l):l≠h:=by
 obtain ⟨ns,o,e1,⟨a,b,c,d,e,rfl,_⟩,e3⟩:=x
 intro z
 rw [z,e1] at e3
 have q:=Option.some.inj e3
 unfold hv at q
 injection q with q
 match ns,q with
 | [],q=>cases q
 | n::_,q=>injection q with q1 _;cases q1
theorem Dr.new {h p:Addr} {H H1:Hp} {o:HO} (a:Dr h H H1) (hp:H1 p=none):Dr h H (upd H1 p o):=by
 refine ⟨fun c o' hc e=>?_,fun l x=>?_⟩
 ·rw [aq (aj (a.keep c o' hc e) hp)];exact a.keep c o' hc e
 ·obtain ⟨ns,oh,e1,e2,e3⟩:=a.hand l x
  exact ⟨ns,oh,by rw [aq (aj e1 hp)];exact e1,e2,by rw [aq (aj e3 hp)];exact e3⟩
theorem Dr.put {h p:Addr} {H H1:Hp} {o':HO} (a:Dr h H H1) (hn:H p=none):Dr h H (upd H1 p o'):=by
 refine ⟨fun c o' hc e=>?_,fun l x=>?_⟩
 ·rw [aq (aj e hn)];exact a.keep c o' hc e
 ·obtain ⟨ns,oh,e1,e2,e3⟩:=a.hand l x
  obtain ⟨_,_,f1,_,f3⟩:=x
  exact ⟨ns,oh,by rw [aq (aj f1 hn)];exact e1,e2,by rw [aq (aj f3 hn)];exact e3⟩
theorem dW.ne {h p:Addr} {H:Hp} (x:dW H h) (hp:H p=none):p≠h:=by
 obtain ⟨l,ns,oh,e1,_,_⟩:=x
 exact (aj e1 hp).symm
theorem Dr.free {h p:Addr} {H H1:Hp} (a:Dr h H H1) (x:dW H h) (hp:H1 p=none):H p=none:=by
 cases e:H p with
 | none=>rfl
 | some o=>
  have n:=(a.fi x).ne hp
  have:=a.keep p o n e
  rw [hp] at this;cases this
theorem cP {h:Addr} {m:Int} {H0 H:Hp} {Q:VK} {E:XK} (hd:dW H0 h) (d:Dr h H0 H) (h1:1<=m) (h2:m < 2 ^ 300) (q:∀r H',0<=r->r < m->Dr h H0 H'->(∀b,b≠h->H' b=H b)->Q (.int r) H'):FG [.ref h,.int m] H Q E:=by
 obtain ⟨l,x⟩:=hd
 have x':=d.hand l x
 have ap:=x'.apart
 obtain ⟨ns,oh,e1,e2,e3⟩:=x'
 refine ⟨h,m,rfl,h1,h2,l,ns,oh,e1,e2,e3,fun r o' r0 r1 ho=>q r _ r0 r1 ⟨fun c o hc e=>?_,fun l' x'=>?_⟩ (fun b hb=>aq hb)⟩
 ·rw [aq hc];exact d.keep c o hc e
 ·have y:=d.hand l' x'
  have ap':=y.apart
  obtain ⟨Eh,oh',f1,f2,f3⟩:=y
  have el:l'=l:=by
   obtain ⟨a,b,c,d,e,rfl,_⟩:=e2
   obtain ⟨a',b',c',d',e',rfl,_⟩:=f2
   rw [e1] at f1
   have:=Option.some.inj f1
   unfold hv at this
   injection this with this
   injection this with this _
   exact (V.ref.inj this).symm
  subst el
  exact ⟨ns,o',ah,ho,by rw [aq ap];exact e3⟩
theorem xg {α:Type} (f:α->V) (xs:List α) (lo hi:Option Int):gE (xs.map f) lo hi=((xs.drop (HT.cJ xs.length 0 lo)).take (HT.cJ xs.length xs.length hi - HT.cJ xs.length 0 lo)).map f:=by
 unfold gE;rw [List.length_map,List.map_take,List.map_drop]
def PX (K:PySem.W.Frag):Sp:=fun vs H Q _=>∃a ns,vs=[.ref a]/\mG K H a (List.map V.int ns)/\∀h H',bU H H'->H h=none->dW H' h->Q (.ref h) H'
def dJ (x:List Int):Prop:=x.Pairwise (· < ·)
theorem aQ {x y:List Int}:aA x y=true↔∀m∈x,m∈y:=by
 unfold aA
 rw [List.all_eq_true]
 exact ⟨fun h m hm=>of_decide_eq_true (h m hm),fun h m hm=>decide_eq_true (h m hm)⟩
theorem dJ.nodup {x:List Int} (h:dJ x):x.Nodup:=h.imp fun Xn e=>by lia
theorem kc:∀{x y:List Int},dJ x->dJ y->(∀m,m∈x↔m∈y)->x=y
 | [],[],_,_,_=>rfl
 | [],b::y,_,_,h=>absurd ((h b).mpr List.mem_cons_self) (by simp)
 | a::x,[],_,_,h=>absurd ((h a).mp List.mem_cons_self) (by simp)
 | a::x,b::y,hx,hy,h=>by
  have pE:=List.pairwise_cons.mp hx
  have uY:=List.pairwise_cons.mp hy
  have Xn:a=b:=by
   rcases List.mem_cons.mp ((h a).mp List.mem_cons_self) with e | e
   ·exact e
   ·rcases List.mem_cons.mp ((h b).mpr List.mem_cons_self) with e' | e'
    ·exact e'.symm
    ·have:=uY.1 a e
     have:=pE.1 b e'
     lia
  subst Xn
  rw [kc pE.2 uY.2 fun m=>⟨fun hm=>?_,fun hm=>?_⟩]
  ·rcases List.mem_cons.mp ((h m).mp (List.mem_cons_of_mem _ hm)) with e | e
   ·have:=pE.1 m hm;lia
   ·exact e
  ·rcases List.mem_cons.mp ((h m).mpr (List.mem_cons_of_mem _ hm)) with e | e
   ·have:=uY.1 m hm;lia
   ·exact e
theorem eN {x y:List Int} (hx:dJ x) (h:aA x y=true):x.length<=y.length:=cU hx.nodup (aQ.mp h)
theorem iS {x y:List Int} (hx:dJ x) (hy:dJ y) (h:aA x y=true) (hl:x.length=y.length):x=y:=by
 refine kc hx hy fun m=>⟨aQ.mp h m,fun hm=>?_⟩
 refine Classical.byContradiction fun hn=>?_
 have h1:(m::x).Nodup:=List.nodup_cons.mpr ⟨hn,hx.nodup⟩
 have:=cU h1 fun z hz=>by
  rcases List.mem_cons.mp hz with e | e
  ·rw [e];exact hm
  ·exact aQ.mp h z e
 rw [List.length_cons] at this
 lia
theorem yc {x y:List Int} (hx:dJ x) (hy:dJ y) (h:aA x y=true) (ne:x≠y):bL x y=true:=by
 unfold bL
 have h1:=eN hx h
 have h2:x.length≠y.length:=fun e=>ne (iS hx hy h e)
 rw [decide_eq_true (by lia:x.length < y.length)]
 rfl
theorem jK (x:List Int):aA x x=true:=aQ.mpr fun _ h=>h
theorem eD {x y z:List Int} (h1:aA x y=true) (h2:aA y z=true):aA x z=true:=aQ.mpr fun m hm=>aQ.mp h2 m (aQ.mp h1 m hm)
def gh:List (List Int)->List (List Int)->List (List Int)
 | [],acc=>acc
 | x::r,acc=>gh r (if acc.any (fun t=>aA t x) then acc else acc++[x])
theorem qg:∀(r acc seen:List (List Int)),(∀x∈seen++r,dJ x)->(seen++r).Pairwise (fun a b=>bL a b=true)->(∀x,x∈acc↔x∈seen/\∀y∈seen,aA y x=true->y=x)->
  (∀x,x∈gh r acc↔x∈seen++r/\∀y∈seen++r,aA y x=true->y=x)
 | [],acc,seen,_,_,h=>fun x=>by
  show x∈acc↔_
  rw [List.append_nil]
  exact h x
 | a::r,acc,seen,hr,pw,h=>by
  have e:seen++a::r=(seen++[a])++r:=by simp
  show ∀x,x∈gh r (if acc.any (fun t=>aA t a)=true then acc else acc++[a])↔_
  rw [e] at hr pw ⊢
  refine qg r _ (seen++[a]) hr pw fun x=>?_
  have ra:dJ a:=hr a (by simp)
  have Uc:=(List.pairwise_append.mp pw).1
  have ahead:∀y∈seen,bL y a=true:=fun y hy=>(List.pairwise_append.mp Uc).2.2 y hy a (by simp)
  have UL:∀y∈seen,y≠a:=fun y hy e=>by
   have:=ahead y hy
   rw [e] at this
   unfold bL at this
   rw [iq] at this
   simp at this
  have low:∀n,∀y∈seen,y.length<=n->∃z∈acc,aA z y=true:=by
   intro n
   induction n with
   | zero=>
    intro y hy hl
    refine ⟨y,(h y).mpr ⟨hy,fun z hz hp=>?_⟩,jK y⟩
    have h1:=eN (hr z (by simp [hz])) hp
    exact iS (hr z (by simp [hz])) (hr y (by simp [hy])) hp (by lia)
   | succ n ih=>
    intro y hy hl
    by_cases hm:∀z∈seen,aA z y=true->z=y
    ·exact ⟨y,(h y).mpr ⟨hy,hm⟩,jK y⟩
    ·obtain ⟨z,hz⟩:=Classical.not_forall.mp hm
     obtain ⟨hz,rk⟩:=Classical.not_imp.mp hz
     obtain ⟨hp,qQ⟩:=Classical.not_imp.mp rk
     have h1:=eN (hr z (by simp [hz])) hp
     have h2:z.length≠y.length:=fun e=>qQ (iS (hr z (by simp [hz])) (hr y (by simp [hy])) hp e)
     obtain ⟨u,hu,Rf⟩:=ih z hz (by lia)
     exact ⟨u,hu,eD Rf hp⟩
  by_cases c:acc.any (fun t=>aA t a)=true
  ·rw [if_pos c]
   obtain ⟨t,ht,JZ⟩:=List.any_eq_true.mp c
   have Ej:=((h t).mp ht).1
   rw [h x]
   constructor
   ·rintro ⟨h1,h2⟩
    refine ⟨by simp [h1],fun y hy hp=>?_⟩
    rcases List.mem_append.mp hy with z | z
    ·exact h2 y z hp
    ·have ey:y=a:=by simpa using z
     subst ey
     have:=eD JZ hp
     have e2:=h2 t Ej this
     subst e2
     have l1:=eN (hr t (by simp [h1])) JZ
     have l2:=eN ra hp
     exact (iS ra (hr t (by simp [h1])) hp (by lia))
   ·rintro ⟨h1,h2⟩
    rcases List.mem_append.mp h1 with z | z
    ·exact ⟨z,fun y hy hp=>h2 y (by simp [hy]) hp⟩
    ·have ex:x=a:=by simpa using z
     subst ex
     exact absurd (h2 t (by simp [Ej]) JZ) (UL t Ej)
  ·rw [if_neg c,List.mem_append,h x]
   constructor
   ·rintro (⟨h1,h2⟩ | h1)
    ·refine ⟨by simp [h1],fun y hy hp=>?_⟩
     rcases List.mem_append.mp hy with z | z
     ·exact h2 y z hp
     ·have ey:y=a:=by simpa using z
      subst ey
      have l2:=eN ra hp
      have:=ahead x h1
      unfold bL at this
      simp only [Bool.or_eq_true,Bool.and_eq_true,decide_eq_true_eq] at this
      rcases this with u | ⟨u,_⟩
      ·lia
      ·exact iS ra (hr x (by simp [h1])) hp u.symm
    ·have ex:x=a:=by simpa using h1
     subst ex
     refine ⟨by simp,fun y hy hp=>?_⟩
     rcases List.mem_append.mp hy with z | z
     ·obtain ⟨u,hu,Rf⟩:=low y.length y z (Nat.le_refl _)
      exact (c (List.any_eq_true.mpr ⟨u,hu,eD Rf hp⟩)).elim
     ·simpa using z
   ·rintro ⟨h1,h2⟩
    rcases List.mem_append.mp h1 with z | z
    ·exact .inl ⟨z,fun y hy hp=>h2 y (by simp [hy]) hp⟩
    ·exact .inr z
theorem lQ:∀(r acc:List (List Int)),∃l,gh r acc=acc++l/\l.Sublist r
 | [],acc=>⟨[],by simp [gh],List.Sublist.refl _⟩
 | a::r,acc=>by
  show ∃l,gh r (if acc.any (fun t=>aA t a)=true then acc else acc++[a])=acc++l/\_
  split
  ·obtain ⟨l,e,s⟩:=lQ r acc
   exact ⟨l,e,s.cons a⟩
  ·obtain ⟨l,e,s⟩:=lQ r (acc++[a])
   exact ⟨a::l,by rw [e];simp,s.cons_cons a⟩
def bq (x y:List Int):List Int:=x.filter fun m=>decide (m∉y)
def PL:Sp:=fun vs H Q _=>∃a b,vs=[.ref a,.ref b]/\∃x y:List Int,H a=some (.tup (List.map V.int x))/\H b=some (.tup (List.map V.int y))/\x.length<=900/\∀p H',bU H H'->H p=none->H' p=some (.tup (List.map V.int (bq x y)))->Q (.ref p) H'
def gk:List (List Int)->List (List Int)->List (List Int)
 | [],acc=>acc
 | x::r,acc=>gk r (if acc.any (fun t=>aA x t) then acc else acc++[x])
theorem qq:∀(r acc seen:List (List Int)),(∀x∈seen++r,dJ x)->(seen++r).Pairwise (fun a b=>bL b a=true)->(∀x,x∈acc↔x∈seen/\∀y∈seen,aA x y=true->y=x)->(∀y∈seen,∃z∈acc,aA y z=true)->
  (∀x,x∈gk r acc↔x∈seen++r/\∀y∈seen++r,aA x y=true->y=x)
 | [],acc,seen,_,_,h,_=>fun x=>by
  show x∈acc↔_
  rw [List.append_nil]
  exact h x
 | a::r,acc,seen,hr,pw,h,cov=>by
  have e:seen++a::r=(seen++[a])++r:=by simp
  show ∀x,x∈gk r (if acc.any (fun t=>aA a t)=true then acc else acc++[a])↔_
  rw [e] at hr pw ⊢
  have ra:dJ a:=hr a (by simp)
  have Uc:=(List.pairwise_append.mp pw).1
  have ahead:∀y∈seen,bL a y=true:=fun y hy=>(List.pairwise_append.mp Uc).2.2 y hy a (by simp)
  have UL:∀y∈seen,y≠a:=fun y hy e=>by
   have:=ahead y hy
   rw [e] at this
   unfold bL at this
   rw [iq] at this
   simp at this
  refine qq r _ (seen++[a]) hr pw (fun x=>?_) (fun y hy=>?_)
  ·by_cases c:acc.any (fun t=>aA a t)=true
   ·rw [if_pos c]
    obtain ⟨t,ht,JZ⟩:=List.any_eq_true.mp c
    have Ej:=((h t).mp ht).1
    rw [h x]
    constructor
    ·rintro ⟨h1,h2⟩
     refine ⟨by simp [h1],fun y hy hp=>?_⟩
     rcases List.mem_append.mp hy with z | z
     ·exact h2 y z hp
     ·have ey:y=a:=by simpa using z
      subst ey
      have e2:=h2 t Ej (eD hp JZ)
      subst e2
      have rt:dJ t:=hr t (by simp [h1])
      have l1:=eN ra JZ
      have l2:=eN rt hp
      exact iS ra rt JZ (by lia)
    ·rintro ⟨h1,h2⟩
     rcases List.mem_append.mp h1 with z | z
     ·exact ⟨z,fun y hy hp=>h2 y (by simp [hy]) hp⟩
     ·have ex:x=a:=by simpa using z
      subst ex
      exact absurd (h2 t (by simp [Ej]) JZ) (UL t Ej)
   ·rw [if_neg c,List.mem_append,h x]
    constructor
    ·rintro (⟨h1,h2⟩ | h1)
     ·refine ⟨by simp [h1],fun y hy hp=>?_⟩
      rcases List.mem_append.mp hy with z | z
      ·exact h2 y z hp
      ·have ey:y=a:=by simpa using z
       subst ey
       have rx:dJ x:=hr x (by simp [h1])
       have l2:=eN rx hp
       have:=ahead x h1
       unfold bL at this
       simp only [Bool.or_eq_true,Bool.and_eq_true,decide_eq_true_eq] at this
       rcases this with u | ⟨u,_⟩
       ·lia
       ·exact (iS rx ra hp u.symm).symm
     ·have ex:x=a:=by simpa using h1
      subst ex
      refine ⟨by simp,fun y hy hp=>?_⟩
      rcases List.mem_append.mp hy with z | z
      ·obtain ⟨u,hu,Rf⟩:=cov y z
       exact (c (List.any_eq_true.mpr ⟨u,hu,eD hp Rf⟩)).elim
      ·simpa using z
    ·rintro ⟨h1,h2⟩
     rcases List.mem_append.mp h1 with z | z
     ·exact .inl ⟨z,fun y hy hp=>h2 y (by simp [hy]) hp⟩
     ·exact .inr z
  ·by_cases c:acc.any (fun t=>aA a t)=true
   ·rw [if_pos c]
    rcases List.mem_append.mp hy with z | z
    ·exact cov y z
    ·have ey:y=a:=by simpa using z
     subst ey
     obtain ⟨t,ht,JZ⟩:=List.any_eq_true.mp c
     exact ⟨t,ht,JZ⟩
   ·rw [if_neg c]
    rcases List.mem_append.mp hy with z | z
    ·obtain ⟨u,hu,Rf⟩:=cov y z
     exact ⟨u,by simp [hu],Rf⟩
    ·have ey:y=a:=by simpa using z
     subst ey
     exact ⟨y,by simp,jK y⟩
theorem lU:∀(r acc:List (List Int)),∃l,gk r acc=acc++l/\l.Sublist r
 | [],acc=>⟨[],by simp [gk],List.Sublist.refl _⟩
 | a::r,acc=>by
  show ∃l,gk r (if acc.any (fun t=>aA a t)=true then acc else acc++[a])=acc++l/\_
  split
  ·obtain ⟨l,e,s⟩:=lU r acc
   exact ⟨l,e,s.cons a⟩
  ·obtain ⟨l,e,s⟩:=lU r (acc++[a])
   exact ⟨a::l,by rw [e];simp,s.cons_cons a⟩
theorem aG.rev {H:Hp} {bs:List Addr} {ts:List (List Int)} (s:aG H bs ts):aG H bs.reverse ts.reverse:=by
 refine ⟨by rw [List.length_reverse,List.length_reverse];exact s.1,fun i b t hb ht=>?_⟩
 have hi:i < bs.length:=by
  have:=(List.getElem?_eq_some_iff.mp hb).1
  rwa [List.length_reverse] at this
 rw [List.getElem?_reverse hi] at hb
 rw [List.getElem?_reverse (by rw [<-s.1];exact hi),<-s.1] at ht
 exact s.2 _ b t hb ht
theorem si (x:List Int):bL x x=false:=by
 unfold bL
 rw [iq,Bool.and_false,Bool.or_false]
 simp
theorem FQ {x y z:List Int} (h1:bL x y=true) (h2:bL y z=true):bL x z=true:=by
 unfold bL at *
 simp only [Bool.or_eq_true,Bool.and_eq_true,decide_eq_true_eq] at *
 rcases h1 with a | ⟨a,b⟩
 ·rcases h2 with c | ⟨c,d⟩ <;> (left;lia)
 ·rcases h2 with c | ⟨c,d⟩
  ·left;lia
  ·right;exact ⟨by lia,qd b d⟩
theorem MP {a b c d r:Int} (h0:0<=r) (h1:r < 4):∃v,tV [V.int a,V.int b,V.int c,V.int d] r=some (.int v)/\(v=a\/v=b\/v=c\/v=d):=by
 have:r=0\/r=1\/r=2\/r=3:=by lia
 rcases this with e | e | e | e <;> subst e
 ·exact ⟨a,xB ..,by simp⟩
 ·exact ⟨b,Bi ..,by simp⟩
 ·exact ⟨c,Bh ..,by simp⟩
 ·exact ⟨d,Bg ..,by simp⟩
theorem Dr.on {h:Addr} {H H1 H2:Hp} (a:Dr h H H1) (s:bU H1 H2):Dr h H H2:=⟨fun c o hc e=>s _ _ (a.keep c o hc e),fun l x=>by
 obtain ⟨ns,oh,e1,e2,e3⟩:=a.hand l x
 exact ⟨ns,oh,s _ _ e1,e2,s _ _ e3⟩⟩
theorem dW.lN {h b:Addr} {H:Hp} {xs:List V} (x:dW H h) (e:H b=some (.tup xs)):b≠h:=by
 obtain ⟨l,ns,o,e1,⟨_,_,_,_,_,rfl,_⟩,_⟩:=x
 exact aY e e1 (by intro z;cases z)
def ju (ps:List (List Int)) (m:Int):List (List Int):=ps++ps.map (· ++ [m])
def cX (x:List Int):List (List Int):=x.foldl ju [[]]
theorem xT (x:List Int) (m:Int):cX (x++[m])=ju (cX x) m:=by unfold cX;rw [List.foldl_append];rfl
theorem j9 (x:List Int):(cX x).length=2 ^ x.length:=by
 have:∀(x:List Int) (ps:List (List Int)),(x.foldl ju ps).length=ps.length * 2 ^ x.length:=fun x=>by
  induction x with
  | nil=>intro ps;simp
  | cons m x ih=>
   intro ps
   rw [List.foldl_cons,ih,List.length_cons,Nat.pow_succ]
   unfold ju
   rw [List.length_append,List.length_map,Nat.mul_comm (2 ^ x.length) 2,<-Nat.mul_assoc]
   congr 1
   lia
 unfold cX
 rw [this];simp
theorem qU {x t:List Int} (h:t∈cX x):t.length<=x.length:=by
 have:∀(x:List Int) (n:Nat) (ps:List (List Int)),(∀p∈ps,p.length<=n)->∀t∈x.foldl ju ps,t.length<=n+x.length:=fun x=>by
  induction x with
  | nil=>intro n ps h t ht;exact h t ht
  | cons m x ih=>
   intro n ps h t ht
   rw [List.foldl_cons] at ht
   have:=ih (n+1) _ (fun p hp=>?_) t ht
   ·rw [List.length_cons];lia
   ·unfold ju at hp
    rcases List.mem_append.mp hp with hp | hp
    ·have:=h p hp;lia
    ·obtain ⟨c,hc,rfl⟩:=List.mem_map.mp hp
     have:=h c hc
     rw [List.length_append];simp;lia
 have:=this x 0 [[]] (by simp) t h
 lia
theorem vY {n:Nat} (h:n<=10):2 ^ n<=1024:=Nat.le_trans (Nat.pow_le_pow_right (by decide) h) (by decide)
theorem Dr.sets {h:Addr} {H H':Hp} {bs:List Addr} {ts:List (List Int)} (hd:dW H h) (d:Dr h H H') (s:aG H bs ts):aG H' bs ts:=s.mono fun b xs e=>d.keep _ _ (hd.lN e) e
end L2
end
section
namespace L2
open PySem
abbrev cut (n:Int) (s:List Int):List Int:=s.filter fun m=>decide (m≠n)
end L2
end
section
namespace L2
open PySem
end L2
end
section
namespace L2
open PySem
end L2
end
section
namespace L2
structure Nx (P R:St->Hp->Prop):Prop where
 to:∀σ H,P σ H->R σ H
theorem dR {t u:TS} {D:Ends} {σ:St} {H:Hp} (h:∀R:St->Hp->Prop,Nx (u D) R->t { D with nx:=R } σ H):BK t u D σ H:=h (u D) ⟨fun _ _ z=>z⟩
end L2
end
section
namespace L2
open PySem PySem.Spec PyProof.Rows
section
variable {X:Cx} {o e value:Expr} {f:Str} {pos pos':Pos} {ta tv:TE}
theorem dP (he:ZE X e ta) (hb:attributeBase e f X.env (eval e X.env)=eval e X.env):ZE X (.Attribute e f pos) (Ke X.K ta f):=⟨Qu he.to hb⟩
theorem mJ (ha:ZE X o ta) (hv:ZE X value tv) (hs:swapsWith value (some (.Attribute o f pos')) pos.line X.env=pure false):ZS X (.Assign [.Attribute o f pos'] value pos) (Ku X.K ta tv f):=⟨Qj ha.to hv.to hs⟩
end
section
variable {X:Cx} {CX:Br} {k:Nat} {f C:Addr} {fd:FuncData} {ps:List Str} {sp:Sp} {oi:List V} {ds:List Value} {E:XK} {x m:Str} {p pos apos:Pos} {e o:Expr} {es:List Expr} {ta:TE} {t:TA}
theorem pK {pl:Sem Bool} (he:ZE X o ta) (c:Cls X.K C) (hm:Meth X.K C m f) (F:bO X.prog X.w X.K X.mg X.base CX k f fd ps sp) (hr:bW k X.A) (hb:Binds X.K fd ps ds) (hd:Vals oi ds) (hx:Passes CX X E) (ha:ZA X (e::es) t)
  (Ij:starEach (e::es) X.env=(false,eval e X.env)::starEach es X.env:=by rfl) (iw:(backTo pos (starEach es X.env)).any (·.1)=false:=by rfl)
  (ht:eval (.Call (.Attribute o m apos) (e::es) [] pos) X.env=(do
   let ov <-eval o X.env
   standAt apos.atName
   let (f,first) <-holding [ov] (getMethod ov m pl)
   callWith pos f first (backTo pos (starEach (e::es) X.env)) (backToKw pos (keywordEach [] X.env))):=by rfl) :
  ZE X (.Call (.Attribute o m apos) (e::es) [] pos) (zu C m sp oi E ta t):=⟨Lg he.to c hm F hr hb hd hx ha.to Ij iw ht⟩
theorem Ex (M:Mk X.K C f) (F:bO X.prog X.w X.K X.mg X.base CX k f fd ps sp) (hr:bW (k+1) X.A) (hg:Gl X x) (hm:X.mg x=some (.ref C)) (hb:Binds X.K fd ps ds) (hd:Vals oi ds) (hx:Passes CX X E)
  (ha:ZA X (e::es) t) (n5:(x == ("__debug__" : Str))=false:=by decide) (he:starEach (e::es) X.env=(false,eval e X.env)::starEach es X.env:=by rfl) (iw:(backTo pos (starEach es X.env)).any (·.1)=false:=by rfl) :
  ZE X (.Call (.Name x p) (e::es) [] pos) (zA C sp oi E t):=⟨Lh M F hr hg hm hb hd hx ha.to n5 he iw⟩
end
end L2
end
section
namespace L2
open PySem PySem.Spec PyProof.Rows
def JS (H:Hp) (ps:List Addr) (fs:List (List (List Int))):Prop:=ps.length=fs.length/\∀(i:Nat) p f,ps[i]? = some p->fs[i]? = some f->∃bs,H p=some (.lst (List.map V.ref bs))/\aG H bs f
section
variable {X:Cx} {pins:List (Addr×Obj)} {s:Shared} {σ:St} {H:Hp} {A:Around}
def N2 (neg:Bool):R2:=fun x y H Q=>∃a b,x=.ref a/\y=.ref b/\∃ps qs cl dl,H a=some (.lst (List.map V.ref ps))/\H b=some (.lst (List.map V.ref qs))/\JS H ps cl/\JS H qs dl/\Q (.bl (if neg then !decide (cl=dl) else decide (cl=dl))) H
end
end L2
end
section
namespace L2
open PySem PySem.Spec PyProof.Rows
open PySem.W (Frag Looks)
abbrev Tc:List Value:=[.type "ValueError",.type "Exception",.type "BaseException",.type "object"]
def Ka (K:Frag) (n:Addr):Bool:=match K.lookup n with
 | some o=>(match o.data with | .dict es _=>es.toList.all fun e=>(match e.key with | .str _ _=>true | _=>false) | _=>false)
 | none=>false
theorem NP {K:Frag} {h:Heap} {n:Addr} (X:K.In h) (q:Ka K n=true):∃m,h.Ns n m:=by
 unfold Ka at q
 cases e:K.lookup n with
 | none=>rw [e] at q;cases q
 | some o=>
  rw [e] at q
  dsimp only at q
  cases d:o.data with
  | dict es ep=>
   rw [d] at q
   dsimp only at q
   refine ⟨nsFind es,o,es,ep,X _ _ e,d,fun x hx=>?_,fun _=>rfl⟩
   have:=List.all_eq_true.mp q x (Array.mem_toList_iff.mpr hx)
   cases k:x.key with
   | str y t=>exact ⟨y,t,rfl⟩
   | _=>rw [k] at this;cases this
  | _=>rw [d] at q;cases q
def J' (K:Frag):List Value->Bool
 | .ref a::tl=>(match K.lookup a with
  | some o=>(match o.data with | .cls cd=>Ka K cd.ns && (PySem.W.nsIn K cd.ns "__init__" == some none) | _=>false)
  | none=>false) && J' K tl
 | l=>l == Tc
theorem NK {K:Frag} {h:Heap} (X:K.In h):∀{l:List Value},J' K l=true->OwnTail h Tc l
 | .ref a::tl,q=>by
  simp only [J',Bool.and_eq_true] at q
  obtain ⟨q,r⟩:=q
  cases e:K.lookup a with
  | none=>rw [e] at q;cases q
  | some o=>
   rw [e] at q
   obtain ⟨oc,od,da,sl⟩:=o
   cases da with
   | cls cd=>
    simp only [Bool.and_eq_true,beq_iff_eq] at q
    obtain ⟨m,hm⟩:=NP X q.1
    exact .own (X _ _ e) hm (PySem.W.ns_none_of X hm q.2) (NK X r)
   | _=>cases q
 | [],q=>by cases eq_of_beq q
 | .type n::tl,q=>by rw [show Value.type n::tl=Tc from eq_of_beq q];exact .base
 | .none::tl,q=>by cases eq_of_beq q
 | .bool _::tl,q=>by cases eq_of_beq q
 | .int _ _::tl,q=>by cases eq_of_beq q
 | .str _ _::tl,q=>by cases eq_of_beq q
 | .builtin _::tl,q=>by cases eq_of_beq q
 | .float _ _::tl,q=>by cases eq_of_beq q
 | .bytes _ _::tl,q=>by cases eq_of_beq q
 | .ellipsis::tl,q=>by cases eq_of_beq q
 | .notImplemented::tl,q=>by cases eq_of_beq q
def pM (K:Frag) (C:Addr):Bool:=match K.lookup C with
 | some o=>o.cls == .type "type" && (match o.data with
  | .cls cd=>!cd.hasDel && cd.hasDict && Ka K cd.ns && (match cd.mro with | v::tl=>v == .ref C && J' K tl | []=>false) | _=>false) && (match o.slots.toList with | [_,_,_,_,some v,_]=>v == .builtin "ValueError.__new__" | _=>false)
 | none=>false
theorem rM {K:Frag} {h:Heap} {C:Addr} (X:K.In h) (q:pM K C=true):∃nm qn N bs bm sn sub ab col dd k0 k1 k2 k3 k5 mN,h.get? C=some (excClassObj nm qn C N bs bm true sn sub ab col dd k0 k1 k2 k3 k5 "ValueError.__new__")/\h.Ns N mN/\OwnTail h Tc bm:=by
 unfold pM at q
 cases e:K.lookup C with
 | none=>rw [e] at q;cases q
 | some o=>
  rw [e] at q
  obtain ⟨oc,od,da,sl⟩:=o
  simp only [Bool.and_eq_true,beq_iff_eq] at q
  obtain ⟨⟨rfl,q1⟩,q2⟩:=q
  cases da with
  | cls cd=>
   obtain ⟨nm,bs,mro,ns,qn,hd,sn,sub,ab,col,del⟩:=cd
   simp only [Bool.and_eq_true,Bool.not_eq_true'] at q1
   obtain ⟨⟨⟨rfl,rfl⟩,n1⟩,q1⟩:=q1
   cases mro with
   | nil=>cases q1
   | cons v tl=>
    simp only [Bool.and_eq_true,beq_iff_eq] at q1
    obtain ⟨rfl,q1⟩:=q1
    obtain ⟨l⟩:=sl
    match l,q2 with
    | [k0,k1,k2,k3,some v,k5],q2=>
     obtain ⟨m,hm⟩:=NP X n1
     have ev:v=.builtin "ValueError.__new__":=eq_of_beq q2
     subst ev
     exact ⟨nm,qn,ns,bs,tl,sn,sub,ab,col,od,k0,k1,k2,k3,k5,m,X _ _ e,hm,NK X q1⟩
  | _=>cases q1
section
variable {prog:Program} {w:World} {A:Around} {E:Value->Shared->Prop} {s:Shared} {K:Frag} {C fI:Addr}
theorem qS {rest:List Value} {Q:PySem.Fin->Shared->Prop} (X:K.In s.heap) (q:pM K C=true) (hi:PySem.W.findIn K (.ref C) "__init__" = some (some (.ref fI))) (hf:PySem.W.typeIn K (.ref fI)=some (.type "function"))
  (hq:∀h',Heap.MadeExcOf s.heap h' (s.heap.objs.size+1) (.ref C) rest->wpAny (model prog w) A (call (.ref fI) (.ref (s.heap.objs.size+1)::rest)) (fun r s'=>r=.none/\Q (.done (.ret (.ref (s.heap.objs.size+1)))) s') E { s with heap:=h' }) (sZ:rest.length<=sizeLine) :
  wpAny (model prog w) A (Builtin.«type.__call__» ⟨.ref C::rest,[]⟩) Q E s:=by
 obtain ⟨nm,qn,N,bs,bm,sn,sub,ab,col,dd,k0,k1,k2,k3,k5,mN,hC,hN,T⟩:=rM X q
 obtain ⟨h,g,d,t,os⟩:=s
 dsimp only at X hC hN T hq
 repeat (first | with_reducible refine wpAny_loadPart_at hC ?_ | with_reducible refine wpAny_madeBy_exc hC ?_ | wp_step)
 have FF:=PySem.F.excBase_ValueError
 refine codeAny_call_builtin_code (Code.quiet_builtin _ FF.quiet) (wpAny_check_new_subU FF (by decide +kernel) T hC (codeAny_exc_new_subU FF (by decide +kernel) FF T hC ?_ sZ))
 show wpAny _ _ _ _ _ _
 have kp:∀b o,h.get? b=some o->((h.push { cls:=.type "tuple",data:=.seq rest.toArray }).push { cls:=.ref C,data:=.fields #[.ref h.objs.size,.none,.none,.none,.bool false,.none] }).get? b=some o:=fun b o e=>Heap.get?_push_of_some _ (Heap.get?_push_of_some _ e)
 have e1:((h.push { cls:=.type "tuple",data:=.seq rest.toArray }).push { cls:=.ref C,data:=.fields #[.ref h.objs.size,.none,.none,.none,.bool false,.none] }).get? (h.objs.size+1)=some { cls:=.ref C,data:=.fields #[.ref h.objs.size,.none,.none,.none,.bool false,.none] }:=by heap_get
 have mk:Heap.MadeExcOf h ((h.push { cls:=.type "tuple",data:=.seq rest.toArray }).push { cls:=.ref C,data:=.fields #[.ref h.objs.size,.none,.none,.none,.bool false,.none] }) (h.objs.size+1) (.ref C) rest:=⟨kp,Heap.get?_none_of_le (Nat.le_succ _),h.objs.size,e1,Heap.get?_none_of_le (Nat.le_refl _),Heap.get?_push_of_some _ (Heap.get?_push_at rfl rfl)⟩
 generalize ((h.push { cls:=.type "tuple",data:=.seq rest.toArray }).push { cls:=.ref C,data:=.fields #[.ref h.objs.size,.none,.none,.none,.bool false,.none] })=h2 at kp e1 mk ⊢
 have hC2:=kp _ _ hC
 have X2:K.In h2:=X.keeps kp
 have hcC:(Value.ref C::bm).contains (.ref C)=true:=by simp
 unfold isInstance
 repeat (first | with_reducible refine wpAny_loadPart_at e1 ?_ | (with_reducible refine wpAny_isSubtype_exc hC2 ?_;rw [hcC]) | wp_step)
 show wpAny _ _ (typeLookup (.ref C) _) _ _ _
 refine (PySem.W.looks_findIn (M:=model prog w) (h:=h2) X2 hi) _ _ _ _ (fun _ _ e=>e) (wpAny_holding (wpAny_bind ((PySem.W.bind_fn (M:=model prog w) (h:=h2) X2 (.ref (h.objs.size+1)) hf) _ _ _ _ (fun _ _ e=>e) ?_)))
 refine wpAny_bind (wpAny_mono (hq h2 mk) (fun r s' hr=>?_) fun _ _ z=>z)
 obtain ⟨rfl,z⟩:=hr
 wp_walk
 exact z
theorem Jy {rest:List Value} {Q:Value->Shared->Prop} (X:K.In s.heap) (q:pM K C=true) (hi:PySem.W.findIn K (.ref C) "__init__" = some (some (.ref fI))) (hf:PySem.W.typeIn K (.ref fI)=some (.type "function"))
  (hq:∀h',Heap.MadeExcOf s.heap h' (s.heap.objs.size+1) (.ref C) rest->wpAny (model prog w) (A.under (.builtin "type.__call__" ⟨.ref C::rest,[]⟩)) (call (.ref fI) (.ref (s.heap.objs.size+1)::rest)) (fun r s'=>r=.none/\Q (.ref (s.heap.objs.size+1)) s') E { s with heap:=h' }) (sZ:rest.length<=sizeLine) :
  wpAny (model prog w) A (call (.ref C) rest) Q E s:=by
 obtain ⟨nm,qn,N,bs,bm,sn,sub,ab,col,dd,k0,k1,k2,k3,k5,mN,hC,hN,T⟩:=rM X q
 obtain ⟨h,g,d,t,os⟩:=s
 dsimp only at X hC hN T hq
 have f1:=tc_lookup
 have f2:=tc_bind (.ref C)
 have hT:(⟨h,g,d,t,os⟩:Shared).TypeIs (.ref C) "type":=⟨_,hC,rfl⟩
 refine wpAny_call (codeAny_of_tree (show wpAny _ _ (callAny (.ref C) _) _ _ _ from ?_))
 repeat (any_goals (first | assumption | with_reducible refine wpAny_loadPart_at hC ?_ | wp_step))
 refine ⟨rfl,codeAny_call_builtin_at (Code.quiet_builtin _ (by decide +kernel)) entry_typeCall (wpAny_check_type_call_sub hC (qS (s:=⟨h,g,d,t,os⟩) X q hi hf (fun h' hm=>?_) sZ))⟩
 exact hq h' hm
end
end L2
end
section
namespace L2
open PySem PySem.Spec PyProof.Rows
open PySem.W (Frag Looks)
section
variable {prog:Program} {w:World} {A:Around} {E:Value->Shared->Prop} {s:Shared} {K:Frag} {C e:Addr} {oe:Obj} {vs:Array Value}
theorem DW {t0:Addr} {rest:List Value} {Q:Value->Shared->Prop} (X:K.In s.heap) (q:pM K C=true) (he:s.heap.get? e=some { cls:=.ref C,data:=.fields #[.ref t0,.none,.none,.none,.bool false,.none] })
  (hq:Q .none { s with heap:=(s.heap.push { cls:=.type "tuple",data:=.seq rest.toArray }).update e (Obj.mapFields (·.setIfInBounds 0 (Value.ref s.heap.objs.size))) }) (sZ:rest.length<=sizeLine) :
  wpAny (model prog w) A (call (.builtin "ValueError.__init__") (.ref e::rest)) Q E s:=by
 obtain ⟨nm,qn,N,bs,bm,sn,sub,ab,col,dd,k0,k1,k2,k3,k5,mN,hC,hN,T⟩:=rM X q
 have FF:=PySem.F.excBase_ValueError
 obtain ⟨h,g,d,t,os⟩:=s
 dsimp only at X hC hN T hq he
 have Sy:(h.push { cls:=.type "tuple",data:=.seq rest.toArray }).get? e=some { cls:=.ref C,data:=.fields #[.ref t0,.none,.none,.none,.bool false,.none] }:=Heap.get?_push_of_some _ he
 refine wpAny_call (codeAny_call_builtin FF.init.plain FF.initEntry (wpAny_check_init_subU FF T hC he rfl ?_))
 wp_walk
 exact hq
theorem vU (self:Value) {h:Heap} {l:List Value} (T:OwnTail h Tc l):refuseLoop self "__setattr__" l=pure ():=by
 induction T with
 | base=>exact PySem.F.store_ValueError.passes self
 | own _ _ _ _ ih=>rw [refuseLoop_ref];exact ih
theorem Bw {name:Str} {tk:Tok} {v:Value} {R:Result->Shared->Prop} (X:K.In s.heap) (q:pM K C=true) (he:s.heap.get? e=some oe) (hc:oe.cls=.ref C) (ht:PySem.W.takerIn K C name=some none)
  (h:∀b,wpAny (model prog w) A.in1 (Builtin.ObjectAttr.storeInOwnDict (.ref e) (.ref C) (.str name tk) name v b) (fun fin s'=>match fin with | .done f=>R (.ok f) s' | .again c'=>c'.quiet=true/\codeAny (model prog w) A c' R s') (fun x s'=>R (.error x) s') s) :
  codeAny (model prog w) A (.call (.builtin "object.__setattr__") ⟨[.ref e,.str name tk,v],[]⟩) R s:=by
 obtain ⟨nm,qn,N,bs,bm,sn,sub,ab,col,dd,k0,k1,k2,k3,k5,mN,hC,hN,T⟩:=rM X q
 have SF:=PySem.F.store_object
 have ty:Looks (model prog w) s.heap (typeOf (.ref e)) (.ref C):=hc ▸ (Looks.ld he).andThen .now
 have sub:Looks (model prog w) s.heap (isInstance (.ref e) (.type "object")) true:=ty.andThen (fun A Q E s k z=>by
  obtain ⟨h,g,d,t,os⟩:=s
  refine wpAny_isSubtype_exc (k _ _ hC) ?_
  rw [List.contains_cons,T.hasType (X:="object") (b:=true) (by decide +kernel),Bool.or_true]
  exact z)
 refine codeAny_call_builtin SF.slot.plain SF.entry (@PySem.W.check_slot (model prog w) _ _ s "object.__setattr__" "object" "__setattr__" (.ref e) [.str name tk,v] [] _ SF.kind SF.split sub (SF.args (.ref e) (.str name tk) v) ?_)
 obtain ⟨attr,ha,hr⟩:=Option.bind_eq_some_iff.mp ht
 have hm:Looks (model prog w) s.heap (mroOf (.ref C)) (.ref C::bm):=fun A Q E s k z=>by
  obtain ⟨h,g,d,t,os⟩:=s
  exact wpAny_mroOf_exc (k _ _ hC) z
 have L3:Looks (model prog w) s.heap (Builtin.ObjectAttr.storeTaker? attr) none:=by
  cases attr with
  | none=>exact .now
  | some a=>
   obtain ⟨b,hb,z⟩:=Option.map_eq_some_iff.mp hr
   cases b with
   | true=>cases z
   | false=>exact (PySem.W.looks_takesIn X hb).andThen .now
 rw [PySem.W.osa_eq,refuse_eq]
 refine wpAny_bind (wpAny_bind (ty.here (wpAny_bind (hm.here ?_))))
 rw [refuseLoop_ref,vU _ T]
 exact wpAny_pure (wpAny_bind (ty.here (wpAny_bind ((PySem.W.looks_findIn X ha).here (wpAny_bind (L3.here (h _)))))))
theorem XT {name:Str} {v:Value} {Q:Unit->Shared->Prop} (X:K.In s.heap) (q:pM K C=true) (he:s.heap.get? e=some oe) (hc:oe.cls=.ref C) (hd:oe.dict=none) (Ii:oe.data=.fields vs)
  (hs:PySem.W.findIn K (.ref C) "__setattr__" = some (some (.builtin "object.__setattr__"))) (ht:PySem.W.takerIn K C name=some none)
  (h:∀h' tk,h'.get? e=some { oe with dict:=some s.heap.objs.size }->h'.Ns1 s.heap.objs.size (fun y=>if y=name then some v else none)->(∀b o,b≠e->s.heap.get? b=some o->h'.get? b=some o)->Q () { s with heap:=h',toks:=tk }) :
  wpAny (model prog w) A (setAttr (.ref e) name v) Q E s:=by
 obtain ⟨oc,od,oda,z4⟩:=oe
 dsimp only at hc hd Ii
 subst hc hd Ii
 have J:PySem.W.InstAt s.heap e ⟨.ref C,none,.fields vs,z4⟩ C none:=⟨he,rfl,rfl,True.intro⟩
 refine PySem.W.set_plain X J hs (Bw (s:={ s with toks:=s.toks+1 }) X q he rfl ht fun b=>?_)
 obtain ⟨nm,qn,N,bs,bm,sn,sub,ab,col,dd,k0,k1,k2,k3,k5,mN,hC,hN,T⟩:=rM X q
 have rA:Looks (model prog w) s.heap (classData C) _:=(Looks.ld (part:=none) hC).andThen .now
 refine wpAny_bind (wpAny_pure (wpAny_bind (wpAny_bind (wpAny_loadPart he (wpAny_bind (Looks.here (s:={ s with toks:=s.toks+1 }) rA ?_))))))
 rw [if_neg (by simp)]
 dsimp only
 rw [if_neg (by simp [typeHasDict])]
 have Sy:(s.heap.push { cls:=.type "dict",data:=.dict #[] }).get? e=some ⟨.ref C,none,.fields vs,z4⟩:=Heap.get?_push_of_some _ he
 have qQ:e≠s.heap.objs.size:=Nat.ne_of_lt (Heap.lt_size he)
 refine wpAny_bind (wpAny_alloc' (wpAny_bind (wpAny_update' Sy ?_)))
 refine wpAny_pure ?_
 have Ei:=Heap.get?_update_self (fun o:Obj=>{ cls:=o.cls,dict:=some s.heap.objs.size,data:=o.data,slots:=o.slots }) Sy rfl
 have kp2:∀b o,b≠e->(s.heap.push { cls:=.type "dict",data:=.dict #[] }).get? b=some o->((s.heap.push { cls:=.type "dict",data:=.dict #[] }).update e fun o=>{ cls:=o.cls,dict:=some s.heap.objs.size,data:=o.data,slots:=o.slots }).get? b=some o:=fun b o hb z=>(Heap.get?_update_ne _ _ _ _ hb).trans z
 have hgd:=kp2 _ _ qQ.symm (Heap.get?_push_at (h:=s.heap) (o:={ cls:=.type "dict",data:=.dict #[] }) rfl rfl)
 have kp3:∀b o,b≠e->s.heap.get? b=some o->((s.heap.push { cls:=.type "dict",data:=.dict #[] }).update e fun o=>{ cls:=o.cls,dict:=some s.heap.objs.size,data:=o.data,slots:=o.slots }).get? b=some o:=fun b o hb z=>kp2 b o hb (Heap.get?_push_of_some _ z)
 generalize ((s.heap.push { cls:=.type "dict",data:=.dict #[] }).update e fun o=>{ cls:=o.cls,dict:=some s.heap.objs.size,data:=o.data,slots:=o.slots })=h2 at Ei hgd kp3 ⊢
 have hnd:h2.Ns s.heap.objs.size (fun _=>none):=⟨_,#[],_,hgd,rfl,fun x hx=>absurd hx (by simp),fun _=>rfl⟩
 refine wpAny_bind (wpAny_pure (wpAny_bind ?_))
 refine wpAny_nsSet1 (s:={ s with heap:=h2,toks:=s.toks+1 }) (Heap.Ns1.of_empty hnd) fun h' tf sb=>?_
 obtain ⟨oD,esD,epD,hoD,hdD,hcD⟩:=tf.count (Within.cons name v Within.nil)
 refine wpAny_bind (wpAny_lookBehind hoD (by rw [hdD];exact pastItsLine_dict (Nat.le_trans hcD (by rw [List.length_cons,List.length_nil,sizeLine_eq];omega))) ?_)
 exact wpAny_pure (h h' _ ((sb.2 _ qQ).trans Ei) tf fun b o hb z=>(sb.2 b (Nat.ne_of_lt (Heap.lt_size z))).trans (kp3 b o hb z))
end
end L2
end
section
namespace L2
open PySem PySem.Spec PyProof.Rows
open PySem.W (Frag Looks)
abbrev Pm (C:Addr) (dx:Option Addr) (t:Addr):Obj:={ cls:=.ref C,dict:=dx,data:=.fields #[.ref t,.none,.none,.none,.bool false,.none] }
section
variable {M:Model} {A:Around} {E:Value->Shared->Prop} {s:Shared} {K:Frag} {C:Addr} {env:Env}
theorem Pl {x:Sem Value} {Q:Flow->Shared->Prop} (q:pM K C=true) (hh:A.handled=none) (h:wpAny M A x (fun v s₁=>∃e dx t,v=.ref e/\K.In s₁.heap/\s₁.heap.get? e=some (Pm C dx t)/\E (.ref e) s₁) E s) :
  wpAny M A (raiseStmt env (some x) none) Q E s:=by
 unfold raiseStmt
 refine wpAny_bind (wpAny_mono h (fun v s₁ h₁=>?_) fun _ _ z=>z)
 obtain ⟨e,dx,t,rfl,X,he,hE⟩:=h₁
 obtain ⟨nm,qn,N,bs,bm,sn,sub,ab,col,dd,k0,k1,k2,k3,k5,mN,hC,hN,T⟩:=rM X q
 have hb:(Value.ref C::bm).contains (.type "BaseException")=true:=by rw [List.contains_cons,T.hasType (X:="BaseException") (b:=true) (by decide +kernel),Bool.or_true]
 obtain ⟨hp,g,d,tk,os⟩:=s₁
 dsimp only at hC he
 repeat (first | with_reducible refine wpAny_loadPart_at he ?_ | (with_reducible refine wpAny_isSubtype_exc hC ?_;rw [hb]) | wp_step)
 exact wpAny_raiseNew_none hh hE
end
def Nt (N:Addr->Prop) (h:Heap) (e C:Addr) (dx:Option Addr):Prop:=N e/\∃vs sl,h.get? e=some ⟨.ref C,dx,.fields vs,sl⟩/\(vs[1]? = some .none\/∃T oT ts,N T/\T≠e/\vs[1]? = some (.ref T)/\h.get? T=some oT/\oT.data=.fields ts/\ts[3]? = some .none)
structure Lv (fs ch:List Addr) (h h':Heap):Prop where
 keep:∀b o,b∉fs->b∉ch->h.get? b=some o->h'.get? b=some o
 slot:∀b o,b∈fs->h.get? b=some o->∃sl,h'.get? b=some { o with slots:=sl }
section
variable {M:Model} {A:Around} {E:Value->Shared->Prop} {s:Shared} {env:Env} {outer:List Env} {base:Heap} {N:Addr->Prop} {e C L:Addr} {dx:Option Addr}
theorem EY {oe:Obj} {vs:Array Value} {head:Value} {Mx:Bool} {Q:Unit->Shared->Prop} (u0:A.frames=some (env::outer)) (hl:s.heap.FunFrames base (env::outer)) (hf:env.frame=some L)
  (he:s.heap.get? e=some oe) (hd:oe.data=.fields vs) (hz:1 < vs.size)
  (h:∀h' T oT ts,s.heap.objs.size<=T->T≠e->h'.get? e=some { oe with data:=.fields (vs.setIfInBounds 1 (.ref T)) }->h'.get? T=some oT->oT.data=.fields ts->ts[3]? = some (rawInt L)->
   (∀b o,b≠e->b∉kO (env::outer)->s.heap.get? b=some o->h'.get? b=some o)->(∀b o,b∈kO (env::outer)->s.heap.get? b=some o->∃sl,h'.get? b=some { o with slots:=sl })->h'.FunFrames base (env::outer)->Q () { s with heap:=h' }) :
  wpAny M A (do let a <-frameOf env;let pl <-entryPlaceOf L Mx;let b <-EntryCells.newEntry head a .none (rawInt L) .none pl;setField (.ref e) 1 b) Q E s:=by
 have nf:∀b,b∈kO (env::outer)->b≠e:=fun b hb z=>by
  obtain ⟨_,o,ho,nd⟩:=hl.mem hb
  rw [z,he] at ho;cases ho;exact nd vs hd
 refine wpAny_bind (wpAny_frameOf_fun u0 hl hf fun h₁ so=>wpAny_bind (wpAny_entryPlaceOf fun pl iw=>?_))
 unfold EntryCells.newEntry newFields
 refine wpAny_bind (wpAny_newObj_type ?_ (iw.sizeOk5 _ _ _ _ _))
 have Sy:h₁.get? e=some oe:=(so.2.1 e fun z=>nf e z rfl).trans he
 have k2:∀b o,h₁.get? b=some o->(h₁.push { cls:=.type "traceback",dict:=none,data:=.fields ([head,.ref L,.none,rawInt L,.none]++(if pl.isEmpty then List.replicate 6 Value.none else pl)).toArray }).get? b=some o:=fun b o z=>Heap.get?_push_of_some _ z
 have t2:=Heap.get?_push_size h₁ (o:={ cls:=.type "traceback",dict:=none,data:=.fields ([head,.ref L,.none,rawInt L,.none]++(if pl.isEmpty then List.replicate 6 Value.none else pl)).toArray }) rfl
 have t3:([head,.ref L,.none,rawInt L,.none]++(if pl.isEmpty then List.replicate 6 Value.none else pl)).toArray[3]? = some (rawInt L):=by simp
 generalize ([head,.ref L,.none,rawInt L,.none]++(if pl.isEmpty then List.replicate 6 Value.none else pl)).toArray=ts at k2 t2 t3 ⊢
 generalize h₁.push { cls:=.type "traceback",dict:=none,data:=.fields ts }=h₂ at k2 t2 ⊢
 have Vn:=k2 _ _ Sy
 have RD:h₁.objs.size≠e:=Nat.ne_of_gt (Heap.lt_size Sy)
 refine wpAny_setField Vn hd hz ?_
 have Qx:∀b o,b≠e->h₂.get? b=some o->(h₂.update e (Obj.mapFields (·.setIfInBounds 1 (Value.ref h₁.objs.size)))).get? b=some o:=fun b o hb z=>(Heap.get?_update_other _ _ hb.symm).trans z
 have d3:=Obj.data_mapFields hd (·.setIfInBounds 1 (Value.ref h₁.objs.size))
 have he3:=Heap.get?_update_self (Obj.mapFields (·.setIfInBounds 1 (Value.ref h₁.objs.size))) Vn (Obj.isFreed_of_fields d3)
 have Yo:∀b o,b∈kO (env::outer)->s.heap.get? b=some o->∃sl,(h₂.update e (Obj.mapFields (·.setIfInBounds 1 (Value.ref h₁.objs.size)))).get? b=some { o with slots:=sl }:=fun b o hb z=>by
  obtain ⟨sl,e1⟩:=so.2.2 b o z
  exact ⟨sl,Qx _ _ (nf b hb) (k2 _ _ e1)⟩
 refine h _ h₁.objs.size _ ts (Nat.le_of_eq so.1.symm) RD ?_ (Qx _ _ RD t2) rfl t3 (fun b o hb hf z=>Qx b o hb (k2 _ _ ((so.2.1 b hf).trans z))) Yo ?_
 ·rw [he3]
  obtain ⟨oc,od,oda,z4⟩:=oe
  dsimp only at hd
  subst hd
  rfl
 ·refine hl.of_keeps fun b o hb nd=>?_
  obtain ⟨sl,e1⟩:=so.2.2 b o hb
  refine ⟨_,Qx b _ (fun z=>?_) (k2 _ _ e1),rfl⟩
  rw [z,he] at hb;cases hb;exact nd vs hd
theorem Ta {T:Addr} {oe oT:Obj} {vs ts:Array Value} {Q:Unit->Shared->Prop} (he:s.heap.get? e=some oe) (hd:oe.data=.fields vs) (h1:vs[1]? = some (.ref T)) (hT:s.heap.get? T=some oT) (hdT:oT.data=.fields ts) (hz:3 < ts.size)
  (h:Q () { s with heap:=s.heap.update T (Obj.mapFields (·.setIfInBounds 3 Value.none)) }):wpAny M A (setFlight (.ref e) none) Q E s:=by
 unfold setFlight
 refine wpAny_bind (wpAny_field he hd h1 ?_)
 rw [if_pos (show (Value.ref T != Value.none)=true from by simp)]
 exact wpAny_setField hT hdT hz h
theorem Pn {Q:Unit->Shared->Prop} (u0:A.frames=some (env::outer)) (hl:s.heap.FunFrames base (env::outer)) (hf:env.frame=some L) (hN:∀b,s.heap.objs.size<=b->N b) (x:Nt N s.heap e C dx)
  (h:∀h' ch,(∀b∈ch,N b/\∃o vs,s.heap.get? b=some o/\o.data=.fields vs)->Nt N h' e C dx->Lv (kO (env::outer)) ch s.heap h'->Q () { s with heap:=h' }):wpAny M A (noteFrame (.ref e) env) (fun _ s'=>wpAny M A (setFlight (.ref e) none) Q E s') E s:=by
 obtain ⟨ne,vs,sl,he,tb⟩:=x
 have fin:∀(ch:List Addr) (xH:∀b∈ch,N b/\∃o vs,s.heap.get? b=some o/\o.data=.fields vs) (s1:Shared) (h':Heap) (T:Addr) (oT:Obj) (ts:Array Value),s1.heap.objs.size=s.heap.objs.size->s1.heap.objs.size<=T->T≠e->h'.get? e=some ⟨.ref C,dx,.fields (vs.setIfInBounds 1 (.ref T)),sl⟩->1 < vs.size->h'.get? T=some oT->oT.data=.fields ts->ts[3]? = some (rawInt L)->
   (∀b o,b∉kO (env::outer)->b∉ch->s.heap.get? b=some o->h'.get? b=some o)->(∀b o,b∈kO (env::outer)->s.heap.get? b=some o->∃sl,h'.get? b=some { o with slots:=sl })->s1={ s with heap:=s1.heap }->
   wpAny M A (setFlight (.ref e) none) Q E { s1 with heap:=h' }:=fun ch xH s1 h' T oT ts hs hT RD e1 hz t1 t2 t3 k1 k2 es=>by
  have v1:(vs.setIfInBounds 1 (Value.ref T))[1]? = some (.ref T):=by simp [hz]
  have z3:=(Array.getElem?_eq_some_iff.mp t3).1
  refine Ta (s:={ s1 with heap:=h' }) e1 rfl v1 t1 t2 z3 ?_
  have nT:N T:=hN T (by omega)
  have ot:∀b o,b≠T->h'.get? b=some o->(h'.update T (Obj.mapFields (·.setIfInBounds 3 Value.none))).get? b=some o:=fun b o hb z=>(Heap.get?_update_other _ _ hb.symm).trans z
  have t4:=Heap.get?_update_self (Obj.mapFields (·.setIfInBounds 3 Value.none)) t1 (Obj.isFreed_of_fields (Obj.data_mapFields t2 _))
  have g:=h (h'.update T (Obj.mapFields (·.setIfInBounds 3 Value.none))) ch xH ⟨ne,_,sl,ot _ _ RD.symm e1,.inr ⟨T,_,_,nT,RD,v1,t4,Obj.data_mapFields t2 _,by simp [z3]⟩⟩ ⟨fun b o hb nb z=>ot b o (fun y=>?_) (k1 b o hb nb z),fun b o hb z=>?_⟩
  ·rw [es];exact g
  ·have:=Heap.lt_size z
   rw [y] at this
   exact absurd this (Nat.not_lt.mpr (by rw [<-hs];exact hT))
  ·obtain ⟨TK,e2⟩:=k2 b o hb z
   refine ⟨TK,ot b _ (fun y=>?_) e2⟩
   obtain ⟨_,o',Il,nd⟩:=hl.mem hb
   have:=Heap.lt_size Il
   rw [y] at this
   exact absurd this (Nat.not_lt.mpr (by rw [<-hs];exact hT))
 unfold noteFrame
 simp only [hf]
 rcases tb with h1 | ⟨T,oT,ts,nT,RD,h1,hT,dT,h3⟩
 ·have hz:=(Array.getElem?_eq_some_iff.mp h1).1
  refine wpAny_bind (wpAny_field he rfl h1 ?_)
  rw [if_neg (by decide)]
  exact EY u0 hl hf he rfl hz fun h' T oT ts a1 a2 a3 a4 a5 a6 a7 a8 _=>fin [e] (fun b hb=>by rw [List.mem_singleton.mp hb];exact ⟨ne,_,_,he,rfl⟩) s h' T oT ts rfl a1 a2 a3 hz a4 a5 a6 (fun b o hb nb z=>a7 b o (fun y=>nb (by rw [y];simp)) hb z) a8 rfl
 ·have hz:=(Array.getElem?_eq_some_iff.mp h1).1
  refine wpAny_bind (wpAny_field he rfl h1 ?_)
  rw [if_pos (show (Value.ref T != Value.none)=true by simp)]
  refine wpAny_bind (wpAny_field hT dT h3 ?_)
  rw [if_neg (show ¬((Value.none == rawInt L)=true) by simp [rawInt])]
  refine wpAny_bind (wpAny_setField hT dT (Array.getElem?_eq_some_iff.mp h3).1 ?_)
  have ot:∀b o,b≠T->s.heap.get? b=some o->(s.heap.update T (Obj.mapFields (·.setIfInBounds 3 Value.none))).get? b=some o:=fun b o hb z=>(Heap.get?_update_other _ _ hb.symm).trans z
  have nfT:∀b o,s.heap.get? b=some o->(∀vs,o.data≠.fields vs)->b≠T:=fun b o z nd y=>by rw [y,hT] at z;cases z;exact nd ts dT
  have Ai:(s.heap.update T (Obj.mapFields (·.setIfInBounds 3 Value.none))).FunFrames base (env::outer):=hl.of_keeps fun b o z nd=>⟨o,ot b o (nfT b o z nd) z,rfl⟩
  have sz:(s.heap.update T (Obj.mapFields (·.setIfInBounds 3 Value.none))).objs.size=s.heap.objs.size:=by simp
  have Vn:=ot _ _ RD.symm he
  generalize s.heap.update T (Obj.mapFields (·.setIfInBounds 3 Value.none))=hq at ot Ai sz Vn ⊢
  refine EY (s:={ s with heap:=hq }) u0 Ai hf Vn rfl hz fun h' T' oT' ts' a1 a2 a3 a4 a5 a6 a7 a8 _=>fin [e,T] (fun b hb=>?_) { s with heap:=hq } h' T' oT' ts' sz a1 a2 a3 hz a4 a5 a6 (fun b o hb nb z=>a7 b o (fun y=>nb (by rw [y];simp)) hb (ot b o (fun y=>nb (by rw [y];simp)) z)) (fun b o hb z=>a8 b o hb (ot b o ?_ z)) rfl
  ·have:b=e\/b=T:=by simpa using hb
   rcases this with rfl | rfl
   ·exact ⟨ne,_,_,he,rfl⟩
   ·exact ⟨nT,_,_,hT,dT⟩
  ·obtain ⟨_,o',Il,nd⟩:=hl.mem hb
   exact nfT b o' Il nd
theorem Ez {Q:Unit->Shared->Prop} (u0:A.frames=some (env::outer)) (hl:s.heap.FunFrames base (env::outer)) (hf:env.frame=some L) (hN:∀b,s.heap.objs.size<=b->N b) (x:Nt N s.heap e C dx)
  (h:∀h' ch,(∀b∈ch,N b/\∃o vs,s.heap.get? b=some o/\o.data=.fields vs)->Nt N h' e C dx->Lv (kO (env::outer)) ch s.heap h'->Q () { s with heap:=h' }):wpAny M A (leaving env (.ref e)) Q E s:=wpAny_bind (Pn u0 hl hf hN x h)
end
end L2
end
section
namespace L2
open PySem PySem.Spec PyProof.Rows
open PySem.W (Frag Looks)
structure XC (K:Frag) (C:Addr):Prop where
 is:pM K C=true
 hd:PySem.W.hasDictIn K C=true
 sa:PySem.W.findIn K (.ref C) "__setattr__" = some (some (.builtin "object.__setattr__"))
 ga:PySem.W.findIn K (.ref C) "__getattribute__" = some (some (.builtin "BaseException.__getattribute__"))
 gn:PySem.W.findIn K (.ref C) "__getattr__" = some none
 ca:PySem.W.findIn K (.ref C) "__class__" = some (some (.builtin "object.__class__"))
 cn:PySem.W.specialIn K (.builtin "object.__class__") "__get__" = some (some (.builtin "getset_descriptor.__get__"))
 ct:PySem.W.takesIn K (.builtin "object.__class__")=some true
 cm:PySem.W.mroIn K C (.type "object")=some true
section
variable {prog:Program} {w:World} {A:Around} {E:Value->Shared->Prop} {s:Shared} {K:Frag} {C e:Addr} {oe:Obj} {od:Option Obj}
end
end L2
end
section
namespace L2
open PySem PySem.Spec PyProof.Rows
open PySem.W (Frag Looks)
def zr (P:Program) (w:World):Br:=fun outer H s E x s'=>∃e C dx H',x=.ref e/\s'.os=s.os/\AllBare s'.gens/\Un (kO outer) [] H H' s.heap s'.heap/\fA P w H' s'.heap/\Nt (fun b=>s.heap.objs.size<=b/\H' b=none) s'.heap e C dx/\E (.ref C) dx H'
def XN (X:Cx) (pins:List (Addr×Obj)) (H:Hp) (b:Addr):Prop:=X.s₀.heap.objs.size<=b/\H b=none/\b≠X.env.locals/\(∀x c,X.env.cells.lookup x=some c->c≠b)/\∀p∈X.pn++pins,p.1≠b
theorem XN.new {X:Cx} {pins:List (Addr×Obj)} {σ:St} {H H':Hp} {s:Shared} (I:Inv X pins σ H s) {b:Addr} (hb:s.heap.objs.size<=b) (hn:H' b=none):XN X pins H' b:=by
 have nb:∀{c:Addr} {o:Obj},s.heap.get? c=some o->c≠b:=fun z y=>absurd (Heap.lt_size z) (by rw [y];exact Nat.not_lt.mpr hb)
 refine ⟨Nat.le_trans I.sz hb,hn,fun y=>?_,fun x c e=>?_,fun p hp=>nb (I.pin p hp).1⟩
 ·obtain ⟨m,⟨o,_,_,ho,_⟩,_⟩:=I.loc
  exact nb ho y.symm
 ·obtain ⟨v,o,ho,_⟩:=I.cell x c e
  exact nb ho
def kS (X:Cx) (EH:St->XK):Prop:=∀(pins:List (Addr×Obj)) (σ:St) (H:Hp) (s:Shared) (e C:Addr) (dx:Option Addr),Inv X pins σ H s->Nt (XN X pins H) s.heap e C dx->EH σ (.ref C) dx H->X.xe (.ref e) s
theorem Nt.mono {N N':Addr->Prop} {h:Heap} {e C:Addr} {dx:Option Addr} (k:∀b,N b->N' b) (x:Nt N h e C dx):Nt N' h e C dx:=by
 obtain ⟨n,vs,sl,he,tb⟩:=x
 refine ⟨k _ n,vs,sl,he,tb.imp id ?_⟩
 rintro ⟨T,oT,ts,nT,r⟩
 exact ⟨T,oT,ts,k _ nT,r⟩
theorem kS.pass {X:Cx} {EH:St->XK} (L:kS X EH) {pins:List (Addr×Obj)} {σ:St} {H:Hp} {s s':Shared} {x:Value} (I:Inv X pins σ H s) (h:zr X.prog X.w X.stack H s (EH σ) x s'):X.xe x s':=by
 obtain ⟨e,C,dx,H',rfl,os,bare,un,bh,xa,q⟩:=h
 have I':Inv X pins σ H' s':=I.call' os un bh bare (fun b z=>absurd z (by simp))
 exact L pins σ H' s' e C dx I' (xa.mono fun b hb=>.new I hb.1 hb.2) q
section
variable {P:Program} {w:World} {K:Frag} {mg:Str->Option Value} {base:Heap}
theorem HJ {N:List Str} {qual:Str} {scope:Scope} {f:Addr} {cd:Value} {A:Around} {outer:List Env} {s:Shared} {H:Hp} {E:XK}:kS (eJ (zr P w) P w K mg base N qual scope f cd A outer s H E) (fun _=>E):=by
 intro pins σ H1 s1 e C dx I xa hE
 have hsz:s.heap.objs.size<=s1.heap.objs.size:=I.sz
 refine Ez (L:=s.heap.objs.size) (N:=fun b=>s.heap.objs.size<=b/\H1 b=none) (base:=base) I.ok.frames I.stack rfl (fun b hb=>⟨Nat.le_trans hsz hb,I.bh.fresh hb⟩) (xa.mono fun b hb=>⟨hb.1,hb.2.1⟩) fun h' ch xH xa' lv=>?_
 have nn:∀b o,s.heap.get? b=some o->b∉ch:=fun b o z y=>absurd (Heap.lt_size z) (Nat.not_lt.mpr (xH b y).1.1)
 have nf:∀b o,s.heap.get? b=some o->b∉kO outer->b∉kO (envOfC qual scope s.heap.objs.size f cd::outer):=fun b o z hb y=>by
  rcases List.mem_cons.mp (show b∈s.heap.objs.size::kO outer from y) with y | y
  ·have:=Heap.lt_size z
   rw [y] at this
   exact Nat.lt_irrefl _ this
  ·exact hb y
 have sub:∀b,b∈kO outer->b∈kO (envOfC qual scope s.heap.objs.size f cd::outer):=fun b hb=>List.mem_cons_of_mem (a:=b) s.heap.objs.size hb
 have un:Un (kO outer) [] H H1 s.heap s1.heap:=I.base
 refine ⟨e,C,dx,H1,rfl,I.os,I.bare,⟨fun b o z n hb hx=>lv.keep b o (nf b o z hb) (nn b o z) (un.keep b o z n hb hx),fun b o z n hb hx=>?_,un.free,fun b o z hx=>?_,un.tups,un.frzs,un.tbls⟩,fun a u z=>?_,xa',hE⟩
 ·obtain ⟨sl,z1⟩:=un.slot b o z n hb hx
  obtain ⟨BW,z2⟩:=lv.slot b _ (sub b hb) z1
  exact ⟨BW,z2⟩
 ·obtain ⟨o',z1⟩:=un.there b o z hx
  by_cases hb:b∈kO (envOfC qual scope s.heap.objs.size f cd::outer)
  ·obtain ⟨BW,z2⟩:=lv.slot b _ hb z1
   exact ⟨_,z2⟩
  ·exact ⟨o',lv.keep b o' hb (nn b o z) z1⟩
 ·refine (I.bh a u z).stay (fun b v hb y=>?_) (fun _ q=>q) fun _ _ q=>q
  have hn:¬H1 b=none:=fun y=>by
   rcases hb with rfl | hb
   ·rw [z] at y;cases y
   ·rw [hb] at y;cases y
  exact lv.keep b v (fun y=>hn (I.ug b y)) (fun y=>hn (xH b y).1.2) y
theorem iK.okE {x qual:Str} {st:Stmt} {f:Addr} {fd:FuncData} {N ps:List Str} {k:Nat} {sp:Sp} (F:iK K x qual st f fd) (S:aT N ps (ag st)) (len:∀vs H Q E,sp vs H Q E->vs.length=ps.length)
  (dN:∀(cC:Value) (A:Around) (outer:List Env) (s:Shared) (H:Hp) (vs:List V) (Q:VK) (E:XK),bW k (A.deeper (envOfC qual (ag st) s.heap.objs.size f cC))->sp vs H Q E->
   HC (eJ (zr P w) P w K mg base N qual (ag st) f cC A outer s H E) N (ag st)->(∀x,(eJ (zr P w) P w K mg base N qual (ag st) f cC A outer s H E).fn x=true)->
   kS (eJ (zr P w) P w K mg base N qual (ag st) f cC A outer s H E) (fun _=>E)->PassesOwn (model P w) (eJ (zr P w) P w K mg base N qual (ag st) f cC A outer s H E).A (eJ (zr P w) P w K mg base N qual (ag st) f cC A outer s H E).env (eJ (zr P w) P w K mg base N qual (ag st) f cC A outer s H E).xe->
   ∃t,Bk (eJ (zr P w) P w K mg base N qual (ag st) f cC A outer s H E) (aJ st) t/\t { nx:=fun _ H'=>Q .non H',rt:=Q } (start N vs) H):bO P w K mg base (zr P w) (k+1) f fd ps sp:=by
 obtain ⟨oc,od,kV,doc,pm,an,cC,ct,z4,rfl,lk,rA⟩:=F.ex
 refine Jg lk rA S len fun A outer s H vs Q E hr xF=>?_
 obtain ⟨t,h,q⟩:=dN cC A outer s H vs Q E hr xF ⟨rfl,rfl⟩ (fun _=>rfl) HJ PassesOwn.leaving
 exact ⟨t,h.to,q⟩
end
section
variable {X:Cx} {k:Nat} {f C:Addr} {fd:FuncData} {ps:List Str} {sp:Sp} {EH:St->XK} {x:Str} {p pos:Pos} {e:Expr} {es:List Expr} {t:TA}
def Fp (sp:Sp) (EH:St->XK) (t:TA):TE:=fun σ H Q=>t σ H fun vs H1=>sp vs H1 Q (EH σ)
end
end L2
end
section
namespace L2
open PySem PySem.Spec PyProof.Rows
open PySem.W (Frag Looks)
section
variable {X:Cx} {k:Nat} {fI C:Addr} {fd:FuncData} {ps:List Str} {sp:Sp} {EH:St->XK} {x:Str} {np cA pos:Pos} {a:Expr} {t:TA}
def zt (C:Addr) (t:TA) (EH:St->XK):TS:=fun _ σ H=>t σ H fun vs H1=>vs.length<=sizeLine/\EH σ (.ref C) none H1
def gC (e C:Addr) (dx:Option Addr) (t:Addr):Heap->Prop:=fun h=>h.get? e=some (Pm C dx t)
theorem t6 {P:Program} {w:World} {H:Hp} {h:Heap} {e C t:Addr} {dx:Option Addr} (z:h.get? e=some (Pm C dx t)):cD P w H h e (.ext (gC e C dx t)):=⟨z,⟨_,z⟩,fun h1 h2 a b=>b _ a⟩
def ui (C:Addr) (fld:Str):Sp:=fun vs H Q _=>∃e v t,vs=[.ref e,v]/\H e=some (.ext (gC e C none t))/\∀dx t',H dx=none->dx≠e->Q .non (upd (upd H e (.ext (gC e C (some dx) t'))) dx (.xd [(fld,v)]))
def Dx (H:Hp) (e:Addr):Hp:=fun b=>if b=e then none else H b
theorem oj {H:Hp} {e:Addr}:Dx H e e=none:=if_pos rfl
theorem gP {H:Hp} {e b:Addr} (h:b≠e):Dx H e b=H b:=if_neg h
theorem kj {H:Hp} {e b:Addr} (h:H b=none):Dx H e b=none:=by
 by_cases hb:b=e
 ·rw [hb];exact oj
 ·rw [gP hb];exact h
theorem Inv.forget {pins:List (Addr×Obj)} {σ:St} {H:Hp} {s:Shared} {e:Addr} {φ:Heap->Prop} (I:Inv X pins σ H s) (he:H e=some (.ext φ)):Inv X pins σ (Dx H e) s:=by
 have ne:∀{b:Addr} {u:HO},H b=some u->(HO.ext φ≠u)->b≠e:=fun z n=>(aY he z n).symm
 have ok:fA X.prog X.w (Dx H e) s.heap:=fun b u z=>by
  by_cases hb:b=e
  ·rw [hb,oj] at z;cases z
  ·rw [gP hb] at z
   refine (I.bh b u z).stay (fun _ _ _ q=>q) (fun c q=>?_) fun c xs q=>?_
   ·rw [gP (ne q (by intro z;cases z))];exact q
   ·rw [gP (ne q (by intro z;cases z))];exact q
 refine ⟨I.ok,I.os,I.bare,⟨I.base.keep,I.base.slot,fun b ob z n hx=>kj (I.base.free b ob z n hx),I.base.there,fun b xs z=>?_,fun b ob u z=>?_,fun b ps z=>?_⟩,I.loc,I.cell,kj I.free,fun x c z=>kj (I.iz x c z),fun p hp=>?_,ok,I.len⟩
 ·have e1:=I.base.tups b xs z
  rw [gP (ne e1 (by intro z;cases z))];exact e1
 ·have e1:=I.base.frzs b ob u z
  rw [gP (ne e1 (by intro z;cases z))];exact e1
 ·obtain ⟨m,e1⟩:=I.base.tbls b ps z
  exact ⟨m,by rw [gP (ne e1 (by intro z;cases z))];exact e1⟩
 ·obtain ⟨p1,p2,p3⟩:=I.pin p hp
  exact ⟨p1,kj p2,p3⟩
def pk (C:Addr) (fld:Str) (t:TE) (EH:St->XK):TS:=fun _ σ H=>t σ H fun v H1=>∀dx,H1 dx=none->EH σ (.ref C) (some dx) (upd H1 dx (.xd [(fld,v)]))
theorem Cj {fld:Str} {te:TE} (c:XC X.K C) (hi:PySem.W.findIn X.K (.ref C) "__init__" = some (some (.ref fI))) (hf:PySem.W.typeIn X.K (.ref fI)=some (.type "function")) (hk:PySem.W.keepIn X.K (.ref C)=true)
  (F:bO X.prog X.w X.K X.mg X.base eL k fI fd ps (ui C fld)) (hb:Binds X.K fd ps []) (hr:bW (k+1) X.A) (hg:Gl X x) (hm:X.mg x=some (.ref C)) (hc:X.calm=true) (L:kS X EH) (ha:PE X a te)
  (n5:(x == ("__debug__" : Str))=false:=by decide) (he:starEach [a] X.env=(false,eval a X.env)::starEach [] X.env:=by rfl) (iw:(backTo cA (starEach [] X.env)).any (·.1)=false:=by rfl) :
  PS X (.Raise (some (.Call (.Name x np) [a] [] cA)) none pos) (pk C fld te EH):=by
 intro pins s σ H D I h
 rw [arm_exec_Raise]
 refine wpAny_bind (wpAny_standAt (Pl c.is (I.ok.hd hc) ?_))
 refine wpAny_bind (wpAny_Call_Name_kw (kg I hg hm ?_ n5))
 refine PySem.W.callWith_K (h₀:=X.base) I.ok.mod.QX hk (cy (pB ha yd he cA pins s σ H (fun vs H1=>match vs with | [v]=>(∀dx,H1 dx=none->EH σ (.ref C) (some dx) (upd H1 dx (.xd [(fld,v)]))) | _=>False) I h) fun us s1 ⟨vs,H1,I1,r,q⟩=>⟨I1.jr,?_⟩) he iw
 match vs,q,r with
 | [v],q,r=>
  have ul:us.length<=sizeLine:=by rw [<-r.length];show 1<=sizeLine;decide
  refine Jy I1.jr c.is hi hf (fun h' mk=>?_) ul
  obtain ⟨t,e1,_,_⟩:=mk.there
  have fe:H1 (s1.heap.objs.size+1)=none:=I1.bh.fresh (Nat.le_succ _)
  have I2:=I1.laid (a:=s1.heap.objs.size+1) (o:=.ext (gC (s1.heap.objs.size+1) C none t)) (t':=s1.toks) mk.keeps (Nat.le_succ _) (t6 e1)
  have fe2:∀H':Hp,H' (s1.heap.objs.size+1)=none->XN X pins H' (s1.heap.objs.size+1):=fun H' z=>.new I1 (Nat.le_succ _) z
  generalize s1.heap.objs.size+1=e at e1 fe I2 fe2
  have hq:ui C fld [.ref e,v] (upd H1 e (.ext (gC e C none t))) (fun u H2=>u=.non/\∃dx t',H1 dx=none/\dx≠e/\H2=upd (upd (upd H1 e (.ext (gC e C none t))) e (.ext (gC e C (some dx) t'))) dx (.xd [(fld,v)])) E0:=⟨e,v,t,rfl,ah,fun dx t' hd qQ=>⟨rfl,dx,t',by rwa [aq qQ] at hd,qQ,rfl⟩⟩
  have r2:Vals [V.ref e,v] (Value.ref e::us):=.cons rfl r
  have hl:(Value.ref e::us).length=ps.length:=by rw [<-r2.length];exact F.len _ _ _ _ hq
  have b:=hb _ (Value.ref e::us) I2.jr (by rw [List.append_nil];exact hl)
  rw [List.append_nil] at b
  refine wpAny_call (codeAny_mono (F.run _ X.stack _ _ ⟨Value.ref e::us,[]⟩ (Value.ref e::us) _ _ E0 (hr.make C us []) (I2.Dv.make C us []) b r2 hq) fun r s' Dj=>?_)
  cases r with
  | error e=>exact False.elim Dj
  | ok fl=>
   cases fl with
   | ret u=>
    obtain ⟨v',H3,I3,rv,rfl,dx,t',yN,qQ,rfl⟩:=I2.after Dj
    have e3:upd (upd (upd H1 e (.ext (gC e C none t))) e (.ext (gC e C (some dx) t'))) dx (.xd [(fld,v)]) e=some (.ext (gC e C (some dx) t')):=by rw [aq qQ.symm,ah]
    have o3:gC e C (some dx) t' s'.heap:=(I3.bh e _ e3).1
    have I4:=Inv.forget I3 e3
    have eh:Dx (upd (upd (upd H1 e (.ext (gC e C none t))) e (.ext (gC e C (some dx) t'))) dx (.xd [(fld,v)])) e=upd H1 dx (.xd [(fld,v)]):=by
     funext b
     by_cases hb:b=e
     ·rw [hb,oj,aq qQ.symm,fe]
     ·rw [gP hb]
      by_cases hd:b=dx
      ·rw [hd,ah,ah]
      ·rw [aq hd,aq hd,aq hb,aq hb]
    rw [eh] at I4
    refine ⟨rv,wpAny_bind (wpAny_standAt (wpAny_pure ⟨e,some dx,t',rfl,I4.jr,o3,L pins σ _ _ e C (some dx) I4 ⟨fe2 _ (by rw [aq qQ.symm];exact fe),_,_,o3,.inl rfl⟩ (q dx yN)⟩))⟩
   | _=>exact False.elim Dj
end
end L2
end
section
namespace L2
open PySem PySem.Spec PyProof.Rows
open PySem.W (Frag Looks)
section
variable {X:Cx} {B:Addr} {x:Str} {np cA apos pos pos':Pos} {a b o value:Expr} {t:TA} {ta tv:TE} {fld:Str}
def zC (K:Frag) (t:TA):TE:=fun σ H Q=>t σ H fun vs H1=>∃e C t0 v,vs=[.ref e,v]/\H1 e=some (.ext (gC e C none t0))/\XC K C/\∀t',Q .non (upd H1 e (.ext (gC e C none t')))
theorem Nj {pins:List (Addr×Obj)} {σ:St} {H1:Hp} {s1:Shared} {us:List Value} {vs:List V} {Q:VK} {A:Around} {E:Value->Shared->Prop} (I1:Inv X pins σ H1 s1) (r:Vals vs us)
  (h:∃e C t0 v,vs=[.ref e,v]/\H1 e=some (.ext (gC e C none t0))/\XC X.K C/\∀t',Q .non (upd H1 e (.ext (gC e C none t')))):wpAny (model X.prog X.w) A (call (.builtin "ValueError.__init__") us) (EP X pins σ Q) E s1:=by
 obtain ⟨e,C,t0,v,rfl,he,c,q⟩:=h
 obtain ⟨u1,u2,rfl,r1,r2⟩:=r.two
 obtain rfl:u1=Value.ref e:=r1
 have o1:s1.heap.get? e=some (Pm C none t0):=(I1.bh e _ he).1
 have e1:(s1.heap.push { cls:=.type "tuple",data:=.seq [u2].toArray }).get? e=some (Pm C none t0):=Heap.get?_push_of_some _ o1
 have e2:((s1.heap.push { cls:=.type "tuple",data:=.seq [u2].toArray }).update e (Obj.mapFields (·.setIfInBounds 0 (Value.ref s1.heap.objs.size)))).get? e=some (Pm C none s1.heap.objs.size):=(Heap.get?_update_self _ e1 rfl).trans rfl
 have k2:∀b ob,b≠e->s1.heap.get? b=some ob->((s1.heap.push { cls:=.type "tuple",data:=.seq [u2].toArray }).update e (Obj.mapFields (·.setIfInBounds 0 (Value.ref s1.heap.objs.size)))).get? b=some ob:=fun b ob hb z=>(Heap.get?_update_other _ _ hb.symm).trans (Heap.get?_push_of_some _ z)
 refine DW I1.jr c.is o1 ?_ (show 1<=sizeLine by decide)
 generalize ((s1.heap.push { cls:=.type "tuple",data:=.seq [u2].toArray }).update e (Obj.mapFields (·.setIfInBounds 0 (Value.ref s1.heap.objs.size))))=h2 at e2 k2 ⊢
 exact ⟨.non,_,I1.write (x:=e) (e:=e) (o:=.ext (gC e C none s1.heap.objs.size)) (t':=s1.toks) (by rw [he];trivial) (.inl rfl) (fun b ob hb z=>k2 b ob hb z) ⟨_,e2⟩ (t6 e2),rfl,q _⟩
theorem Ln {pl:Sem Bool} (hr:PySem.W.readsIn X.K B (.type "type")=true) (hf:PySem.W.findCls X.K (.ref B) (.type "type") "__init__" = some (.val (.builtin "ValueError.__init__")))
  (hs:PySem.W.specialIn X.K (.ref B) "__getattribute__" = some (some (.builtin "type.__getattribute__"))) (hg:Gl X x) (hm:X.mg x=some (.ref B)) (ha:PA X [a,b] t)
  (n5:(x == ("__debug__" : Str))=false:=by decide) (Ij:starEach [a,b] X.env=(false,eval a X.env)::starEach [b] X.env:=by rfl) (iw:(backTo cA (starEach [b] X.env)).any (·.1)=false:=by rfl)
  (ht:eval (.Call (.Attribute (.Name x np) "__init__" apos) [a,b] [] cA) X.env=(do
   let ov <-eval (.Name x np) X.env
   standAt apos.atName
   let (f,first) <-holding [ov] (getMethod ov "__init__" pl)
   callWith cA f first (backTo cA (starEach [a,b] X.env)) (backToKw cA (keywordEach [] X.env))):=by rfl) :
  PE X (.Call (.Attribute (.Name x np) "__init__" apos) [a,b] [] cA) (zC X.K t):=by
 intro pins s σ H Q I h
 refine PySem.W.methodCall_KW (pl:=pl) (kg I hg hm ?_ n5) ht
 refine PySem.W.method_cls I.jr hs (PySem.W.cls_value I.jr hr hf rfl ?_)
 have I0:Inv X pins σ H { s with toks:=s.toks+1 }:=I.tok _
 show wpAny _ _ (callWith cA (.builtin "ValueError.__init__") [] (backTo cA (starEach [a,b] X.env)) []) _ _ _
 exact PyProof.Rows.callWith_builtin1 (cy (ha cA pins _ σ H _ I0 h) fun us s1 ⟨vs,H1,I1,r,q⟩=>Nj I1 r q) Ij iw
def zL (K:Frag) (ta tv:TE) (fld:Str):TS:=fun D σ H=>tv σ H fun y H1=>ta σ H1 fun x H2=>∃e C t,x=.ref e/\H2 e=some (.ext (gC e C none t))/\XC K C/\PySem.W.takerIn K C fld=some none/\
 ∀dx,H2 dx=none->dx≠e->D.nx σ (upd (upd H2 e (.ext (gC e C (some dx) t))) dx (.xd [(fld,y)]))
theorem K7 (ha:PE X o ta) (hv:PE X value tv) (hs:swapsWith value (some (.Attribute o fld pos')) pos.line X.env=pure false):PS X (.Assign [.Attribute o fld pos'] value pos) (zL X.K ta tv fld):=by
 intro pins s σ H D I h
 refine plainObj_wpAny_Assign_Attribute (cy (hv pins s σ H _ I h) fun u s1 ⟨y,H1,I1,ry,q⟩=>cy (ha pins s1 σ H1 _ I1 q) fun ov s2 ⟨x,H2,I2,rx,e,C,t,ex,he,c,tk,q2⟩=>?_) hs
 subst ex
 obtain rfl:ov=Value.ref e:=rx
 have o2:s2.heap.get? e=some (Pm C none t):=(I2.bh e _ he).1
 refine XT I2.jr c.is o2 rfl rfl rfl c.sa tk fun h' Td e3 n3 k3=>?_
 have hd:H2 s2.heap.objs.size=none:=I2.bh.fresh (Nat.le_refl _)
 have hde:s2.heap.objs.size≠e:=Nat.ne_of_gt (Heap.lt_size o2)
 have hdn:s2.heap.get? s2.heap.objs.size=none:=Heap.get?_none_of_le (Nat.le_refl _)
 generalize s2.heap.objs.size=dx at e3 n3 hd hde hdn
 have U:∀{b:Addr},b≠e->b≠dx->upd (upd H2 e (.ext (gC e C (some dx) t))) dx (.xd [(fld,y)]) b=H2 b:=fun h1 h2=>by rw [aq h2,aq h1]
 have ne:∀{b:Addr} {z:HO},H2 b=some z->(HO.ext (gC e C none t)≠z)->b≠e:=fun z n=>(aY he z n).symm
 have nd:∀{b:Addr} {z:HO},H2 b=some z->b≠dx:=fun z y=>by rw [y,hd] at z;cases z
 have nb:∀{b:Addr} {z:Obj},s2.heap.get? b=some z->b≠dx:=fun z y=>by rw [y,hdn] at z;cases z
 have nn:∀{b:Addr},H2 b=none->b≠e:=fun z y=>by rw [y,he] at z;cases z
 refine ⟨σ,_,I2.un (H':=upd (upd H2 e (.ext (gC e C (some dx) t))) dx (.xd [(fld,y)])) (t':=Td) ⟨fun b ob z n _ _=>k3 b ob (nn n) z,fun b ob z n _ _=>⟨ob.slots,k3 b ob (nn n) z⟩,fun b ob z n _=>by rw [U (nn n) (nb z)];exact n,fun b ob z _=>?_,fun b xs z=>?_,fun b ob z' z=>?_,fun b ps z=>⟨#[],?_⟩⟩ fun b z hz=>?_,q2 dx hd hde⟩
 ·by_cases hb:b=e
  ·rw [hb];exact ⟨_,e3⟩
  ·exact ⟨ob,k3 b ob hb z⟩
 ·rw [U (ne z (by intro z;cases z)) (nd z)];exact z
 ·rw [U (ne z (by intro z;cases z)) (nd z)];exact z
 ·rw [U (ne z (by intro z;cases z)) (nd z),z];simp
 ·by_cases hb:b=dx
  ·rw [hb,ah] at hz
   cases hz
   rw [hb]
   refine ⟨_,n3,fun f=>?_⟩
   by_cases hf:f=fld
   ·rw [hf,if_pos rfl]
    simp only [List.lookup,beq_self_eq_true]
    exact ry
   ·rw [if_neg hf]
    have:(f == fld)=false:=beq_eq_false_iff_ne.mpr hf
    simp only [List.lookup,this]
    trivial
  ·rw [aq hb] at hz
   by_cases Xm:b=e
   ·rw [Xm,ah] at hz
    cases hz
    rw [Xm]
    exact t6 e3
   ·rw [aq Xm] at hz
    refine (I2.bh b z hz).stay (fun c v hc y=>k3 c v ?_ y) (fun c y=>?_) fun c xs y=>?_
    ·rcases hc with rfl | hc
     ·exact Xm
     ·exact ne hc (by intro z;cases z)
    ·rw [U (ne y (by intro z;cases z)) (nd y)];exact y
    ·rw [U (ne y (by intro z;cases z)) (nd y)];exact y
end
end L2
end
section
namespace L2
open PySem PySem.Spec PyProof.Rows
open PySem.W (Frag Looks)
def Wu (e C:Addr) (dx:Option Addr):Heap->Prop:=fun h=>∃vs sl,h.get? e=some ⟨.ref C,dx,.fields vs,sl⟩
section
variable {X:Cx} {pins:List (Addr×Obj)} {σ:St} {H:Hp} {s:Shared} {e C:Addr} {dx:Option Addr}
end
section
variable {X:Cx} {pins GZ:List (Addr×Obj)} {σ:St} {H:Hp} {s:Shared} {e:Addr} {xe:Value->Shared->Prop}
end
def Ends.X3 (D:Ends) (i:Nat):Ends:={ nx:=fun σ H=>D.nx (σ.set i none) H,rt:=D.rt,bk:=fun σ H=>D.bk (σ.set i none) H,ct:=fun σ H=>D.ct (σ.set i none) H }
def Tn (K:Frag) (i:Nat) (B:Addr) (tb:(St->XK)->TS) (ts:TS):TS:=fun D σ H=>∃EH:St->XK,tb EH D σ H/\∀σ' C dx H',EH σ' (.ref C) dx H'->PySem.W.subIn K (.ref C) (.ref B)=some true/\∀e,H' e=none->ts (D.X3 i) (σ'.set i (some (.ref e))) (upd H' e (.ext (Wu e C dx)))
section
variable {X:Cx} {B:Addr} {x n:Str} {np U6 pos:Pos} {body suite:List Stmt} {b₀:Stmt} {tb:(St->XK)->TS} {ts:TS} {i:Nat}
end
end L2
end
section
namespace L2
open PySem PySem.Spec PyProof.Rows
open PySem.W (Frag Looks)
section
variable {X:Cx} {B:Addr} {x n:Str} {np U6 pos:Pos} {body suite:List Stmt} {b₀:Stmt} {tb:(St->XK)->TS} {ts:TS} {i:Nat}
end
end L2
end
section
namespace L2
open PySem PySem.Spec PyProof.Rows
open PySem.W (Frag Looks)
def JQ (H:Hp) (dx:Option Addr):Prop:=∀d,dx=some d->∃fs,H d=some (.xd fs)
section
variable {X:Cx} {pins:List (Addr×Obj)} {σ:St} {H:Hp} {s:Shared} {e C:Addr} {dx:Option Addr}
def Gz (K:Frag):List V->Hp->VK->Prop:=fun vs H Q=>∃e T,vs=[.ref e,.ty T]/\∃C dx,H e=some (.ext (Wu e C dx))/\JQ H dx/\XC K C/\∃b,PySem.W.kitOne K (.ref C) (.type T)=some b/\Q (.bl b) H
def GC (K:Frag):List V->Hp->VK->Prop:=fun vs H Q=>∃e D,vs=[.ref e,.ref D]/\∃C dx,H e=some (.ext (Wu e C dx))/\JQ H dx/\XC K C/\∃b,PySem.W.kitOne K (.ref C) (.ref D)=some b/\Q (.bl b) H
def GD (K:Frag):List V->Hp->VK->Prop:=fun vs H Q=>∃e p,vs=[.ref e,.ref p]/\∃Ds:List Addr,H p=some (.tup (Ds.map V.ref))/\∃C dx,H e=some (.ext (Wu e C dx))/\JQ H dx/\XC K C/\∃b,PySem.W.kitAny K (.ref C) (Ds.map Value.ref)=some b/\Q (.bl b) H
def NT (K:Frag) (ta:TE) (f:Str):TE:=fun σ H Q=>ta σ H fun x H1=>∃e,x=.ref e/\∃C dx,H1 e=some (.ext (Wu e C (some dx)))/\XC K C/\PySem.W.findIn K (.ref C) f=some none/\∃fs,H1 dx=some (.xd fs)/\∃v,fs.lookup f=some v/\Q v H1
end
end L2
end
section
namespace L2
open PySem PySem.Spec PyProof.Rows
open PySem.W (Frag Looks)
section
variable {X:Cx} {N:List Str} {sc:Scope}
variable {k:Nat} {fI C B:Addr} {fd:FuncData} {ps:List Str} {sp:Sp} {EH:St->XK} {x n fld:Str} {np cA apos U6 pos pos':Pos} {a b o value:Expr} {t:TA} {te ta tv:TE} {body suite:List Stmt} {b₀:Stmt} {tb:(St->XK)->TS} {ts:TS}
theorem xJ (c:XC X.K C) (hi:PySem.W.findIn X.K (.ref C) "__init__" = some (some (.ref fI))) (hf:PySem.W.typeIn X.K (.ref fI)=some (.type "function")) (hk:PySem.W.keepIn X.K (.ref C)=true)
  (F:bO X.prog X.w X.K X.mg X.base eL k fI fd ps (ui C fld)) (hb:Binds X.K fd ps []) (hr:bW (k+1) X.A) (hg:Gl X x) (hm:X.mg x=some (.ref C)) (hc:X.calm=true) (L:kS X EH) (ha:ZE X a te)
  (n5:(x == ("__debug__" : Str))=false:=by decide) (he:starEach [a] X.env=(false,eval a X.env)::starEach [] X.env:=by rfl) (iw:(backTo cA (starEach [] X.env)).any (·.1)=false:=by rfl) :
  ZS X (.Raise (some (.Call (.Name x np) [a] [] cA)) none pos) (pk C fld te EH):=⟨Cj c hi hf hk F hb hr hg hm hc L ha.to n5 he iw⟩
theorem Ey {pl:Sem Bool} (hr:PySem.W.readsIn X.K B (.type "type")=true) (hf:PySem.W.findCls X.K (.ref B) (.type "type") "__init__" = some (.val (.builtin "ValueError.__init__")))
  (hs:PySem.W.specialIn X.K (.ref B) "__getattribute__" = some (some (.builtin "type.__getattribute__"))) (hg:Gl X x) (hm:X.mg x=some (.ref B)) (ha:ZA X [a,b] t)
  (n5:(x == ("__debug__" : Str))=false:=by decide) (Ij:starEach [a,b] X.env=(false,eval a X.env)::starEach [b] X.env:=by rfl) (iw:(backTo cA (starEach [b] X.env)).any (·.1)=false:=by rfl)
  (ht:eval (.Call (.Attribute (.Name x np) "__init__" apos) [a,b] [] cA) X.env=(do
   let ov <-eval (.Name x np) X.env
   standAt apos.atName
   let (f,first) <-holding [ov] (getMethod ov "__init__" pl)
   callWith cA f first (backTo cA (starEach [a,b] X.env)) (backToKw cA (keywordEach [] X.env))):=by rfl) :
  ZE X (.Call (.Attribute (.Name x np) "__init__" apos) [a,b] [] cA) (zC X.K t):=⟨Ln (pl:=pl) hr hf hs hg hm ha.to n5 Ij iw ht⟩
theorem Eu (ha:ZE X o ta) (hv:ZE X value tv) (hs:swapsWith value (some (.Attribute o fld pos')) pos.line X.env=pure false):ZS X (.Assign [.Attribute o fld pos'] value pos) (zL X.K ta tv fld):=⟨K7 ha.to hv.to hs⟩
end
section
variable {X:Cx}
def N1 (neg:Bool):R2:=fun x y H Q=>∃p q,x=.ref p/\y=.ref q/\∃xs ys:List Str,H p=some (.tup (List.map V.str xs))/\H q=some (.tup (List.map V.str ys))/\Q (.bl (if neg then !decide (xs=ys) else decide (xs=ys))) H
end
end L2
end
section
namespace L2
open PySem PySem.Spec PySem.W PyProof.Rows
abbrev cS (o:Obj):HO:=.tI o (.own 0)
def dn (C:List (Addr×Obj)) (H:Hp):Hp:=fun b=>match C.lookup b with | some o=>some (cS o) | none=>H b
def aO (C:List (Addr×Obj)) (H:Hp):Hp:=fun b=>match C.lookup b with | some _=>none | none=>H b
theorem gS {C:List (Addr×Obj)} {H:Hp} {b:Addr} {o:Obj} (h:C.lookup b=some o):dn C H b=some (cS o):=by unfold dn;rw [h]
theorem bB {C:List (Addr×Obj)} {H:Hp} {b:Addr} (h:C.lookup b=none):dn C H b=H b:=by unfold dn;rw [h]
theorem iA {C:List (Addr×Obj)} {H:Hp} {b:Addr} {o:Obj} (h:C.lookup b=some o):aO C H b=none:=by unfold aO;rw [h]
theorem aN {C:List (Addr×Obj)} {H:Hp} {b:Addr} (h:C.lookup b=none):aO C H b=H b:=by unfold aO;rw [h]
def cK (C:List (Addr×Obj)) (H:Hp):Prop:=∀b o,C.lookup b=some o->H b=some (cS o)
def cB (C:List (Addr×Obj)) (H:Hp):Prop:=∀b o,C.lookup b=some o->H b=none
theorem cK.out {C:List (Addr×Obj)} {H:Hp} (p:cK C H) {b:Addr} {u:HO} (e:H b=some u) (n:∀o,u≠cS o):C.lookup b=none:=by
 cases q:C.lookup b with
 | none=>rfl
 | some o=>rw [p b o q] at e;cases e;exact absurd rfl (n o)
theorem cK.Cq {C:List (Addr×Obj)} {H:Hp} (p:cK C H) {b:Addr} (e:H b=none):C.lookup b=none:=by
 cases q:C.lookup b with
 | none=>rfl
 | some o=>rw [p b o q] at e;cases e
theorem cB.out {C:List (Addr×Obj)} {H:Hp} (p:cB C H) {b:Addr} {u:HO} (e:H b=some u):C.lookup b=none:=by
 cases q:C.lookup b with
 | none=>rfl
 | some o=>rw [p b o q] at e;cases e
theorem cB.added {C:List (Addr×Obj)} {H:Hp}:cK C (dn C H):=fun _ _ h=>gS h
section
variable {P:Program} {w:World} {H H':Hp} {h h':Heap} {C:List (Addr×Obj)} {fs:List Addr}
theorem _root_.L2.fA.dn (x:fA P w H h) (p:cB C H) (k:∀b o,C.lookup b=some o->h.get? b=some o):fA P w (dn C H) h:=fun b u e=>by
 cases q:C.lookup b with
 | some o=>rw [gS q] at e;cases e;exact ⟨k b o q,o,k b o q⟩
 | none=>
  rw [bB q] at e
  exact (x b u e).stay (fun _ _ _ z=>z) (fun c z=>by rw [bB (p.out z)];exact z) fun c xs z=>by rw [bB (p.out z)];exact z
theorem _root_.L2.fA.aO (x:fA P w H h) (p:cK C H):fA P w (aO C H) h:=fun b u e=>by
 cases q:C.lookup b with
 | some o=>rw [iA q] at e;cases e
 | none=>
  rw [aN q] at e
  exact (x b u e).stay (fun _ _ _ z=>z) (fun c z=>by rw [aN (p.out z (by intro o n;cases n))];exact z) fun c xs z=>by rw [aN (p.out z (by intro o n;cases n))];exact z
theorem fA.pins (x:fA P w H h) (p:cK C H):∀b o,C.lookup b=some o->h.get? b=some o:=fun b o q=>(x b _ (p b o q)).1
theorem Un.Ar (u:Un fs [] (dn C H) H' h h') (x:fA P w H' h') (p:cB C H) (k:∀b o,C.lookup b=some o->h.get? b=some o):Un fs [] H (aO C H') h h':=by
 have Cm:cK C H':=fun b o q=>u.frzs b o _ (gS q)
 have at':∀b o,C.lookup b=some o->h'.get? b=some o:=x.pins Cm
 refine ⟨fun b o e n hb hx=>?_,fun b o e n hb hx=>?_,fun b o e n hx=>?_,u.there,fun b xs e=>?_,fun b o v e=>?_,fun b ps e=>?_⟩
 ·cases q:C.lookup b with
  | some o'=>have:=k b o' q;rw [e] at this;cases this;exact at' b o q
  | none=>exact u.keep b o e (by rw [bB q];exact n) hb hx
 ·cases q:C.lookup b with
  | some o'=>have:=k b o' q;rw [e] at this;cases this;exact ⟨o.slots,at' b o q⟩
  | none=>exact u.slot b o e (by rw [bB q];exact n) hb hx
 ·cases q:C.lookup b with
  | some o'=>exact iA q
  | none=>rw [aN q];exact u.free b o e (by rw [bB q];exact n) hx
 ·rw [aN (p.out e)];exact u.tups b xs (by rw [bB (p.out e)];exact e)
 ·rw [aN (p.out e)];exact u.frzs b o v (by rw [bB (p.out e)];exact e)
 ·obtain ⟨m,z⟩:=u.tbls b ps (by rw [bB (p.out e)];exact e)
  exact ⟨m,by rw [aN (p.out e)];exact z⟩
theorem Un.Bj (u:Un fs [] (aO C H) H' h h') (x:fA P w H h) (p:cK C H) (nf:∀b o,C.lookup b=some o->b∉fs):Un fs [] H (dn C H') h h'/\cB C H'/\∀b o,C.lookup b=some o->h'.get? b=some o:=by
 have k:=x.pins p
 refine ⟨⟨fun b o e n hb hx=>u.keep b o e (by rw [aN (p.Cq n)];exact n) hb hx,fun b o e n hb hx=>u.slot b o e (by rw [aN (p.Cq n)];exact n) hb hx,fun b o e n hx=>?_,u.there,fun b xs e=>?_,fun b o v e=>?_,fun b ps e=>?_⟩,fun b o q=>?_,fun b o q=>?_⟩
 ·rw [bB (p.Cq n)];exact u.free b o e (by rw [aN (p.Cq n)];exact n) hx
 ·have q:=p.out e (by intro o n;cases n)
  rw [bB q];exact u.tups b xs (by rw [aN q];exact e)
 ·cases q:C.lookup b with
  | some o'=>rw [p b o' q] at e;cases e;exact gS q
  | none=>rw [bB q];exact u.frzs b o v (by rw [aN q];exact e)
 ·have q:=p.out e (by intro o n;cases n)
  obtain ⟨m,z⟩:=u.tbls b ps (by rw [aN q];exact e)
  exact ⟨m,by rw [bB q];exact z⟩
 ·exact u.free b o (k b o q) (iA q) (by simp)
 ·exact u.keep b o (k b o q) (iA q) (nf b o q) (by simp)
end
def kX (P:Program) (w:World) (K:PySem.W.Frag) (mg:Str->Option Value) (base:Heap) (k:Nat) (f:Addr) (sp:Sp):Prop:=
 ∀(A:Around) (outer:List Env) (s:Shared) (H:Hp) (us:List Value) (vs:List V) (Q:VK) (E:XK),bW k A->mB P w K mg base A outer s H->Vals vs us->sp vs H Q E->codeAny (model P w) A (.call (.ref f) ⟨us,[]⟩) (CR eL outer P w H s Q E) s
def Pb (P:Program) (w:World) (K:PySem.W.Frag) (mg:Str->Option Value) (base:Heap) (N:List Str) (qual:Str) (scope:Scope) (f:Addr) (cd:Value) (cl:List (Str×Addr)) (A:Around) (outer:List Env) (s:Shared) (H:Hp):Cx where
 prog:=P
 w:=w
 K:=K
 mg:=mg
 base:=base
 A:=A.deeper (envX qual scope s.heap.objs.size f cd cl)
 N:=N
 s₀:=s
 H₀:=H
 env:=envX qual scope s.heap.objs.size f cd cl
 outer:=outer
 stack:=envX qual scope s.heap.objs.size f cd cl::outer
 ex:=[]
 calm:=true
 fn:=fun _=>false
 pn:=[]
 xe:=fun _ _=>False
end L2
end
section
namespace L2
open PySem PySem.Spec PySem.W PyProof.Rows
theorem oH {u:Value} {x:Str}:∀{l:List (Str×Value)},(x,u)∈l->(∀v,(x,v)∈l->v=u)->l.lookup x=some u
 | [],h,_=>nomatch h
 | (y,v)::l,h,q=>by
  rw [List.lookup_cons]
  by_cases e:x=y
  ·subst e
   rw [beq_self_eq_true]
   show some v=some u
   rw [q v List.mem_cons_self]
  ·rw [beq_false_of_ne e]
   refine oH ?_ fun v hv=>q v (List.mem_cons_of_mem _ hv)
   rcases List.mem_cons.mp h with z | z
   ·cases z;exact absurd rfl e
   ·exact z
theorem yz {ps:List Str} {us:List Value} {i:Nat} {x:Str} {u:Value} (nd:ps.Nodup) (h1:ps[i]? = some x) (h2:us[i]? = some u):(ps.zip us).reverse.lookup x=some u:=by
 have hz:(ps.zip us)[i]? = some (x,u):=by rw [List.getElem?_zip_eq_some];exact ⟨h1,h2⟩
 refine oH (List.mem_reverse.mpr (List.mem_of_getElem? hz)) fun v hv=>?_
 obtain ⟨j,hj⟩:=List.mem_iff_getElem?.mp (List.mem_reverse.mp hv)
 rw [List.getElem?_zip_eq_some] at hj
 have:i=j:=p8 nd h1 hj.1
 subst this
 rw [h2] at hj
 exact (Option.some.inj hj.2).symm
def CellsOk (C:List (Addr×Obj)) (cl:List (Str×Addr)) (fr:List Str) (yP:List V):Prop:=∀(i:Nat) x,fr[i]? = some x->∃c o u v,cl.lookup x=some c/\C.lookup c=some o/\o.data=.cell (some u)/\yP[i]? = some v/\RelV v u
theorem Bd {P:Program} {w:World} {K:PySem.W.Frag} {mg:Str->Option Value} {base:Heap} {f:Addr} {qual:Str} {scope:Scope} {cl:List (Str×Addr)} {cd:Value} {ps fr:List Str} {C:List (Addr×Obj)} {yP vs:List V} {us:List Value} {A:Around} {outer:List Env} {s:Shared} {H:Hp} {h₁:Heap} {tk:Tok}
  (kind:scope.kind=.function) (g7:∀x∈scope.names,x.2≠.cell) (nd:(ps++fr).Nodup) (par:∀x∈ps,scope.names.lookup x=some .local) (VR:∀x∈fr,scope.names.lookup x=some .free)
  (has:∀x,scope.names.lookup x=some .free->x∈fr) (nZ:∀x c,cl.lookup x=some c->x∈fr) (inj:∀x y c,cl.lookup x=some c->cl.lookup y=some c->x=y)
  (hd:A.handled=none) (e0:mB P w K mg base A outer s H) (r:Vals vs us) (hl:vs.length=ps.length) (hC:cK C H) (Uw:yP.length=fr.length) (J3:CellsOk C cl fr yP)
  (J2:h₁.Ns s.heap.objs.size (fun x=>(ps.zip us).reverse.lookup x)) (Ou:∀b o,s.heap.get? b=some o->h₁.get? b=some o) :
  Inv (Pb P w K mg base (ps++fr) qual scope f cd cl A outer s (aO C H)) [] ((vs++yP).map some) (aO C H) { s with heap:=h₁,toks:=tk }:=by
 have hk:=e0.bh
 have pins:=hk.pins hC
 have W7:ps.Nodup:=(List.nodup_append.mp nd).1
 have cellAt:∀x c,cl.lookup x=some c->∃o u,C.lookup c=some o/\o.data=.cell (some u)/\s.heap.get? c=some o:=fun x c e=>by
  obtain ⟨i,hi⟩:=List.mem_iff_getElem?.mp (nZ x c e)
  obtain ⟨c2,o,u,v,h1,h2,h3,_⟩:=J3 i x hi
  rw [e] at h1;cases h1
  exact ⟨o,u,h2,h3,pins _ _ h2⟩
 have aAD:fA P w (aO C H) h₁:=(hk.aO hC).kept Ou
 have JX:∀b:Addr,b∉(Pb P w K mg base (ps++fr) qual scope f cd cl A outer s (aO C H)).ex:=fun b z=>absurd (show b∈([]:List Addr) from z) (by simp)
 have Ul:∀b,H b=none->aO C H b=none:=fun b n=>by rw [aN (hC.Cq n)];exact n
 refine ⟨⟨e0.mod,kind,rfl,rfl,Nat.le_refl _,inj,fun y hy=>?_,fun y c z _=>absurd (show false=true from z) (by simp),fun _=>hd,Around.frames_deeper e0.frames,.inr ⟨rfl,rfl⟩,fun b z=>absurd z (JX b),fun b o e=>⟨(e0.bs b o e).1,Ul b (e0.bs b o e).2⟩,e0.DR,fun b _ _=>JX b,fun b z=>absurd z (JX b),e0.kx,fun b hb=>Ul b (e0.En b hb)⟩,
  rfl,e0.bare,Un.kept Ou,⟨_,J2,fun i y v h1 h2 h3=>?_⟩,fun y c h=>?_,?_,fun y c h=>?_,fun p hp=>absurd (show p∈([]:List (Addr×Obj)) from hp) (by simp),aAD,?_⟩
 ·have hy:scope.names.lookup y=some .cell\/scope.names.lookup y=some .free:=hy
  rcases hy with hy | hy
  ·exact absurd rfl (g7 _ (PySem.mem_of_lookup hy))
  ·obtain ⟨i,hi⟩:=List.mem_iff_getElem?.mp (has y hy)
   obtain ⟨c,_,_,_,e,_⟩:=J3 i y hi
   exact ⟨c,e⟩
 ·have h1:(ps++fr)[i]? = some y:=h1
  rw [List.getElem?_map] at h2
  by_cases hi:i < ps.length
  ·rw [List.getElem?_append_left hi] at h1
   rw [List.getElem?_append_left (by omega)] at h2
   have ha:vs[i]? = some v:=by
    cases e:vs[i]? with
    | none=>rw [e] at h2;cases h2
    | some a=>rw [e] at h2;cases h2;rfl
   obtain ⟨u,Mf,rv⟩:=r.get ha
   exact ⟨u,rv,.inl ⟨par y (List.mem_of_getElem? h1),yz W7 h1 Mf⟩⟩
  ·rw [List.getElem?_append_right (by omega)] at h1
   rw [List.getElem?_append_right (by omega),hl] at h2
   obtain ⟨c,o,u,v',e1,e2,e3,e4,e5⟩:=J3 _ y h1
   rw [e4] at h2;cases h2
   exact ⟨u,e5,.inr ⟨.inr (VR y (List.mem_of_getElem? h1)),c,e1,o,Ou _ _ (pins _ _ e2),e3⟩⟩
 ·obtain ⟨o,u,_,e3,e4⟩:=cellAt y c h
  exact ⟨_,o,Ou _ _ e4,e3⟩
 ·exact (hk.aO hC).fresh (Nat.le_refl _)
 ·obtain ⟨o,u,e2,_⟩:=cellAt y c h
  exact iA e2
 ·rw [List.length_map,List.length_append,hl,Uw]
  exact List.length_append.symm
theorem Be {P:Program} {w:World} {K:PySem.W.Frag} {mg:Str->Option Value} {base:Heap} {N:List Str} {f:Addr} {qual:Str} {scope:Scope} {cl:List (Str×Addr)} {cd:Value} {C:List (Addr×Obj)} {A:Around} {outer:List Env} {s s':Shared} {H H':Hp} {σ':St} {Q:VK} {v:V} {u:Value}
  (e0:mB P w K mg base A outer s H) (hC:cK C H) (J:Inv (Pb P w K mg base N qual scope f cd cl A outer s (aO C H)) [] σ' H' s') (rv:RelV v u) (q:Q v (dn C H')):CE outer P w H s Q u s':=by
 have nf:∀b o,C.lookup b=some o->b∉kO outer:=fun b o q z=>by have:=e0.En b z;rw [hC b o q] at this;cases this
 obtain ⟨un,po,at'⟩:=Un.Bj (H:=H) (h:=s.heap) J.base e0.bh hC nf
 exact ⟨v,dn C H',J.os,J.bare,un,J.bh.dn po at',rv,q⟩
theorem R5 {P:Program} {w:World} {K:PySem.W.Frag} {mg:Str->Option Value} {base:Heap} {k:Nat} {f c':Addr} {name qual:Str} {params:Arguments} {body:List Stmt} {scope:Scope} {cl:List (Str×Addr)} {doc pm ctv:Value} {fo oc:Obj} {vE:Array Value} {tq:Tok}
  {ps fr:List Str} {sp:Sp} (Mv:fo.data=.func (fnX name qual params body scope cl .none .none doc pm none (.ref c') ctv)) (nG:oc.data=.fields vE) (hq:vE[1]? = some (.str qual tq))
  (kind:scope.kind=.function) (co:scope.isCoroutine=false) (gen:scope.isGenerator=false) (g7:∀x∈scope.names,x.2≠.cell) (nd:(ps++fr).Nodup) (par:∀x∈ps,scope.names.lookup x=some .local) (VR:∀x∈fr,scope.names.lookup x=some .free)
  (has:∀x,scope.names.lookup x=some .free->x∈fr)
  (nZ:∀x c,cl.lookup x=some c->x∈fr) (inj:∀x y c,cl.lookup x=some c->cl.lookup y=some c->x=y)
  (wY:∀us:List Value,us.length=ps.length->bindArgs (fnX name qual params body scope cl .none .none doc pm none (.ref c') ctv) ⟨us,[]⟩=pure (ps.zip us))
  (dN:∀vs H Q E,sp vs H Q E->∃C yP,vs.length=ps.length/\H f=some (cS fo)/\H c'=some (cS oc)/\cK C H/\yP.length=fr.length/\CellsOk C cl fr yP/\
   ∀(A:Around) (outer:List Env) (s:Shared),bW k (A.deeper (envX qual scope s.heap.objs.size f (.ref c') cl))->
   HC (Pb P w K mg base (ps++fr) qual scope f (.ref c') cl A outer s (aO C H)) (ps++fr) scope->
   ∃t,Bk (Pb P w K mg base (ps++fr) qual scope f (.ref c') cl A outer s (aO C H)) body t/\t { nx:=fun _ H'=>Q .non (dn C H'),rt:=fun v H'=>Q v (dn C H') } ((vs++yP).map some) (aO C H)) :
  kX P w K mg base (k+1) f sp:=by
 intro A outer s H us vs Q E hr e0 r xF
 obtain ⟨C,yP,hl,hf,hc,hC,Uw,J3,dN⟩:=dN _ _ _ _ xF
 have lim:s.heap.NoLimit:=e0.mod.nolimit.keeps fun b o e=>(e0.bs b o e).1
 have hk:=e0.bh
 have hu:us.length=ps.length:=by rw [<-r.length];exact hl
 refine codeAny_call_def (body:=body) (binds:=ps.zip us) hr.depth (hk _ _ hf).1 Mv lim ⟨c',oc,vE,tq,rfl,(hk _ _ hc).1,nG,hq⟩ rfl (.of_eq (wY us hu)) g7 (fun y hy=>par y.1 (List.of_mem_zip (a:=y.1) (b:=y.2) hy).1) (fun h₁ J2 Ou=>?_) co gen kind
 obtain ⟨t,ht,Dj⟩:=dN A outer s (hr.deeper _) ⟨rfl,rfl⟩
 refine wpAny_mono (ht.to [] _ _ _ _ (Bd kind g7 nd par VR has nZ inj hr.hd e0 r hl hC Uw J3 J2 Ou) Dj) (fun fl s' hs=>?_) fun e s' hs=>False.elim hs
 cases fl with
 | ret u=>
  obtain ⟨v,σ',H',J,rv,q⟩:=hs
  exact Be e0 hC J rv q
 | next=>
  obtain ⟨σ',H',J,q⟩:=hs
  exact Be (v:=V.non) (u:=Value.none) e0 hC J rfl q
 | brk=>
  obtain ⟨_,_,_,q⟩:=hs
  exact False.elim q
 | cont=>
  obtain ⟨_,_,_,q⟩:=hs
  exact False.elim q
end L2
end
section
namespace L2
open PySem PySem.Spec PySem.W PyProof.Rows
def Sh (H:Hp) (f:Addr):Prop:=∃fo fd,H f=some (cS fo)/\fo.data=.func fd
theorem Sh.at {P:Program} {w:World} {H:Hp} {h:Heap} {f:Addr} (x:Sh H f) (ok:fA P w H h):FnAt f h:=by
 obtain ⟨fo,fd,e,d⟩:=x
 obtain ⟨oc,od,dt,sl⟩:=fo
 have d':dt=.func fd:=d
 subst d'
 exact ⟨oc,od,fd,sl,(ok f _ e).1⟩
section
variable {X:Cx} {k:Nat} {f C:Addr} {sp:Sp} {E:XK} {x m:Str} {p pos apos:Pos} {e o:Expr} {es:List Expr} {ta:TE} {t:TA}
theorem zM {pins:List (Addr×Obj)} {σ:St} {H:Hp} {s:Shared} {Q:VK} {us:List Value} {vs:List V} (F:kX X.prog X.w X.K X.mg X.base k f sp) (hr:bW k X.A) (I:Inv X pins σ H s) (r:Vals vs us) (h:sp vs H Q E) :
  wpAny (model X.prog X.w) X.A (call (.ref f) us) (EP X pins σ Q) X.xe s:=by
 refine wpAny_call (codeAny_mono (F X.A X.stack s H us vs Q E hr I.Dv r h) fun r s' hq=>?_)
 cases r with
 | error e=>exact False.elim hq
 | ok fl=>
  cases fl with
  | ret u=>exact I.after hq
  | next=>exact False.elim hq
  | brk=>exact False.elim hq
  | cont=>exact False.elim hq
def uc (P:Program) (w:World) (K:PySem.W.Frag) (mg:Str->Option Value) (base:Heap) (k:Nat) (tv:TE) (t:TA):TE:=fun σ H Q=>tv σ H fun x H1=>∃f,x=.ref f/\Sh H1 f/\t σ H1 fun vs H2=>Sh H2 f/\∃sp,kX P w K mg base k f sp/\sp vs H2 Q E0
theorem Hc {tv:TE} (hr:bW k X.A) (hv:PE X (.Name x p) tv) (ha:PA X (e::es) t) (he:starEach (e::es) X.env=(false,eval e X.env)::starEach es X.env:=by rfl) (iw:(backTo pos (starEach es X.env)).any (·.1)=false:=by rfl) :
  PE X (.Call (.Name x p) (e::es) [] pos) (uc X.prog X.w X.K X.mg X.base k tv t):=by
 intro pins s σ H Q I h
 refine wpAny_Call_Name_kw (cy (hv pins s σ H _ I h) fun u s1 ⟨v,H1,I1,r1,f,ev,hf,h1⟩=>?_)
 subst ev
 cases r1
 refine callWith_F (hf.at I1.bh) (cy (ha pos pins s1 σ H1 _ I1 h1) fun us s2 ⟨vs,H2,I2,r2,hf2,sp,F,q⟩=>⟨hf2.at I2.bh,?_⟩) he iw
 exact zM F hr I2 r2 q
theorem rK {tv:TE} (hr:bW k X.A) (hv:ZE X (.Name x p) tv) (ha:ZA X (e::es) t) (he:starEach (e::es) X.env=(false,eval e X.env)::starEach es X.env:=by rfl) (iw:(backTo pos (starEach es X.env)).any (·.1)=false:=by rfl) :
  ZE X (.Call (.Name x p) (e::es) [] pos) (uc X.prog X.w X.K X.mg X.base k tv t):=⟨Hc hr hv.to ha.to he iw⟩
end
def BMain (mg:Str->Option Value) (base:Heap):Prop:=∃bm o,mg "__builtins__" = some (.ref bm)/\bm≠builtinsNs/\bm≠mainGlobals/\base.get? bm=some o/\o.cls=.type "module"/\o.dict=some builtinsNs/\o.data=.plain
section
variable {X:Cx} {pins:List (Addr×Obj)} {σ:St} {H:Hp} {s:Shared} {h':Heap} {P c':Addr} {ps more:Array Value} {fo oc:Obj}
def made (H:Hp) (P:Addr) (ps:Array Value) (c':Addr) (oc:Obj) (f:Addr) (fo:Obj):Hp:=upd (upd (upd H P (.mD ps)) c' (cS oc)) f (cS fo)
theorem Inv.Oa {t':Nat} (I:Inv X pins σ H s) (hP:H P=some (.mD ps)) (hx:Heap.ExtBut P s.heap h') (oN:s.heap.objs.size<=c') (gi:c' < h'.objs.size) (nG:h'.get? c'=some oc) (ht:h'.get? P=some (tabObj (ps++more))) (u0:fo.isFreed=false) :
  Inv X pins σ (L2.made H P (ps++more) c' oc h'.objs.size fo) { s with heap:=h'.push fo,toks:=t' }:=by
 have VD:=I.bh.lt hP
 have ncP:c'≠P:=Nat.ne_of_gt (Nat.lt_of_lt_of_le VD oN)
 have nfP:h'.objs.size≠P:=Nat.ne_of_gt (Nat.lt_trans (Nat.lt_of_lt_of_le VD oN) gi)
 have ncf:c'≠h'.objs.size:=Nat.ne_of_lt gi
 have at_:∀{b:Addr},b < s.heap.objs.size->b≠P->L2.made H P (ps++more) c' oc h'.objs.size fo b=H b:=fun {b} hb nb=>by
  unfold L2.made
  rw [aq (Nat.ne_of_lt (Nat.lt_trans (Nat.lt_of_lt_of_le hb oN) gi)),aq (Nat.ne_of_lt (Nat.lt_of_lt_of_le hb oN)),aq nb]
 have keep:∀b o,b≠P->s.heap.get? b=some o->(h'.push fo).get? b=some o:=fun b o nb e=>Heap.get?_push_of_some _ (hx b o nb e)
 have Tg:(h'.push fo).get? P=some (tabObj (ps++more)):=Heap.get?_push_of_some _ ht
 have atP:L2.made H P (ps++more) c' oc h'.objs.size fo P=some (.mD (ps++more)):=by
  unfold L2.made
  rw [aq nfP.symm,aq ncP.symm,ah]
 refine I.un ⟨fun b o e n _ _=>keep b o (fun z=>by rw [z,hP] at n;cases n) e,fun b o e n _ _=>⟨o.slots,keep b o (fun z=>by rw [z,hP] at n;cases n) e⟩,fun b o e n _=>?_,fun b o e _=>?_,fun b xs e=>?_,fun b o v e=>?_,fun b qs e=>?_⟩ fun b u e=>?_
 ·rw [at_ (Heap.lt_size e) (fun z=>by rw [z,hP] at n;cases n)];exact n
 ·by_cases nb:b=P
  ·exact ⟨_,by rw [nb];exact Tg⟩
  ·exact ⟨o,keep b o nb e⟩
 ·rw [at_ (I.bh.lt e) (fun z=>by rw [z,hP] at e;cases e)];exact e
 ·rw [at_ (I.bh.lt e) (fun z=>by rw [z,hP] at e;cases e)];exact e
 ·by_cases nb:b=P
  ·subst nb
   rw [hP] at e;cases e
   exact ⟨more,atP⟩
  ·exact ⟨#[],by rw [at_ (I.bh.lt e) nb,e];simp⟩
 ·by_cases h1:b=h'.objs.size
  ·subst h1
   have e':some (cS fo)=some u:=by rw [<-e];unfold L2.made;exact ah.symm
   cases e'
   exact ⟨Heap.get?_push_size _ u0,fo,Heap.get?_push_size _ u0⟩
  ·by_cases h2:b=c'
   ·subst h2
    have e':some (cS oc)=some u:=by rw [<-e];unfold L2.made;rw [aq ncf];exact ah.symm
    cases e'
    have:(h'.push fo).get? b=some oc:=Heap.get?_push_of_some _ nG
    exact ⟨this,oc,this⟩
   ·by_cases h3:b=P
    ·subst h3
     rw [atP] at e;cases e
     exact Tg
    ·have e0:H b=some u:=by rw [<-e];unfold L2.made;rw [aq h1,aq h2,aq h3]
     have np:∀c,(c=b\/H c=some (.own b))->c≠P:=fun c hc z=>by
      rcases hc with hc | hc
      ·exact h3 (hc ▸ z)
      ·rw [z,hP] at hc;cases hc
     refine (I.bh b u e0).stay (fun c v hc q=>keep c v (np c hc) q) (fun c q=>?_) fun c xs q=>?_
     ·rw [at_ (I.bh.lt q) (fun z=>by rw [z,hP] at q;cases q)];exact q
     ·rw [at_ (I.bh.lt q) (fun z=>by rw [z,hP] at q;cases q)];exact q
end
section
variable {X:Cx} {c P:Addr} {name qual:Str} {params:Arguments} {body:List Stmt} {scope:Scope} {cl:List (Str×Addr)} {pos:Pos} {i:Nat}
def X6 (P:Addr) (mg:Str->Option Value) (name qual:Str) (params:Arguments) (body:List Stmt) (scope:Scope) (cl:List (Str×Addr)) (pos:Pos) (i:Nat):TS:=fun D σ H=>∃ps,H P=some (.mD ps)/\TriplesOk ps.toList/\codeAmong pos ps.toList=none/\
 ∀f c' oc vs t ctv doc,H f=none->H c'=none->f≠c'->oc.data=.fields vs->vs[1]? = some (.str qual t)->
  D.nx (σ.set i (some (.ref f))) (made H P (ps ++ #[rawInt pos.line,rawInt pos.col,.ref c']) c' oc f (fnMade name qual params body scope cl doc ((mg "__name__").getD .none) c' ctv))
theorem Qk (gO:X.env.code=.ref c) (hC:CodeHd X.base c P) (hB:BMain X.mg X.base) (hN:X.N.Nodup) (hi:X.N[i]? = some name) (hx:Loc X.env.scope name) (hq:qualnameIn X.env name name=qual) (tj:closureFor scope X.env=pure cl)
  (Aj:params.defaults=[]) (Vk:params.kw_defaults=[]) (ha:annTrees params none X.env=[]) (hf:X.fn name=true\/X.env.scope.names.lookup name=some .local) :
  PS X (.FunctionDef name params body [] none [] scope none name pos) (X6 P X.mg name qual params body scope cl pos i):=by
 intro pins s σ H D I h
 obtain ⟨ps,hP,ht,Vc,q⟩:=h
 refine nestDef_K Aj Vk ha ?_
 rw [hq]
 have hg:=I.mod.glob.keeps I.bk
 have Xu:s.heap.get? P=some (tabObj ps):=I.bh _ _ hP
 obtain ⟨bm,ob,b1,b2,b3,b4,b5,b6,b7⟩:=hB
 have none_:∀{b:Addr} {o:Obj},X.base.get? b=some o->b≠P:=fun {b o} e z=>by have:=(I.bs _ _ e).2;rw [z,hP] at this;cases this
 have hgP:mainGlobals≠P:=by
  obtain ⟨o,_,_,e,_⟩:=I.mod.glob
  exact none_ e
 refine makeFunction_K (mg:=X.mg) tj I.ok.glob hg gO (hC.keeps I.bk) Xu ht Vc hgP ⟨bm,ob,b1,b2,b3,none_ b4,I.bk _ _ b4,b5,b6,b7⟩ fun c' ctv doc h' tk pE oN gi Ri U3=>?_
 obtain ⟨c2,oc,vs,t,e2,nG,hd,hv⟩:=Ri
 cases e2
 have I2:=I.Oa (fo:=fnMade name qual params body scope cl doc ((X.mg "__name__").getD .none) c' ctv) (t':=tk) hP pE oN gi nG U3 rfl
 have fr1:H h'.objs.size=none:=I.bh.fresh (Nat.le_of_lt (Nat.lt_of_le_of_lt oN gi))
 have fr2:H c'=none:=I.bh.fresh oN
 exact mS (v:=.ref h'.objs.size) I2 hN hi hx rfl (fun s' I3=>⟨_,_,I3,q h'.objs.size c' oc vs t ctv doc fr1 fr2 (Nat.ne_of_gt gi) hd hv⟩) hf
end
end L2
end
section
namespace L2
open PySem PySem.Spec PySem.W PyProof.Rows
def CellsAre (cells:List (Str×Addr)) (σ:St) (xs:List (Nat×Str)) (C:List (Addr×Obj)):Prop:=∀q∈xs,∃c o u v,cells.lookup q.2=some c/\C.lookup c=some o/\o.data=.cell (some u)/\σ[q.1]? = some (some v)/\RelV v u
section
variable {X:Cx} {pins:List (Addr×Obj)} {σ:St} {H:Hp} {s:Shared}
theorem tN (I:Inv X pins σ H s):∀xs:List (Nat×Str),(∀q∈xs,X.N[q.1]? = some q.2/\X.env.scope.names.lookup q.2=some .cell/\∃v,σ[q.1]? = some (some v))->
  ∃C,(∀b o,C.lookup b=some o->s.heap.get? b=some o/\∃x,X.env.cells.lookup x=some b)/\CellsAre X.env.cells σ xs C
 | [],_=>⟨[],fun _ _ h=>(by cases h),fun _ h=>(nomatch h)⟩
 | q::xs,h=>by
  obtain ⟨C,h1,h2⟩:=tN I xs fun r hr=>h r (List.mem_cons_of_mem _ hr)
  obtain ⟨hN,hk,v,hv⟩:=h q List.mem_cons_self
  obtain ⟨m,hn,hl⟩:=I.loc
  obtain ⟨u,rv,l⟩:=hl q.1 q.2 v hN hv (.inr (.inl hk))
  have Rw:X.env.kindOf q.2=some .cell:=hk
  obtain ⟨c,hc,o,ho,hd⟩:∃c,X.env.cells.lookup q.2=some c/\∃o,s.heap.get? c=some o/\o.data=.cell (some u):=by
   rcases l with ⟨z,_⟩ | ⟨_,c,hc,o,ho,hd⟩
   ·rw [Rw] at z;cases z
   ·exact ⟨c,hc,o,ho,hd⟩
  refine ⟨(c,o)::C,fun b o' e=>?_,fun r hr=>?_⟩
  ·rw [List.lookup_cons] at e
   by_cases hb:b=c
   ·subst hb
    rw [beq_self_eq_true] at e
    cases e
    exact ⟨ho,q.2,hc⟩
   ·rw [beq_false_of_ne hb] at e
    exact h1 b o' e
  ·rcases List.mem_cons.mp hr with rfl | hr
   ·exact ⟨c,o,u,v,hc,by rw [List.lookup_cons,beq_self_eq_true],hd,hv,rv⟩
   ·obtain ⟨c2,o2,u2,v2,e1,e2,e3,e4,e5⟩:=h2 r hr
    by_cases hb:c2=c
    ·subst hb
     have:=(h1 c2 o2 e2).1
     rw [ho] at this
     cases this
     exact ⟨c2,o,u2,v2,e1,by rw [List.lookup_cons,beq_self_eq_true],e3,e4,e5⟩
    ·exact ⟨c2,o2,u2,v2,e1,by rw [List.lookup_cons,beq_false_of_ne hb];exact e2,e3,e4,e5⟩
variable {C:List (Addr×Obj)}
theorem Inv.zX (I:Inv X pins σ H s) (h:∀b o,C.lookup b=some o->s.heap.get? b=some o/\∃x,X.env.cells.lookup x=some b):cB C H:=fun b o e=>let ⟨x,hx⟩:=(h b o e).2;I.iz x b hx
theorem Inv.V2 (I:Inv X pins σ H s) (Ir:∀x,X.fn x=true) (h:∀b o,C.lookup b=some o->s.heap.get? b=some o/\∃x,X.env.cells.lookup x=some b):mB X.prog X.w X.K X.mg X.base X.A X.stack s (dn C H):=by
 have e:=I.Dv
 have big:∀b o,C.lookup b=some o->X.s₀.heap.objs.size<=b:=fun b o q=>let ⟨x,hx⟩:=(h b o q).2;I.ok.S8 x b (Ir x) hx
 refine ⟨e.frames,e.mod,fun b o q=>⟨(e.bs b o q).1,?_⟩,e.DR,e.kx,fun b hb=>?_,I.bh.dn (I.zX h) fun b o q=>(h b o q).1,e.bare⟩
 ·cases z:C.lookup b with
  | none=>rw [bB z];exact (e.bs b o q).2
  | some o'=>exact absurd (Nat.lt_of_lt_of_le (Heap.lt_size q) (Nat.le_trans I.ok.DR (big b o' z))) (Nat.lt_irrefl _)
 ·cases z:C.lookup b with
  | none=>rw [bB z];exact e.En b hb
  | some o'=>
   obtain ⟨x,hx⟩:=(h b o' z).2
   rcases List.mem_cons.mp (I.nR b hb) with y | y
   ·exact absurd y (I.Pg x b hx)
   ·obtain ⟨_,ob,ho,_⟩:=I.ok.kx.mem y
    exact absurd (Nat.lt_of_lt_of_le (Heap.lt_size ho) (big b o' z)) (Nat.lt_irrefl _)
end
section
variable {X:Cx} {k:Nat} {f:Addr} {fd:FuncData} {ps:List Str} {sp:Sp} {EH:St->XK} {x:Str} {p pos:Pos} {e:Expr} {es:List Expr} {t:TA}
def ud (cells:List (Str×Addr)) (xs:List (Nat×Str)) (sp:Sp) (EH:St->XK) (t:TA):TE:=fun σ H Q=>t σ H fun vs H1=>(∀q∈xs,∃v,σ[q.1]? = some (some v))/\
 ∀C,CellsAre cells σ xs C->cB C H1->sp vs (dn C H1) (fun v H'=>Q v (aO C H')) (fun c dx H'=>EH σ c dx (aO C H'))
theorem Kv {xs:List (Nat×Str)} {pins:List (Addr×Obj)} {σ:St} {H:Hp} {s:Shared} {Q:VK} {us:List Value} {vs:List V} (F:bO X.prog X.w X.K X.mg X.base (zr X.prog X.w) k f fd ps sp) (hr:bW k X.A) (hb:Binds X.K fd ps []) (hx:kS X EH) (Ir:∀x,X.fn x=true)
  (Sq:∀q∈xs,X.N[q.1]? = some q.2/\X.env.scope.names.lookup q.2=some .cell)
  (I:Inv X pins σ H s) (r:Vals vs us) (hv:∀q∈xs,∃v,σ[q.1]? = some (some v)) (h:∀C,CellsAre X.env.cells σ xs C->cB C H->sp vs (dn C H) (fun v H'=>Q v (aO C H')) (fun c dx H'=>EH σ c dx (aO C H'))) :
  wpAny (model X.prog X.w) X.A (call (.ref f) us) (EP X pins σ Q) X.xe s:=by
 obtain ⟨C,h1,h2⟩:=tN I xs fun q hq=>⟨(Sq q hq).1,(Sq q hq).2,hv q hq⟩
 have po:=I.zX h1
 have at_:∀b o,C.lookup b=some o->s.heap.get? b=some o:=fun b o q=>(h1 b o q).1
 have h:=h C h2 po
 have hl:us.length=ps.length:=by rw [<-r.length];exact F.len _ _ _ _ h
 have b:=hb s us I.jr (by rw [List.append_nil];exact hl)
 rw [List.append_nil] at b
 refine wpAny_call (codeAny_mono (F.run X.A X.stack s (dn C H) ⟨us,[]⟩ us vs _ _ hr (I.V2 Ir h1) b r h) fun r s' hq=>?_)
 cases r with
 | error e=>
  obtain ⟨e,c,dx,H',rfl,os,bare,un,bh,xa,q⟩:=hq
  have Cm:cK C H':=fun b o q=>un.frzs b o _ (gS q)
  refine hx.pass I ⟨e,c,dx,aO C H',rfl,os,bare,un.Ar bh po at_,bh.aO Cm,xa.mono fun b hb=>⟨hb.1,?_⟩,q⟩
  rw [aN (Cm.Cq hb.2)];exact hb.2
 | ok fl=>
  cases fl with
  | ret u=>
   obtain ⟨v,H',os,bare,un,bh,r',q⟩:=hq
   have Cm:cK C H':=fun b o q=>un.frzs b o _ (gS q)
   exact I.after ⟨v,aO C H',os,bare,un.Ar bh po at_,bh.aO Cm,r',q⟩
  | _=>exact False.elim hq
theorem He {xs:List (Nat×Str)} {cells:List (Str×Addr)} (tj:X.env.cells=cells) (F:bO X.prog X.w X.K X.mg X.base (zr X.prog X.w) k f fd ps sp) (hr:bW k X.A) (hg:Gl X x) (hm:X.mg x=some (.ref f)) (hk:PySem.W.keepIn X.K (.ref f)=true) (hb:Binds X.K fd ps []) (hx:kS X EH) (Ir:∀x,X.fn x=true)
  (Sq:∀q∈xs,X.N[q.1]? = some q.2/\X.env.scope.names.lookup q.2=some .cell)
  (ha:PA X (e::es) t) (n5:(x == ("__debug__" : Str))=false:=by decide) (he:starEach (e::es) X.env=(false,eval e X.env)::starEach es X.env:=by rfl) (iw:(backTo pos (starEach es X.env)).any (·.1)=false:=by rfl) :
  PE X (.Call (.Name x p) (e::es) [] pos) (ud cells xs sp EH t):=by
 subst tj
 intro pins s σ H Q I h
 refine wpAny_Call_Name_kw (kg I hg hm ?_ n5)
 exact PySem.W.callWith_K (h₀:=X.base) I.ok.mod.QX hk (cy (ha pos pins s σ H _ I h) fun us s1 ⟨vs,H1,I1,r,hv,q⟩=>⟨I1.jr,Kv F hr hb hx Ir Sq I1 r hv q⟩) he iw
theorem rL {xs:List (Nat×Str)} {cells:List (Str×Addr)} (tj:X.env.cells=cells) (F:bO X.prog X.w X.K X.mg X.base (zr X.prog X.w) k f fd ps sp) (hr:bW k X.A) (hg:Gl X x) (hm:X.mg x=some (.ref f)) (hk:PySem.W.keepIn X.K (.ref f)=true) (hb:Binds X.K fd ps []) (hx:kS X EH) (Ir:∀x,X.fn x=true)
  (Sq:∀q∈xs,X.N[q.1]? = some q.2/\X.env.scope.names.lookup q.2=some .cell)
  (ha:ZA X (e::es) t) (n5:(x == ("__debug__" : Str))=false:=by decide) (he:starEach (e::es) X.env=(false,eval e X.env)::starEach es X.env:=by rfl) (iw:(backTo pos (starEach es X.env)).any (·.1)=false:=by rfl) :
  ZE X (.Call (.Name x p) (e::es) [] pos) (ud cells xs sp EH t):=⟨He tj F hr hg hm hk hb hx Ir Sq ha.to n5 he iw⟩
end
theorem tX {C:List (Addr×Obj)} {H:Hp} (p:cB C H):bU H (dn C H):=fun b o e=>by rw [bB (p.out e)];exact e
end L2
end
section
namespace L2
open PySem PySem.Spec PySem.W PyProof.Rows
def Bm (ts:List (Addr×Addr)) (H:Hp):Prop:=∀q∈ts,H q.2=some (.mD #[])
theorem CQ {P:Program} {w:World} {K:PySem.W.Frag} {mg mb:Str->Option Value} {CX:Br} {k:Nat} {fa a:Addr} {fd:FuncData} {x:Str} {sp:Sp} {s₁:Shared} {vs:List Value} {ns:List Int} {ts:List (Addr×Addr)}
  (hT:TabsAt ts s₁.heap) (hKt:∀q∈ts,K.lookup q.2=none) (hB:BMain mg s₁.heap)
  (KX:K.In s₁.heap) (J2:s₁.heap.Ns mainGlobals mg) (hb:s₁.heap.Ns builtinsNs mb) (hbb:∀x:Str,x≠"__name__"->mb x=bootBuiltins x) (wW:s₁.heap.NoLimit) (hg:s₁.gens = #[])
  (ha:s₁.heap.get? a=some { cls:=.type "list",data:=.seq vs.toArray }) (hi:IntsAre vs ns) (hl:ns.length<=sizeLine) (hr:bW k callerA)
  (F:∀base:Heap,K.In base->base.Ns mainGlobals mg->BMain mg base->bO P w K mg base CX k fa fd [x] sp) (wY:∀(s:Shared) (u:Value),BindsTo s fd ⟨[u],[]⟩ [(x,u)])
  (xF:∀H:Hp,Bm ts H->mG K H a (ns.map V.int)->sp [.ref a] H (fun v _=>v=.bl true) fun _ _ _=>False)
  (hCX:∀H e s',CX [] H s₁ (fun _ _ _=>False) e s'->False) :
  codeAny (model P w) callerA (.call (.ref fa) ⟨[.ref a],[]⟩) (fun r s'=>r=.ok (.ret (.bool true))/\OldK s₁.heap s'.heap/\s'.os=s₁.os/\AllBare s'.gens) s₁:=by
 have rv:=nP hi
 have aAc:=hi.length
 have core:∀H:Hp,Bm ts H->mG K H a (ns.map V.int)->fA P w H s₁.heap->(∀b,H b≠none->b=a\/b∈ts.map (·.2))->(∀b u,H b=some u->(∃o xs,u=.tI o (.lst xs))\/(b∈ts.map (·.2)/\u=.mD #[]))->(H a≠none->K.lookup a=none)->
   codeAny (model P w) callerA (.call (.ref fa) ⟨[.ref a],[]⟩) (fun r s'=>r=.ok (.ret (.bool true))/\OldK s₁.heap s'.heap/\s'.os=s₁.os/\AllBare s'.gens) s₁:=by
  intro H hO hS bh hA hU hK
  have vk:∀{b:Addr} {o:Obj},s₁.heap.get? b=some o->H b=none->(rz s₁.heap H).get? b=some o:=fun e n=>Ip e n
  have UJ:∀{b:Addr},b∈ts.map (·.2)->s₁.heap.get? b=some (tabObj #[]):=fun {b} h=>by
   obtain ⟨q,hq,rfl⟩:=List.mem_map.mp h
   exact (hT q hq).2
  have JX:∀{b:Addr} {o:Obj},s₁.heap.get? b=some o->(o.cls≠.none\/∃es ep,o.data=.dict es ep)->b≠a->H b=none:=fun {b o} e d nb=>by
   cases q:H b with
   | none=>rfl
   | some u=>
    rcases hA b (by rw [q];simp) with z | z
    ·exact absurd z nb
    ·rw [UJ z] at e;cases e
     rcases d with d | ⟨es,ep,d⟩
     ·exact absurd rfl d
     ·cases d
  have neA:∀{b:Addr} {o:Obj} {es:Array DictEntry} {ep:Nat},s₁.heap.get? b=some o->o.data=.dict es ep->b≠a:=fun {b o es ep} e d z=>by
   subst z
   rw [ha] at e;cases e
   have d':Data.seq vs.toArray _=Data.dict es ep:=d
   cases d'
  have W4:∀{b:Addr} {m:Str->Option Value},s₁.heap.Ns b m->(rz s₁.heap H).Ns b m:=fun {b m} ⟨o,es,ep,e,d,r⟩=>⟨o,es,ep,vk e (JX e (.inr ⟨es,ep,d⟩) (neA e d)),d,r⟩
  have hKb:K.In (rz s₁.heap H):=fun b o e=>vk (KX b o e) (by
   cases q:H b with
   | none=>rfl
   | some u=>
    rcases hA b (by rw [q];simp) with z | z
    ·subst z
     rw [hK (by rw [q];simp)] at e;cases e
    ·obtain ⟨r,U5,rfl⟩:=List.mem_map.mp z
     rw [hKt r U5] at e;cases e)
  have hM:Mod K mg (rz s₁.heap H):=⟨hKb,W4 J2,⟨mb,W4 hb,hbb⟩,let ⟨mc,h1,h2⟩:=wW;⟨mc,W4 h1,h2⟩⟩
  have hBb:BMain mg (rz s₁.heap H):=by
   obtain ⟨bm,o,b1,b2,b3,b4,b5,b6,b7⟩:=hB
   have nb:bm≠a:=fun z=>by
    rw [z,ha] at b4;cases b4
    have b7':Data.seq vs.toArray _=Data.plain:=b7
    cases b7'
   exact ⟨bm,o,b1,b2,b3,vk b4 (JX b4 (.inl (by rw [b5];intro z;cases z)) nb),b5,b6,b7⟩
  have e0:mB P w K mg (rz s₁.heap H) callerA [] s₁ H:=⟨rfl,hM,fun b o e=>Ly e,Nat.le_of_eq (Dk _ _),trivial,fun b hb=>absurd (show b∈([]:List Addr) from hb) (by simp),bh,.of_eq hg⟩
  refine codeAny_mono ((F _ hKb (W4 J2) hBb).run callerA [] s₁ H ⟨[.ref a],[]⟩ [.ref a] [.ref a] _ _ hr e0 (wY s₁ (.ref a)) (.cons rfl .nil) (xF H hO hS)) fun r s' h=>?_
  cases r with
  | error e=>exact (hCX H e s' h).elim
  | ok fl=>
   cases fl with
   | next=>exact False.elim h
   | brk=>exact False.elim h
   | cont=>exact False.elim h
   | ret u=>
    obtain ⟨v,H',os,bare,un,U9,r',q⟩:=h
    have q':v=.bl true:=q
    subst q'
    obtain rfl:u=Value.bool true:=r'
    have each:∀b o,s₁.heap.get? b=some o->asItWas s₁.heap s'.heap b o/\∃o',s'.heap.get? b=some o':=fun b o e=>by
     cases q:H b with
     | none=>
      have:=un.keep b o e q (by intro z;exact absurd (show b∈([]:List Addr) from z) (by simp)) (by simp)
      exact ⟨.inl this,o,this⟩
     | some u=>
      rcases hU b u q with ⟨ob,xs,rfl⟩ | ⟨hm,rfl⟩
      ·have z2:=un.frzs b ob _ q
       obtain ⟨e1,_⟩:=bh b _ q
       obtain ⟨e2,_⟩:=U9 b _ z2
       rw [e] at e1;cases e1
       exact ⟨.inl e2,_,e2⟩
      ·obtain ⟨r,U5,rfl⟩:=List.mem_map.mp hm
       obtain ⟨more,z2⟩:=un.tbls _ _ q
       have e2:s'.heap.get? r.2=some (tabObj (#[]++more)):=U9 _ _ z2
       have e3:=(hT r U5).2
       rw [e] at e3;cases e3
       exact ⟨.inr (.inl ⟨((hT r U5).1.tab (hT r U5).2).isCodeTable,rfl,#[],more,rfl,e2⟩),_,e2⟩
    exact ⟨rfl,⟨fun b o e=>(each b o e).1,fun b o e=>(each b o e).2⟩,os,bare⟩
 have naT:a∉ts.map (·.2):=fun z=>by
  obtain ⟨q,hq,e⟩:=List.mem_map.mp z
  have:=(hT q hq).2
  rw [e,ha] at this;cases this
 have Ti:∀(H1:Hp),(∀b,b∈ts.map (·.2)->H1 b=some (.mD #[]))->Bm ts H1:=fun H1 h q hq=>h _ (List.mem_map_of_mem hq)
 have NQ:∀b,b∈ts.map (·.2)->s₁.heap.get? b=some (tabObj #[]):=fun b h=>by
  obtain ⟨q,hq,rfl⟩:=List.mem_map.mp h
  exact (hT q hq).2
 cases hk:K.lookup a with
 | some o=>
  have e:=KX a o hk
  rw [ha] at e
  cases e
  refine core (fun b=>if b∈ts.map (·.2) then some (.mD #[]) else none) (Ti _ fun b hb=>if_pos hb) (.inr ⟨_,vs.toArray,_,hk,rfl,rfl,rfl,by rw [List.size_toArray,aAc];exact hl,by simpa using rv⟩) (fun b u z=>?_) (fun b z=>?_) (fun b u z=>?_) fun z=>absurd (if_neg naT) z
  ·by_cases hb:b∈ts.map (·.2)
   ·have z':=(if_pos hb).symm.trans z
    cases z';exact NQ b hb
   ·have z':=(if_neg hb).symm.trans z
    cases z'
  ·by_cases hb:b∈ts.map (·.2)
   ·exact .inr hb
   ·exact absurd (if_neg hb) z
  ·by_cases hb:b∈ts.map (·.2)
   ·have z':=(if_pos hb).symm.trans z
    cases z';exact .inr ⟨hb,rfl⟩
   ·have z':=(if_neg hb).symm.trans z
    cases z'
 | none=>
  let H0:Hp:=fun b=>if b=a then some (.tI { cls:=.type "list",data:=.seq vs.toArray } (.lst (ns.map V.int))) else if b∈ts.map (·.2) then some (.mD #[]) else none
  have tW:H0 a=some (.tI { cls:=.type "list",data:=.seq vs.toArray } (.lst (ns.map V.int))):=if_pos rfl
  have atT:∀b,b∈ts.map (·.2)->H0 b=some (.mD #[]):=fun b hb=>(if_neg (fun z:b=a=>naT (by rw [<-z];exact hb))).trans (if_pos hb)
  have atN:∀b,b≠a->b∉ts.map (·.2)->H0 b=none:=fun b h1 h2=>(if_neg h1).trans (if_neg h2)
  refine core H0 (Ti _ atT) (.inl (.inr ⟨{ cls:=.type "list",data:=.seq vs.toArray },tW⟩)) (fun b u z=>?_) (fun b z=>?_) (fun b u z=>?_) fun _=>hk
  ·by_cases hb:b=a
   ·subst hb
    rw [tW] at z;cases z
    exact ⟨ha,by rw [List.length_map];exact hl,vs,_,rv,ha⟩
   ·by_cases hm:b∈ts.map (·.2)
    ·rw [atT b hm] at z;cases z;exact NQ b hm
    ·rw [atN b hb hm] at z;cases z
  ·by_cases hb:b=a
   ·exact .inl hb
   ·by_cases hm:b∈ts.map (·.2)
    ·exact .inr hm
    ·exact absurd (atN b hb hm) z
  ·by_cases hb:b=a
   ·subst hb
    rw [tW] at z;cases z
    exact .inl ⟨_,_,rfl⟩
   ·by_cases hm:b∈ts.map (·.2)
    ·rw [atT b hm] at z;cases z;exact .inr ⟨hm,rfl⟩
    ·rw [atN b hb hm] at z;cases z
theorem Fb {l:PySem.W.OpenLaw} {n k:Nat} {q:Program} {loose:List Str} {XP:(Str->Option Value)->Heap->Prop} {YP:World->Heap->Prop} {d:DefRec} {K:Params->PySem.W.Frag} {CX:World->Br} {sp:World->Sp} {x:Str} {ts:List (Addr×Addr)}
  (hn:l.most=some n) (El:n<=sizeLine) (Vp:d.params.defaults=[]) (hr:bW k callerA)
  (hY:∀(w:World) (h:Heap),YP w h->(K w.params).In h/\∀q∈ts,h.get? q.2=some (tabObj #[]))
  (Xy:∀w:World,∀q∈ts,codeHdIn (K w.params) q.1 q.2=true/\(K w.params).lookup q.2=none)
  (F:∀(w:World) (mg:Str->Option Value) (fa:Addr) (h:Heap),(K w.params).In h->h.Ns mainGlobals mg->mg d.name=some (.ref fa)->
   ∃fd:FuncData,(∀(s:Shared) (u:Value),BindsTo s fd ⟨[u],[]⟩ [(x,u)])/\
    ∀base:Heap,(K w.params).In base->base.Ns mainGlobals mg->BMain mg base->bO l.prog w (K w.params) mg base (CX w) k fa fd [x] (sp w))
  (xF:∀(w:World) (H:Hp) (a:Addr) (ns:List Int),ns.length<=n->Bm ts H->mG (K w.params) H a (ns.map V.int)->sp w [.ref a] H (fun v _=>v=.bl true) fun _ _ _=>False)
  (hCX:∀(w:World) (H:Hp) (s:Shared) (e:Value) (s':Shared),CX w [] H s (fun _ _ _=>False) e s'->False) :
  PySem.W.WalkO q loose XP YP l.row.toRowW d [] (fun f vs=>PySem.call f vs):=by
 refine Att.xA hn Vp fun w s₀ s₁ mg mb fa o pm cd doc a vs ns G Y ho hd rA Vd Rt hints hlen hg=>?_
 obtain ⟨KX,hP⟩:=hY w _ Y
 obtain ⟨fd,hb,hF⟩:=F w mg fa _ KX G.T.g Vd
 have hB:BMain mg s₁.heap:=by
  obtain ⟨bm,ob,b1,b2,b3,b4,b5,b6⟩:=G.T.bmain
  refine ⟨bm,ob,b1,b2,fun z=>?_,b3,b4,b5,b6⟩
  obtain ⟨o,es,ep,e,dd,_⟩:=G.T.g
  rw [z,e] at b3;cases b3
  rw [dd] at b6;cases b6
 exact CQ (fun q hq=>⟨codeHd_of_K KX (Xy w q hq).1,hP q hq⟩) (fun q hq=>(Xy w q hq).2) hB KX G.T.g G.T.b G.T.builtins G.T.nolimit hg Rt hints (Nat.le_trans hlen El) hr hF hb (fun H hO hS=>xF w H a ns hlen hO hS) fun H e s'=>hCX w H s₁ e s'
end L2
end
section
namespace L2
open PySem PySem.Spec PySem.W PyProof.Rows
def Gs:List V->Hp->VK->Prop:=fun vs H Q=>∃a,vs=[.ref a]/\∃ns:List Int,H a=some (.lst (List.map V.int ns))/\Q (.int ns.sum) H
theorem wL:∀{ns:List Int} {its:List Value},Vals (List.map V.int ns) its->IntsAre its ns
 | [],[],_=>.nil
 | n::ns,u::its,.cons r rs=>by
  obtain ⟨t,rfl⟩:=(r:∃t,u=.int n t)
  exact .cons n t (wL rs)
section
variable {X:Cx}
theorem DP (hh:X.A.handled=none):dA X (.builtin "sum") Gs:=by
 intro pins s σ H vs us Q I rv h
 obtain ⟨a,rfl,ns,hq,q⟩:=h
 obtain ⟨u,rfl,ru⟩:=vals1 rv
 cases ru
 obtain ⟨its,r,pl,hz⟩:=I.list (bC hq)
 have hi:=wL r
 obtain ⟨xs,hx⟩:=hi.allInts.items
 have hl':s.heap.IsList a (intItems xs):=hx ▸ pl.isList
 refine sum_intListG hh hl' fun h' tk t' hk=>?_
 have e1:ns=xs.toList.map (·.1):=by
  rw [<-nums_intItems,<-hx]
  exact (show numsOf its.toArray.toList=ns from hi.numsOf).symm
 have e2:preSum (numAt xs) xs.size=ns.sum:=by
  rw [preSum_eq,List.take_of_length_le (by simp),e1]
 rw [e2]
 exact ⟨.int ns.sum,H,I.kept hk,⟨_,rfl⟩,q⟩
end
theorem nk {env:Env} {ad:Str->Addr}:∀(ns:List (Str×NameKind)) (acc:List (Str×Addr)),(∀x,(x,NameKind.free)∈ns->env.cells.lookup x=some (ad x))->
  (forIn ns acc fun q cs=>match q with | (name,kind)=>if (kind == .free)=true then do let c <-cellOf env name;pure PUnit.unit;pure (ForInStep.yield ((name,c)::cs)) else do pure PUnit.unit;pure (ForInStep.yield cs):Sem (List (Str×Addr))) =
   pure (((ns.filter fun q=>q.2 == .free).map fun q=>(q.1,ad q.1)).reverse++acc)
 | [],acc,_=>rfl
 | (x,k)::ns,acc,h=>by
  rw [List.forIn_cons]
  have ih:=nk (env:=env) (ad:=ad) ns
  by_cases e:k=.free
  ·subst e
   have hx:=h x List.mem_cons_self
   have hc:cellOf env x=pure (ad x):=by unfold cellOf;rw [hx]
   simp only [hc,pure_bind,beq_self_eq_true,if_true]
   rw [ih _ fun y hy=>h y (List.mem_cons_of_mem _ hy)]
   simp
  ·have e':(k == NameKind.free)=false:=beq_false_of_ne e
   simp only [e',Bool.false_eq_true,if_false,pure_bind]
   rw [ih _ fun y hy=>h y (List.mem_cons_of_mem _ hy)]
   simp [e]
theorem kP {scope:Scope} {env:Env} {ad:Str->Addr} (h:∀x,(x,NameKind.free)∈scope.names->env.cells.lookup x=some (ad x)):closureFor scope env=pure ((scope.names.filter fun q=>q.2 == .free).map fun q=>(q.1,ad q.1)).reverse:=by
 have:=nk (ad:=ad) scope.names [] h
 rw [List.append_nil] at this
 unfold closureFor
 simp only [bind_pure]
 exact this
theorem lP {ad:Str->Addr} {x:Str}:∀(l:List Str),(l.map fun x=>(x,ad x)).lookup x=if x∈l then some (ad x) else none
 | []=>rfl
 | y::l=>by
  rw [List.map_cons,List.lookup_cons]
  by_cases e:x=y
  ·subst e;rw [beq_self_eq_true,if_pos List.mem_cons_self]
  ·rw [beq_false_of_ne e,lP l]
   by_cases h:x∈l
   ·rw [if_pos h,if_pos (List.mem_cons_of_mem _ h)]
   ·rw [if_neg h,if_neg (fun z=>(List.mem_cons.mp z).elim e h)]
def freeOf (sc:Scope):List Str:=(sc.names.filter fun q=>q.2 == .free).map (·.1)
section
variable {X:Cx} {N:List Str} {sc:Scope} {c P:Addr} {name qual:Str} {params:Arguments} {body:List Stmt} {scope:Scope} {pos:Pos} {fr:List Str}
def zB (P:Addr) (mg:Str->Option Value) (name qual:Str) (params:Arguments) (body:List Stmt) (scope:Scope) (pos:Pos) (i:Nat) (cells:List (Str×Addr)) (fr:List Str):TS:=fun D σ H=>∃ps,H P=some (.mD ps)/\TriplesOk ps.toList/\codeAmong pos ps.toList=none/\
 ∀cl f c' oc vs t ctv doc,(∀x∈fr,∃c,cells.lookup x=some c/\cl.lookup x=some c)->(∀x c,cl.lookup x=some c->x∈fr)->(∀x y c,cl.lookup x=some c->cl.lookup y=some c->x=y)->H f=none->H c'=none->f≠c'->oc.data=.fields vs->vs[1]? = some (.str qual t)->
  D.nx (σ.set i (some (.ref f))) (made H P (ps ++ #[rawInt pos.line,rawInt pos.col,.ref c']) c' oc f (fnMade name qual params body scope cl doc ((mg "__name__").getD .none) c' ctv))
theorem K5 (hc:HC X N sc) (nd:N.Nodup) (hf:∀x,X.fn x=true) (i:Nat) (h:JW N sc i name=true) (gO:X.env.code=.ref c) (hC:CodeHd X.base c P) (hB:BMain X.mg X.base) (hq:qualnameIn X.env name name=qual) (u0:freeOf scope=fr) (Rz:∀x∈fr,sc.names.lookup x=some .cell)
  (Aj:params.defaults=[]) (Vk:params.kw_defaults=[]) (ha:annTrees params none X.env=[]) :
  PS X (.FunctionDef name params body [] none [] scope none name pos) (zB P X.mg name qual params body scope pos i X.env.cells fr):=by
 intro pins s σ H D I hw
 obtain ⟨hN,hx⟩:=iT hc h
 have has:∀x∈fr,∃c,X.env.cells.lookup x=some c:=fun x hx=>I.ok.has x (.inl (show X.env.scope.names.lookup x=some .cell by rw [hc.s];exact Rz x hx))
 have had:∀x∈fr,X.env.cells.lookup x=some ((X.env.cells.lookup x).getD 0):=fun x hx=>by
  obtain ⟨c,e⟩:=has x hx
  rw [e];rfl
 have mem:∀x,(x,NameKind.free)∈scope.names->x∈fr:=fun x hx=>by
  rw [<-u0]
  exact List.mem_map.mpr ⟨(x,.free),List.mem_filter.mpr ⟨hx,rfl⟩,rfl⟩
 have tj:=kP (scope:=scope) (env:=X.env) (ad:=fun x=>(X.env.cells.lookup x).getD 0) fun x hx=>had x (mem x hx)
 have ecl:((scope.names.filter fun q=>q.2 == .free).map fun q=>(q.1,(X.env.cells.lookup q.1).getD 0)).reverse=(freeOf scope).reverse.map fun x=>(x,(X.env.cells.lookup x).getD 0):=by
  unfold freeOf
  rw [<-List.map_reverse,<-List.map_reverse,List.map_map]
  rfl
 rw [ecl,u0] at tj
 have lk:∀x,(fr.reverse.map fun x=>(x,(X.env.cells.lookup x).getD 0)).lookup x=if x∈fr then some ((X.env.cells.lookup x).getD 0) else none:=fun x=>by
  rw [lP];simp
 have UT:∀x c,(fr.reverse.map fun x=>(x,(X.env.cells.lookup x).getD 0)).lookup x=some c->x∈fr:=fun x c e=>by
  rw [lk] at e
  by_cases hx:x∈fr
  ·exact hx
  ·rw [if_neg hx] at e;cases e
 have V1:∀x c,(fr.reverse.map fun x=>(x,(X.env.cells.lookup x).getD 0)).lookup x=some c->X.env.cells.lookup x=some c:=fun x c e=>by
  have hx:=UT x c e
  rw [lk,if_pos hx] at e
  rw [had x hx];exact e
 obtain ⟨ps,hP,ht,Vc,q⟩:=hw
 exact Qk gO hC hB (by rw [hc.n];exact nd) hN hx hq tj Aj Vk ha (.inl (hf name)) pins s σ H D I ⟨ps,hP,ht,Vc,fun f c' oc vs t ctv doc=>q _ f c' oc vs t ctv doc
  (fun x hx=>⟨_,had x hx,by rw [lk,if_pos hx]⟩) UT fun x y c e1 e2=>I.ok.inj x y c (V1 x c e1) (V1 y c e2)⟩
theorem Es (hc:HC X N sc) (nd:N.Nodup) (hf:∀x,X.fn x=true) (i:Nat) (h:JW N sc i name=true) (gO:X.env.code=.ref c) (hC:CodeHd X.base c P) (hB:BMain X.mg X.base) (hq:qualnameIn X.env name name=qual) (u0:freeOf scope=fr) (Rz:∀x∈fr,sc.names.lookup x=some .cell)
  (Aj:params.defaults=[]) (Vk:params.kw_defaults=[]) (ha:annTrees params none X.env=[]) :
  ZS X (.FunctionDef name params body [] none [] scope none name pos) (zB P X.mg name qual params body scope pos i X.env.cells fr):=⟨K5 hc nd hf i h gO hC hB hq u0 Rz Aj Vk ha⟩
end
theorem iK.Ur {P:Program} {w:World} {K:PySem.W.Frag} {mg:Str->Option Value} {base:Heap} {x qual:Str} {st:Stmt} {f:Addr} {fd:FuncData} {N ps:List Str} {k:Nat} {sp:Sp} (F:iK K x qual st f fd) (S:aT N ps (ag st)) (len:∀vs H Q E,sp vs H Q E->vs.length=ps.length)
  (dN:∀(cC:Value) (A:Around) (outer:List Env) (s:Shared) (H:Hp) (vs:List V) (Q:VK) (E:XK),fd.code=cC->bW k (A.deeper (envOfC qual (ag st) s.heap.objs.size f cC))->sp vs H Q E->
   HC (eJ eL P w K mg base N qual (ag st) f cC A outer s H E).qP N (ag st)->(∀x,(eJ eL P w K mg base N qual (ag st) f cC A outer s H E).qP.fn x=true)->
   ∃t,Bk (eJ eL P w K mg base N qual (ag st) f cC A outer s H E).qP (aJ st) t/\t { nx:=fun _ H'=>Q .non H',rt:=Q } (start N vs) H):bO P w K mg base eL (k+1) f fd ps sp:=by
 obtain ⟨oc,od,kV,doc,pm,an,cC,ct,z4,rfl,lk,rA⟩:=F.ex
 refine Jg lk rA S len fun A outer s H vs Q E hr xF=>?_
 obtain ⟨t,h,q⟩:=dN cC A outer s H vs Q E rfl hr xF ⟨rfl,rfl⟩ fun _=>rfl
 exact ⟨t,h.to.qP,q⟩
theorem HN {X:Cx}:kS X fun _=>E0:=fun _ _ _ _ _ _ _ _ _ h=>h.elim
theorem Ig {X:Cx} {N:List Str} {sc:Scope} {xs:List (Nat×Str)} (hc:HC X N sc) (h:(xs.all fun q=>N[q.1]? == some q.2 && sc.names.lookup q.2 == some .cell)=true):∀q∈xs,X.N[q.1]? = some q.2/\X.env.scope.names.lookup q.2=some .cell:=fun q hq=>by
 have:=List.all_eq_true.mp h q hq
 simp only [Bool.and_eq_true,beq_iff_eq] at this
 rw [hc.n,hc.s];exact this
theorem bO.toE {P:Program} {w:World} {K:PySem.W.Frag} {mg:Str->Option Value} {base:Heap} {k:Nat} {f:Addr} {fd:FuncData} {ps:List Str} {sp:Sp} (F:bO P w K mg base eL k f fd ps sp):bO P w K mg base (zr P w) k f fd ps sp:=
 ⟨F.len,fun A outer s H args us vs Q E hr he hb hv hs=>codeAny_mono (F.run A outer s H args us vs Q E hr he hb hv hs) fun r s' h=>by
  cases r with
  | error e=>exact False.elim h
  | ok fl=>cases fl <;> exact h⟩
end L2
end
section
namespace L2
open PySem PySem.Spec PySem.W PyProof.Rows
section
variable {X:Cx} {pins:List (Addr×Obj)} {σ:St} {H:Hp} {s:Shared} {A:Around} {E:Value->Shared->Prop} {a C dx:Addr} {fs:List (Str×V)} {v:V}
theorem Ja {m:Str} {pl:Sem Bool} {Q:Value×List Value->Shared->Prop} (I:Inv X pins σ H s) (e:H a=some (.ins C dx fs)) (c:Cls X.K C) (n:fP X.K C m) (l:fs.lookup m=some v)
  (h:∀u s',Inv X pins σ H s'->RelV v u->Q (u,[]) s'):wpAny (model X.prog X.w) A (getMethod (.ref a) m pl) Q E s:=by
 obtain ⟨mA,O,r,_,_,_⟩:=ni I.bh e
 obtain ⟨od,J,hl⟩:=O.look
 exact method_usual (r:=none) I.jr J (plainGet_of (c.get m)).1 (plainGet_of (c.get m)).2 n rfl (qu I e c n l fun u s' I' ru=>h u s' I' ru)
variable {k:Nat} {m:Str} {p pos apos:Pos} {e o:Expr} {es:List Expr} {ta:TE} {t:TA}
def uf (K':PySem.W.Frag) (P:Program) (w:World) (K:PySem.W.Frag) (mg:Str->Option Value) (base:Heap) (k:Nat) (m:Str) (ta:TE) (t:TA):TE:=fun σ H Q=>ta σ H fun x H1=>∃a C dx fs f,x=.ref a/\H1 a=some (.ins C dx fs)/\Cls K' C/\fP K' C m/\fs.lookup m=some (.ref f)/\Sh H1 f/\
 t σ H1 fun vs H2=>Sh H2 f/\∃sp,kX P w K mg base k f sp/\sp vs H2 Q E0
theorem Hf {pl:Sem Bool} (hr:bW k X.A) (he:PE X o ta) (ha:PA X (e::es) t)
  (Ij:starEach (e::es) X.env=(false,eval e X.env)::starEach es X.env:=by rfl) (iw:(backTo pos (starEach es X.env)).any (·.1)=false:=by rfl)
  (ht:eval (.Call (.Attribute o m apos) (e::es) [] pos) X.env=(do
   let ov <-eval o X.env
   standAt apos.atName
   let (f,first) <-holding [ov] (getMethod ov m pl)
   callWith pos f first (backTo pos (starEach (e::es) X.env)) (backToKw pos (keywordEach [] X.env))):=by rfl) :
  PE X (.Call (.Attribute o m apos) (e::es) [] pos) (uf X.K X.prog X.w X.K X.mg X.base k m ta t):=by
 intro pins s σ H Q I h
 refine PySem.W.methodCall_KW (pl:=pl) (cy (he pins s σ H _ I h) fun u s1 ⟨x,H1,I1,rx,a,C,dx,fs,f,ex,ea,c,n,l,hf,q⟩=>?_) ht
 subst ex
 obtain rfl:u=Value.ref a:=rx
 refine Ja I1 ea c n l fun u s' I' ru=>?_
 obtain rfl:u=Value.ref f:=ru
 refine callWith_F (hf.at I'.bh) (cy (ha pos pins s' σ H1 _ I' q) fun us s2 ⟨vs,H2,I2,r2,hf2,sp,F,q2⟩=>⟨hf2.at I2.bh,?_⟩) Ij iw
 exact zM F hr I2 r2 q2
theorem Bu {pl:Sem Bool} (hr:bW k X.A) (he:ZE X o ta) (ha:ZA X (e::es) t)
  (Ij:starEach (e::es) X.env=(false,eval e X.env)::starEach es X.env:=by rfl) (iw:(backTo pos (starEach es X.env)).any (·.1)=false:=by rfl)
  (ht:eval (.Call (.Attribute o m apos) (e::es) [] pos) X.env=(do
   let ov <-eval o X.env
   standAt apos.atName
   let (f,first) <-holding [ov] (getMethod ov m pl)
   callWith pos f first (backTo pos (starEach (e::es) X.env)) (backToKw pos (keywordEach [] X.env))):=by rfl) :
  ZE X (.Call (.Attribute o m apos) (e::es) [] pos) (uf X.K X.prog X.w X.K X.mg X.base k m ta t):=⟨Hf hr he.to ha.to Ij iw ht⟩
end
section
variable {X:Cx} {N:List Str} {sc:Scope} {c P:Addr} {qual:Str} {params:Arguments} {body:Expr} {scope:Scope} {pos:Pos} {fr:List Str}
def Bp (cells cl:List (Str×Addr)) (fr:List Str):Prop:=(∀x∈fr,∃c,cells.lookup x=some c/\cl.lookup x=some c)/\(∀x c,cl.lookup x=some c->x∈fr)/\∀x y c,cl.lookup x=some c->cl.lookup y=some c->x=y
def Kc (P:Addr) (mg:Str->Option Value) (qual:Str) (params:Arguments) (body:Expr) (scope:Scope) (pos:Pos) (cells:List (Str×Addr)) (fr:List Str):TE:=fun _ H Q=>∃ps,H P=some (.mD ps)/\TriplesOk ps.toList/\
 ((codeAmong pos ps.toList=none/\∀cl f c' oc vs t ctv,Bp cells cl fr->H f=none->H c'=none->f≠c'->oc.data=.fields vs->vs[1]? = some (.str qual t)->
  Q (.ref f) (made H P (ps ++ #[rawInt pos.line,rawInt pos.col,.ref c']) c' oc f (kla_obj "<lambda>" qual params body scope cl ((mg "__name__").getD .none) c' ctv)))\/
 ∃c',codeAmong pos ps.toList=some (.ref c')/\∀cl f ctv,Bp cells cl fr->H f=none->Q (.ref f) (upd H f (cS (kla_obj "<lambda>" qual params body scope cl ((mg "__name__").getD .none) c' ctv))))
theorem Lf (hc:HC X N sc) (gO:X.env.code=.ref c) (hC:CodeHd X.base c P) (hB:BMain X.mg X.base) (hq:X.env.qual ++ "<lambda>" = qual) (u0:freeOf scope=fr) (Rz:∀x∈fr,sc.names.lookup x=some .cell) (Aj:defaultsOf params X.env=([],[])) :
  PE X (.Lambda params body scope pos) (Kc P X.mg qual params body scope pos X.env.cells fr):=by
 intro pins s σ H Q I hw
 have has:∀x∈fr,∃c,X.env.cells.lookup x=some c:=fun x hx=>I.ok.has x (.inl (show X.env.scope.names.lookup x=some .cell by rw [hc.s];exact Rz x hx))
 have had:∀x∈fr,X.env.cells.lookup x=some ((X.env.cells.lookup x).getD 0):=fun x hx=>by
  obtain ⟨c,e⟩:=has x hx
  rw [e];rfl
 have mem:∀x,(x,NameKind.free)∈scope.names->x∈fr:=fun x hx=>by
  rw [<-u0]
  exact List.mem_map.mpr ⟨(x,.free),List.mem_filter.mpr ⟨hx,rfl⟩,rfl⟩
 have tj:=kP (scope:=scope) (env:=X.env) (ad:=fun x=>(X.env.cells.lookup x).getD 0) fun x hx=>had x (mem x hx)
 have ecl:((scope.names.filter fun q=>q.2 == .free).map fun q=>(q.1,(X.env.cells.lookup q.1).getD 0)).reverse=(freeOf scope).reverse.map fun x=>(x,(X.env.cells.lookup x).getD 0):=by
  unfold freeOf
  rw [<-List.map_reverse,<-List.map_reverse,List.map_map]
  rfl
 rw [ecl,u0] at tj
 have lk:∀x,(fr.reverse.map fun x=>(x,(X.env.cells.lookup x).getD 0)).lookup x=if x∈fr then some ((X.env.cells.lookup x).getD 0) else none:=fun x=>by
  rw [lP];simp
 have UT:∀x c,(fr.reverse.map fun x=>(x,(X.env.cells.lookup x).getD 0)).lookup x=some c->x∈fr:=fun x c e=>by
  rw [lk] at e
  by_cases hx:x∈fr
  ·exact hx
  ·rw [if_neg hx] at e;cases e
 have V1:∀x c,(fr.reverse.map fun x=>(x,(X.env.cells.lookup x).getD 0)).lookup x=some c->X.env.cells.lookup x=some c:=fun x c e=>by
  have hx:=UT x c e
  rw [lk,if_pos hx] at e
  rw [had x hx];exact e
 have la:Bp X.env.cells (fr.reverse.map fun x=>(x,(X.env.cells.lookup x).getD 0)) fr:=⟨fun x hx=>⟨_,had x hx,by rw [lk,if_pos hx]⟩,UT,fun x y c e1 e2=>I.ok.inj x y c (V1 x c e1) (V1 y c e2)⟩
 obtain ⟨ps,hP,ht,h⟩:=hw
 refine kla_eval Aj ?_
 rw [hq]
 have hg:=I.mod.glob.keeps I.bk
 have Xu:s.heap.get? P=some (tabObj ps):=I.bh _ _ hP
 obtain ⟨bm,ob,b1,b2,b3,b4,b5,b6,b7⟩:=hB
 have none_:∀{b:Addr} {o:Obj},X.base.get? b=some o->b≠P:=fun {b o} e z=>by have:=(I.bs _ _ e).2;rw [z,hP] at this;cases this
 have hgP:mainGlobals≠P:=by
  obtain ⟨o,_,_,e,_⟩:=I.mod.glob
  exact none_ e
 rcases h with ⟨Vc,q⟩ | ⟨c',hf,q⟩
 ·refine kla_makeFunction (mg:=X.mg) tj I.ok.glob hg gO (hC.keeps I.bk) Xu ht Vc hgP ⟨bm,ob,b1,b2,b3,none_ b4,I.bk _ _ b4,b5,b6,b7⟩ fun c' ctv h' tk pE oN gi Ri U3=>?_
  obtain ⟨c2,oc,vs,t,e2,nG,hd,hv⟩:=Ri
  cases e2
  have I2:=I.Oa (fo:=kla_obj "<lambda>" qual params body scope (fr.reverse.map fun x=>(x,(X.env.cells.lookup x).getD 0)) ((X.mg "__name__").getD .none) c' ctv) (t':=tk) hP pE oN gi nG U3 rfl
  exact ⟨.ref h'.objs.size,_,I2,rfl,q _ h'.objs.size c' oc vs t ctv la (I.bh.fresh (Nat.le_of_lt (Nat.lt_of_le_of_lt oN gi))) (I.bh.fresh oN) (Nat.ne_of_gt gi) hd hv⟩
 ·refine kla_makeFunctionHit (mg:=X.mg) tj I.ok.glob hg gO (hC.keeps I.bk) Xu ht hf ⟨bm,ob,b1,b2,b3,none_ b4,I.bk _ _ b4,b5,b6,b7⟩ fun ctv h' tk hk hsz=>?_
  have at_:(h'.push (kla_obj "<lambda>" qual params body scope (fr.reverse.map fun x=>(x,(X.env.cells.lookup x).getD 0)) ((X.mg "__name__").getD .none) c' ctv)).get? h'.objs.size=some (kla_obj "<lambda>" qual params body scope (fr.reverse.map fun x=>(x,(X.env.cells.lookup x).getD 0)) ((X.mg "__name__").getD .none) c' ctv):=Heap.get?_push_size _ rfl
  have I2:=I.laid (a:=h'.objs.size) (o:=cS (kla_obj "<lambda>" qual params body scope (fr.reverse.map fun x=>(x,(X.env.cells.lookup x).getD 0)) ((X.mg "__name__").getD .none) c' ctv)) (t':=tk) (h':=h'.push (kla_obj "<lambda>" qual params body scope (fr.reverse.map fun x=>(x,(X.env.cells.lookup x).getD 0)) ((X.mg "__name__").getD .none) c' ctv)) (fun b u e=>Heap.get?_push_of_some _ (hk b u e)) hsz ⟨at_,_,at_⟩
  exact ⟨.ref h'.objs.size,_,I2,rfl,q _ h'.objs.size ctv la (I.bh.fresh hsz)⟩
theorem Ew (hc:HC X N sc) (gO:X.env.code=.ref c) (hC:CodeHd X.base c P) (hB:BMain X.mg X.base) (hq:X.env.qual ++ "<lambda>" = qual) (u0:freeOf scope=fr) (Rz:∀x∈fr,sc.names.lookup x=some .cell) (Aj:defaultsOf params X.env=([],[])) :
  ZE X (.Lambda params body scope pos) (Kc P X.mg qual params body scope pos X.env.cells fr):=⟨Lf hc gO hC hB hq u0 Rz Aj⟩
end
theorem Jw {P:Program} {w:World} {K:PySem.W.Frag} {mg:Str->Option Value} {base:Heap} {N:List Str} {f:Addr} {qual:Str} {scope:Scope} {cl:List (Str×Addr)} {cd:Value} {C:List (Addr×Obj)} {A:Around} {outer:List Env} {s s':Shared} {H H':Hp} {σ':St} {Q:VK} {v:V} {u:Value}
  (e0:mB P w K mg base A outer s H) (hC:cK C H) (J:Inv (Pb P w K mg base N qual scope f cd cl A outer s (aO C H)) [] σ' H' s') (rv:RelV v u) (q:cB C H'->Q v (dn C H')):CE outer P w H s Q u s':=by
 have nf:∀b o,C.lookup b=some o->b∉kO outer:=fun b o q z=>by have:=e0.En b z;rw [hC b o q] at this;cases this
 obtain ⟨un,po,at'⟩:=Un.Bj (H:=H) (h:=s.heap) J.base e0.bh hC nf
 exact ⟨v,dn C H',J.os,J.bare,un,J.bh.dn po at',rv,q po⟩
theorem Nf {P:Program} {w:World} {K:PySem.W.Frag} {mg:Str->Option Value} {base:Heap} {k:Nat} {f c':Addr} {name qual:Str} {params:Arguments} {body:Expr} {scope:Scope} {cl:List (Str×Addr)} {pm ctv:Value} {fo oc:Obj} {vE:Array Value} {tq:Tok}
  {ps fr:List Str} {sp:Sp} (Mv:fo.data=.func (kla_fn name qual params body scope cl pm (.ref c') ctv)) (nG:oc.data=.fields vE) (hq:vE[1]? = some (.str qual tq))
  (kind:scope.kind=.function) (co:scope.isCoroutine=false) (gen:scope.isGenerator=false) (g7:∀x∈scope.names,x.2≠.cell) (nd:(ps++fr).Nodup) (par:∀x∈ps,scope.names.lookup x=some .local) (VR:∀x∈fr,scope.names.lookup x=some .free)
  (has:∀x,scope.names.lookup x=some .free->x∈fr)
  (nZ:∀x c,cl.lookup x=some c->x∈fr) (inj:∀x y c,cl.lookup x=some c->cl.lookup y=some c->x=y)
  (wY:∀us:List Value,us.length=ps.length->bindArgs (kla_fn name qual params body scope cl pm (.ref c') ctv) ⟨us,[]⟩=pure (ps.zip us))
  (dN:∀vs H Q E,sp vs H Q E->∃C yP,vs.length=ps.length/\H f=some (cS fo)/\H c'=some (cS oc)/\cK C H/\yP.length=fr.length/\CellsOk C cl fr yP/\
   ∀(A:Around) (outer:List Env) (s:Shared),bW k (A.deeper (envX qual scope s.heap.objs.size f (.ref c') cl))->
   HC (Pb P w K mg base (ps++fr) qual scope f (.ref c') cl A outer s (aO C H)) (ps++fr) scope->
   ∃t,ZE (Pb P w K mg base (ps++fr) qual scope f (.ref c') cl A outer s (aO C H)) body t/\t ((vs++yP).map some) (aO C H) fun v H'=>cB C H'->Q v (dn C H')) :
  kX P w K mg base (k+1) f sp:=by
 intro A outer s H us vs Q E hr e0 r xF
 obtain ⟨C,yP,hl,hf,hc,hC,Uw,J3,dN⟩:=dN _ _ _ _ xF
 have lim:s.heap.NoLimit:=e0.mod.nolimit.keeps fun b o e=>(e0.bs b o e).1
 have hk:=e0.bh
 have hu:us.length=ps.length:=by rw [<-r.length];exact hl
 refine kla_callFunE (body:=body) hr.depth (hk _ _ hf).1 Mv co gen rfl ⟨c',oc,vE,tq,rfl,(hk _ _ hc).1,nG,hq⟩ ?_
 rw [wY us hu]
 refine wpAny_pure (wpAny_newFunctionEnv g7 (fun y hy=>par y.1 (List.of_mem_zip (a:=y.1) (b:=y.2) hy).1) (fun h₁ J2 hsb=>⟨lim.fresh _ hsb,kla_codeExpr ?_⟩) kind)
 have Ou:∀b o,s.heap.get? b=some o->h₁.get? b=some o:=fun b o e=>hsb.extBut b o (Nat.ne_of_lt (Heap.lt_size e)) (Heap.get?_push_of_some _ e)
 obtain ⟨t,ht,Dj⟩:=dN A outer s (hr.deeper _) ⟨rfl,rfl⟩
 refine wpAny_mono (ht.to [] _ _ _ _ (Bd kind g7 nd par VR has nZ inj hr.hd e0 r hl hC Uw J3 J2 Ou) Dj) (fun u s' ⟨v,H',J,rv,q⟩=>Jw e0 hC J rv q) fun e s' hs=>False.elim hs
end L2
end
namespace My
open PySem L2
def top (i:Nat):Stmt:=PySem.Challenge.pw_truceroll_k56_whole_few_askings.main.body.getD i (.Pass ⟨0,0,0,0⟩)
abbrev bG:Stmt:=top 4
abbrev e8:Stmt:=top 5
abbrev ik:Stmt:=top 7
abbrev fT:Stmt:=top 8
abbrev fc:Stmt:=top 9
abbrev e9:Stmt:=top 10
abbrev df:Stmt:=top 11
abbrev cQ:Stmt:=top 12
abbrev cu:Stmt:=top 13
abbrev fS:Stmt:=top 14
abbrev eZ:Stmt:=top 15
abbrev ka:Stmt:=top 17
abbrev bD:Stmt:=top 19
abbrev eB:Stmt:=top 22
abbrev er:Stmt:=top 23
abbrev dY:Stmt:=top 24
abbrev eC:Stmt:=top 25
abbrev cv:Stmt:=top 26
abbrev cR:Stmt:=top 27
abbrev dZ:Stmt:=top 28
abbrev dG:Stmt:=top 29
abbrev dE:Stmt:=top 30
abbrev jy:Stmt:=top 31
abbrev jq:List Str:=["tuples","each","one"]
abbrev wc:List Str:=["one"]
abbrev CG:List Str:=["numbers"]
abbrev yk:List Str:=["one","other","member"]
abbrev wg:List Str:=["family"]
abbrev wd:List Str:=["family","least","part"]
abbrev p9:List Str:=["family","greatest","part"]
abbrev oY:List Str:=["part","family","one"]
abbrev m8:List Str:=["part","family","one"]
abbrev yj:List Str:=["whole","part"]
abbrev wa:List Str:=["whole","parts","member"]
abbrev Hv:List Str:=["whole","ask","part","peace","member","more"]
abbrev dv:List Str:=["whole","ask","sounding","first","clashes","peaces"]
abbrev uP:List Str:=["_law_script"]
abbrev uO:List Str:=["_law_hand_here"]
abbrev uM:List Str:=["_law_hand_here","_law_cell"]
abbrev uQ:List Str:=["_law_hand_here","_law_many","_law_got","_law_value","_law_size"]
abbrev m9:List Str:=["_law_one","_law_other"]
abbrev oZ:List Str:=["_law_hand_here","_law_most","_law_far","_law_step","_law_at","_law_row","_law_k"]
abbrev uN:List Str:=["_law_hand_here","_law_whole"]
abbrev q0:List Str:=["_law_hand_here","_law_whole","_law_way","_law_weights","_law_alike","_law_one","_law_most","_law_sets","_law_at"]
abbrev qZ:List Str:=["_law_model_here","_law_part"]
abbrev QH:List Str:=["_law_script","_law_hand_here","_law_whole","_law_model_here","_law_notes","_law_ask","_law_told","_law_family","_law_part"]
def Ad (s:Stmt) (j:Nat):Stmt:=match s with
 | .ClassDef _ _ _ b _ _ _ _ _ _ _=>b.getD j (.Pass ⟨0,0,0,0⟩)
 | _=>.Pass ⟨0,0,0,0⟩
abbrev bS:Stmt:=Ad (top 2) 0
abbrev cg:List Str:=["self","part"]
abbrev bN:Stmt:=Ad (top 20) 0
abbrev jF:List Str:=["self","ask","parts"]
abbrev cw:Stmt:=Ad (top 20) 1
abbrev nc:List Str:=["self","part"]
abbrev cx:Stmt:=Ad (top 20) 2
abbrev ng:List Str:=["self","part","peaceful","left","other"]
abbrev aX:Stmt:=(aJ jy).getD 4 (.Pass ⟨0,0,0,0⟩)
abbrev lK:List Str:=["_law_part"]
abbrev bx:List Str:=["_law_model_here","_law_notes"]
structure oX where
 dz:Addr
 dw:FuncData
 mq:Addr
 lY:FuncData
 qE:Addr
 qy:FuncData
 oA:Addr
 oo:FuncData
 my:Addr
 mh:FuncData
 mw:Addr
 lZ:FuncData
 ia:Addr
 hX:FuncData
 gA:Addr
 gu:FuncData
 fu:Addr
 fj:FuncData
 oz:Addr
 om:FuncData
 mn:Addr
 lX:FuncData
 vp:Addr
 vd:FuncData
 dh:Addr
 iB:FuncData
 jX:Addr
 jO:FuncData
 jW:Addr
 jN:FuncData
 jU:Addr
 jL:FuncData
 jY:Addr
 jP:FuncData
 fz:Addr
 fk:FuncData
 gB:Addr
 gx:FuncData
 jV:Addr
 jM:FuncData
 jc:Addr
 iY:FuncData
 jb:Addr
 iX:FuncData
 JP:Addr
 Ba:FuncData
 aI:Addr
 aS:Addr
 aZ:Addr
 dU:FuncData
 ay:Addr
 bj:Addr
 dI:FuncData
 bH:Addr
 fq:FuncData
 bI:Addr
 ft:FuncData
structure Txt (K:PySem.W.Frag) (mg:Str->Option Value) (t:oX):Prop where
 fM:iK K "each_once_in_order" "each_once_in_order" bG t.dz t.dw
 jT:Binds K t.dw ["tuples"] []
 jI:mg "each_once_in_order" = some (.ref t.dz)
 zq:iK K "order_of" "order_of" e8 t.mq t.lY
 za:Binds K t.lY ["one"] []
 yt:mg "order_of" = some (.ref t.mq)
 xE:iK K "set_of" "set_of" ik t.qE t.qy
 JF:Binds K t.qy ["numbers"] []
 HF:mg "set_of" = some (.ref t.qE)
 iJ:iK K "is_part" "is_part" fT t.oA t.oo
 km:Binds K t.oo ["one","other"] []
 kf:mg "is_part" = some (.ref t.oA)
 gD:iK K "in_order" "in_order" fc t.my t.mh
 ja:Binds K t.mh ["family"] []
 iV:mg "in_order" = some (.ref t.my)
 qM:iK K "least_of" "least_of" e9 t.mw t.lZ
 zb:Binds K t.lZ ["family"] []
 yu:mg "least_of" = some (.ref t.mw)
 kW:iK K "greatest_of" "greatest_of" df t.ia t.hX
 rD:Binds K t.hX ["family"] []
 rg:mg "greatest_of" = some (.ref t.ia)
 j6:iK K "holds_one_of" "holds_one_of" cQ t.gA t.gu
 qC:Binds K t.gu ["part","family"] []
 qa:mg "holds_one_of" = some (.ref t.gA)
 iI:iK K "lies_in_one_of" "lies_in_one_of" cu t.fu t.fj
 ox:Binds K t.fj ["part","family"] []
 nV:mg "lies_in_one_of" = some (.ref t.fu)
 tZ:iK K "rest_of" "rest_of" fS t.oz t.om
 DY:Binds K t.om ["whole","part"] []
 CK:mg "rest_of" = some (.ref t.oz)
 qL:iK K "parts_of" "parts_of" eZ t.mn t.lX
 y9:Binds K t.lX ["whole"] []
 yr:mg "parts_of" = some (.ref t.mn)
 Bq:iK K "grown" "grown" ka t.vp t.vd
 Nk:Binds K t.vd ["whole","ask","part"] []
 LQ:mg "grown" = some (.ref t.vp)
 tY:iK K "sounded" "sounded" bD t.dh t.iB
 DX:Binds K t.iB ["whole","ask"] []
 CJ:mg "sounded" = some (.ref t.dh)
 oW:iK K "_law_hand" "_law_hand" eB t.jX t.jO
 xu:Binds K t.jO ["_law_script"] []
 wy:mg "_law_hand" = some (.ref t.jX)
 fN:iK K "_law_next" "_law_next" er t.jW t.jN
 gQ:Binds K t.jN ["_law_hand_here"] []
 gN:mg "_law_next" = some (.ref t.jW)
 oU:iK K "_law_take" "_law_take" dY t.jU t.jL
 xr:Binds K t.jL ["_law_hand_here"] []
 wu:mg "_law_take" = some (.ref t.jU)
 bp:iK K "_law_draw" "_law_draw" eC t.jY t.jP
 bz:Binds K t.jP ["_law_hand_here","_law_many"] []
 bu:mg "_law_draw" = some (.ref t.jY)
 fD:iK K "_law_is_within" "_law_is_within" cv t.fz t.fk
 iE:Binds K t.fk ["_law_one","_law_other"] []
 ip:mg "_law_is_within" = some (.ref t.fz)
 j7:iK K "_law_members" "_law_members" cR t.gB t.gx
 qD:Binds K t.gx ["_law_hand_here","_law_most"] []
 qb:mg "_law_members" = some (.ref t.gB)
 oV:iK K "_law_some" "_law_some" dZ t.jV t.jM
 xt:Binds K t.jM ["_law_hand_here","_law_whole"] []
 wx:mg "_law_some" = some (.ref t.jV)
 nE:iK K "_law_model" "_law_model" dG t.jc t.iY
 vn:Binds K t.iY ["_law_hand_here","_law_whole"] []
 uU:mg "_law_model" = some (.ref t.jc)
 nC:iK K "_law_tells" "_law_tells" dE t.jb t.iX
 vm:Binds K t.iX ["_law_model_here","_law_part"] []
 uT:mg "_law_tells" = some (.ref t.jb)
 Wy:iK K "law" "law" jy t.JP t.Ba
 aBD:Binds K t.Ba ["_law_script"] []
 aBA:mg "law" = some (.ref t.JP)
 z_abs:mg "abs" = none
 z_all:mg "all" = none
 z_any:mg "any" = none
 z_isinstance:mg "isinstance" = none
 z_len:mg "len" = none
 z_list:mg "list" = none
 z_range:mg "range" = none
 z_reversed:mg "reversed" = none
 z_set:mg "set" = none
 z_sorted:mg "sorted" = none
 z_sum:mg "sum" = none
 z_tuple:mg "tuple" = none
 uV:mg "TruceError" = some (.ref t.aI)
 Kb:XC K t.aI
 kc_TruceError:PySem.W.keepIn K (.ref t.aI)=true
 ii_TruceError:PySem.W.findIn K (.ref t.aI) "__init__" = some (some (.builtin "ValueError.__init__"))
 rd_TruceError:PySem.W.readsIn K t.aI (.type "type")=true
 fc_TruceError:PySem.W.findCls K (.ref t.aI) (.type "type") "__init__" = some (.val (.builtin "ValueError.__init__"))
 sg_TruceError:PySem.W.specialIn K (.ref t.aI) "__getattribute__" = some (some (.builtin "type.__getattribute__"))
 CN:mg "NoPeace" = some (.ref t.aS)
 nO:XC K t.aS
 kc_NoPeace:PySem.W.keepIn K (.ref t.aS)=true
 mz:iK K "__init__" "NoPeace.__init__" bS t.aZ t.dU
 ml:Binds K t.dU cg []
 ii_NoPeace:PySem.W.findIn K (.ref t.aS) "__init__" = some (some (.ref t.aZ))
 if_NoPeace:PySem.W.typeIn K (.ref t.aZ)=some (.type "function")
 tk_NoPeace:PySem.W.takerIn K t.aS "part" = some none
 nf_NoPeace:PySem.W.findIn K (.ref t.aS) "part" = some none
 yv:mg "Sounding" = some (.ref t.ay)
 aL:Cls K t.ay
 jf:fP K t.ay "ask"
 cp:fP K t.ay "askings"
 bM:fP K t.ay "known"
 ck:fP K t.ay "unknown"
 wm:Mk K t.ay t.bj
 kG:iK K "__init__" "Sounding.__init__" bN t.bj t.dI
 kz:Binds K t.dI ["self","ask","parts"] []
 oE:iK K "tells" "Sounding.tells" cw t.bH t.fq
 iF:Binds K t.fq ["self","part"] []
 gL:Meth K t.ay "tells" t.bH
 oF:iK K "learn" "Sounding.learn" cx t.bI t.ft
 oy:Binds K t.ft ["self","part","peaceful"] []
 nh:Meth K t.ay "learn" t.bI
theorem jx:aT jF ["self","ask","parts"] (ag bN):=⟨rfl,rfl,rfl,by decide +kernel,rfl,by decide +kernel,by decide +kernel⟩
theorem mZ:aT nc ["self","part"] (ag cw):=⟨rfl,rfl,rfl,by decide +kernel,rfl,by decide +kernel,by decide +kernel⟩
theorem eM:aT ng ["self","part","peaceful"] (ag cx):=⟨rfl,rfl,rfl,by decide +kernel,rfl,by decide +kernel,by decide +kernel⟩
theorem ko:aT cg cg (ag bS):=⟨rfl,rfl,rfl,by decide +kernel,rfl,by decide +kernel,by decide +kernel⟩
theorem di:aT jq ["tuples"] (ag bG):=⟨rfl,rfl,rfl,by decide +kernel,rfl,by decide +kernel,by decide +kernel⟩
theorem vR:aT wc ["one"] (ag e8):=⟨rfl,rfl,rfl,by decide +kernel,rfl,by decide +kernel,by decide +kernel⟩
theorem Cd:aT CG ["numbers"] (ag ik):=⟨rfl,rfl,rfl,by decide +kernel,rfl,by decide +kernel,by decide +kernel⟩
theorem pX:aT yk ["one","other"] (ag fT):=⟨rfl,rfl,rfl,by decide +kernel,rfl,by decide +kernel,by decide +kernel⟩
theorem vS:aT wg ["family"] (ag fc):=⟨rfl,rfl,rfl,by decide +kernel,rfl,by decide +kernel,by decide +kernel⟩
theorem jv:aT wd ["family"] (ag e9):=⟨rfl,rfl,rfl,by decide +kernel,rfl,by decide +kernel,by decide +kernel⟩
theorem gb:aT p9 ["family"] (ag df):=⟨rfl,rfl,rfl,by decide +kernel,rfl,by decide +kernel,by decide +kernel⟩
theorem je:aT oY ["part","family"] (ag cQ):=⟨rfl,rfl,rfl,by decide +kernel,rfl,by decide +kernel,by decide +kernel⟩
theorem gK:aT m8 ["part","family"] (ag cu):=⟨rfl,rfl,rfl,by decide +kernel,rfl,by decide +kernel,by decide +kernel⟩
theorem xX:aT yj ["whole","part"] (ag fS):=⟨rfl,rfl,rfl,by decide +kernel,rfl,by decide +kernel,by decide +kernel⟩
theorem gJ:aT wa ["whole"] (ag eZ):=⟨rfl,rfl,rfl,by decide +kernel,rfl,by decide +kernel,by decide +kernel⟩
theorem jw:aT Hv ["whole","ask","part"] (ag ka):=⟨rfl,rfl,rfl,by decide +kernel,rfl,by decide +kernel,by decide +kernel⟩
theorem fZ:aT dv ["whole","ask"] (ag bD):=⟨rfl,rfl,rfl,by decide +kernel,rfl,by decide +kernel,by decide +kernel⟩
theorem uw:aT uP ["_law_script"] (ag eB):=⟨rfl,rfl,rfl,by decide +kernel,rfl,by decide +kernel,by decide +kernel⟩
theorem uv:aT uO ["_law_hand_here"] (ag er):=⟨rfl,rfl,rfl,by decide +kernel,rfl,by decide +kernel,by decide +kernel⟩
theorem iR:aT uM ["_law_hand_here"] (ag dY):=⟨rfl,rfl,rfl,by decide +kernel,rfl,by decide +kernel,by decide +kernel⟩
theorem dD:aT uQ ["_law_hand_here","_law_many"] (ag eC):=⟨rfl,rfl,rfl,by decide +kernel,rfl,by decide +kernel,by decide +kernel⟩
theorem mY:aT m9 ["_law_one","_law_other"] (ag cv):=⟨rfl,rfl,rfl,by decide +kernel,rfl,by decide +kernel,by decide +kernel⟩
theorem bZ:aT oZ ["_law_hand_here","_law_most"] (ag cR):=⟨rfl,rfl,rfl,by decide +kernel,rfl,by decide +kernel,by decide +kernel⟩
theorem ur:aT uN ["_law_hand_here","_law_whole"] (ag dZ):=⟨rfl,rfl,rfl,by decide +kernel,rfl,by decide +kernel,by decide +kernel⟩
theorem bV:aT q0 ["_law_hand_here","_law_whole"] (ag dG):=⟨rfl,rfl,rfl,by decide +kernel,rfl,by decide +kernel,by decide +kernel⟩
theorem qY:aT qZ ["_law_model_here","_law_part"] (ag dE):=⟨rfl,rfl,rfl,by decide +kernel,rfl,by decide +kernel,by decide +kernel⟩
theorem iQ:aT QH ["_law_script"] (ag jy):=⟨rfl,rfl,rfl,by decide +kernel,rfl,by decide +kernel,by decide +kernel⟩
theorem Ws:bootBuiltins "abs" = some (.builtin "abs"):=by decide +kernel
theorem Wr:bootBuiltins "all" = some (.builtin "all"):=by decide +kernel
theorem Pj:bootBuiltins "any" = some (.builtin "any"):=by decide +kernel
theorem nr:bootBuiltins "isinstance" = some (.builtin "isinstance"):=by decide +kernel
theorem jS:bootBuiltins "len" = some (.builtin "len"):=by decide +kernel
theorem JG:bootBuiltins "list" = some (.type "list"):=by decide +kernel
theorem R7:bootBuiltins "reversed" = some (.type "reversed"):=by decide +kernel
theorem Wq:bootBuiltins "set" = some (.type "set"):=by decide +kernel
theorem xq:bootBuiltins "sorted" = some (.builtin "sorted"):=by decide +kernel
theorem Wo:bootBuiltins "sum" = some (.builtin "sum"):=by decide +kernel
theorem kl:bootBuiltins "tuple" = some (.type "tuple"):=by decide +kernel
local macro_rules | `(tactic| walk_at "rd") => `(tactic| walk_at "rc")
local macro_rules | `(tactic| walk_at "rl") => `(tactic| first | (refine dR fun R hR => ?_) | walk_at "ry" | (refine Nx.to (by assumption) _ _ ?_))
local macro_rules | `(tactic| walk_at "rc") => do
  let ids := ("L2.start BK rR BM vJ tB Fl X4 vI tC pV cV VN O7 VP N2 Jd Fj Fi vM vN rX BL Py xR pQ Fn Fh Gm rI rU W2 W0 FT vO Sn Gy KR P9 KN KJ zN zP zO uE x6 pz x8 x9 uC Gv p6 zS Qc pZ xS Gx Qa GF KY Qb KS KQ Tp vK mR P8 Ts Pz px uA p5 xZ uB nU Ky Pw Fs Tr Fm Fq Px vL X5 List.map_cons List.map_nil List.cons_append List.nil_append List.append_nil List.length_cons List.length_nil List.replicate List.getElem?_cons_zero List.getElem?_cons_succ List.set_cons_zero List.set_cons_succ Nat.reduceAdd Nat.reduceSub Nat.reduceLeDiff Option.some.injEq V.int.injEq V.ref.injEq V.str.injEq V.bl.injEq V.ty.injEq List.cons.injEq HO.lst.injEq HO.tup.injEq HO.dK.injEq exists_eq_left exists_eq_left' exists_and_left and_true true_and and_assoc exists_const reduceCtorEq ah pj decide_eq_true_eq List.length_map ite_true ite_false Bool.false_eq_true Bool.true_and Bool.and_true xB Bi Bh Bg JL JK yI yH yF yE yD Jv Ju Jt Js y4 y3 y0 yZ yU bQ Option.join_some Option.join_none pR t9 wR Ia HY zQ pP pO zR GJ GK uz P' nU Gw uD ke wU Ib HX t8 Fg Int.zero_add Int.reduceMul Int.reduceAdd Int.reduceSub Int.reduceLT Int.reduceLE Int.reducePow Int.reduceToNat Int.reduceNeg gt_iff_lt ge_iff_le uh hv Ke Ku zu zA Ends.X3 HO.ext.injEq HO.xd.injEq Oe N3 N1 GD GC Gz vW Gn zL zC Fp Fo NT Tq zt pk NR Tn Gs uc ud zB uf Kc".splitOn " ").toArray.map fun x => Lean.mkIdent x.toName
  `(tactic| simp only [$[$ids:ident],*])
local macro_rules | `(tactic| walk_at "ry") => do
  let ids := ("L2.start rR BM vJ tB Fl X4 vI tC pV cV VN O7 VP N2 Jd Fj Fi vM vN rX BL Py xR pQ Fn Fh Gm rI rU W2 W0 FT vO Sn Gy KR P9 KN KJ zN zP zO uE x6 pz x8 x9 uC Gv p6 zS Qc pZ xS Gx Qa GF KY Qb KS KQ Tp vK mR P8 Ts Pz px uA p5 xZ uB nU Ky Pw Fs Tr Fm Fq Px vL X5 List.map_cons List.map_nil List.cons_append List.nil_append List.append_nil List.length_cons List.length_nil List.replicate List.getElem?_cons_zero List.getElem?_cons_succ List.set_cons_zero List.set_cons_succ Nat.reduceAdd Nat.reduceSub Nat.reduceLeDiff Option.some.injEq V.int.injEq V.ref.injEq V.str.injEq V.bl.injEq V.ty.injEq List.cons.injEq HO.lst.injEq HO.tup.injEq HO.dK.injEq exists_eq_left exists_eq_left' exists_and_left and_true true_and and_assoc exists_const reduceCtorEq ah pj decide_eq_true_eq List.length_map ite_true ite_false Bool.false_eq_true Bool.true_and Bool.and_true xB Bi Bh Bg JL JK yI yH yF yE yD Jv Ju Jt Js y4 y3 y0 yZ yU bQ Option.join_some Option.join_none pR t9 wR Ia HY zQ pP pO zR GJ GK uz P' nU Gw uD ke wU Ib HX t8 Fg Int.zero_add Int.reduceMul Int.reduceAdd Int.reduceSub Int.reduceLT Int.reduceLE Int.reducePow Int.reduceToNat Int.reduceNeg gt_iff_lt ge_iff_le uh hv Ke Ku zu zA Ends.X3 HO.ext.injEq HO.xd.injEq Oe N3 N1 GD GC Gz vW Gn zL zC Fp Fo NT Tq zt pk NR Tn Gs uc ud zB uf Kc".splitOn " ").toArray.map fun x => Lean.mkIdent x.toName
  `(tactic| simp only [$[$ids:ident],*])
section
variable {P:Program} {w:World} {K:PySem.W.Frag} {mg:Str->Option Value} {base:Heap} {t:oX}
theorem v7 (T:Txt K mg t):bO P w K mg base eL 1 t.mq t.lY ["one"] rZ:=by
 refine T.zq.pD vR (fun vs H Q E h=>?_) (fun cC A outer s H vs Q E hr h hc hf=>?_)
 ·obtain ⟨a,rfl,_⟩:=h;rfl
 obtain ⟨a,rfl,xs,ha,q⟩:=h
 refine ⟨_,(by exact az (aR (iN (ae (bA fU (cW hc (by decide +kernel)) T.z_len jS (ae (av hc 0 (by decide +kernel)) ao)) (ae (av hc 0 (by decide +kernel)) ao))))),?_⟩
 repeat (first | walk_at "rd" | simp only [ha])
 exact ⟨by decide,q⟩
theorem Lw (T:Txt K mg t):bO P w K mg base eL 4 t.dz t.dw ["tuples"] Fz:=by
 have zm:=v7 (P:=P) (w:=w) (base:=base) T
 refine T.fM.pD di (fun vs H Q E h=>?_) (fun cC A outer s H vs Q E hr h hc hf=>?_)
 ·obtain ⟨a,rfl,_⟩:=h;rfl
 obtain ⟨L,rfl,as,ss,hL,sat,L7,q⟩:=h
 have hu:=kL hr
 have Mb:=hr.fY
 refine ⟨_,(by apply au;exact (aM hc di.nd hf 1 (by decide +kernel) rJ);apply au;exact (dB PassesOwn.never rfl (dq (av hc 0 (by decide +kernel))) (nI hc di.nd hf 2 (by decide +kernel)) (by exact az (mK hu (av hc 1 (by decide +kernel)) (av hc 2 (by decide +kernel)) gY rfl)));exact az (aR (Bs zm (hr.mono (by omega)) (cW hc (by decide +kernel)) T.z_sorted xq (cW hc (by decide +kernel)) T.yt T.za (av hc 1 (by decide +kernel))))),?_⟩
 repeat (walk_at "rd")
 intro p hp
 have sp:=aK hp (.dT [])
 have hpL:L≠p:=aj hL hp
 refine ⟨⟨_,bC (sp _ _ hL)⟩,?_⟩
 obtain ⟨Pv,cO⟩:∃Pv:Nat->St->Hp->Prop,∀i σ' H',Pv i σ' H'↔∃(x:Option V) (aE:List (List Key×V)) (vs:List (List Int)),σ'=[some (.ref L),some (.ref p),x]/\H'=upd H p (.dT aE)/\aE.map (·.1)=vs.map (List.map Sum.inl)/\vs.Nodup/\∀z,z∈vs↔z∈ss.take i:=⟨_,fun _ _ _=>Iff.rfl⟩
 refine eI (xs:=List.map V.ref as) Pv ((cO _ _ _).mpr ⟨none,[],[],rfl,rfl,rfl,List.nodup_nil,fun z=>by simp⟩) (fun i σ' H1 _ pv=>?_) (fun i x σ' H1 hx pv=>?_) (fun σ' H1 pv=>?_)
 ·obtain ⟨_,_,_,_,rfl,_⟩:=(cO _ _ _).mp pv
  rw [aq hpL];exact hL
 ·obtain ⟨y,aE,vs,rfl,rfl,ek,nd,mem⟩:=(cO _ _ _).mp pv
  obtain ⟨a,ea,rfl⟩:=fO hx
  have hi:i < as.length:=(List.getElem?_eq_some_iff.mp ea).1
  have mE:i < ss.length:=by have:=sat.1;omega
  have es:ss[i]? = some ss[i]:=List.getElem?_eq_getElem mE
  have ha:=sat.2 i a _ ea es
  have hap:a≠p:=aj ha hp
  have lk:aE.length<=90000:=by
   have h1:=congrArg List.length ek
   rw [List.length_map,List.length_map] at h1
   have h2:=cU nd fun x hx=>List.mem_of_mem_take ((mem x).mp hx)
   have:=sat.1
   omega
  simp only [cV,pY,vI,tC,List.getElem?_cons_zero,List.getElem?_cons_succ,Option.some.injEq,exists_eq_left',List.set_cons_zero,List.set_cons_succ]
  refine ⟨p,_,rfl,qN.t (k:=ss[i].map Sum.inl) ah (by rw [aq hap,jH];exact ha) (uj (by omega)),?_⟩
  rw [pj]
  have et:ss.take (i+1)=ss.take i++[ss[i]]:=by rw [List.take_add_one,es];rfl
  by_cases Io:ss[i]∈vs
  ·refine (cO _ _ _).mpr ⟨_,_,vs,rfl,rfl,?_,nd,fun z=>?_⟩
   ·rw [sW,if_pos (by rw [ek];exact List.mem_map_of_mem Io)];exact ek
   ·rw [et,List.mem_append,<-mem z,List.mem_singleton]
    exact ⟨.inl,fun h=>h.elim id fun e=>by rw [e];exact Io⟩
  ·refine (cO _ _ _).mpr ⟨_,_,vs++[ss[i]],rfl,rfl,?_,?_,fun z=>?_⟩
   ·rw [sW,if_neg (by rw [ek];intro z;obtain ⟨v,hv,e⟩:=List.mem_map.mp z;exact Io (by rw [<-uX e];exact hv)),ek,List.map_append];rfl
   ·rw [List.nodup_append]
    exact ⟨nd,List.nodup_cons.mpr ⟨by simp,List.nodup_nil⟩,fun x hx y hy=>by rw [List.mem_singleton.mp hy];exact fun e=>Io (by rw [<-e];exact hx)⟩
   ·rw [et,List.mem_append,List.mem_append,mem z]
 ·obtain ⟨y,aE,vs,rfl,rfl,ek,nd,mem⟩:=(cO _ _ _).mp pv
  rw [List.length_map,sat.1,List.take_length] at mem
  have lv:vs.length < 100000:=by
   have:=cU nd fun x hx=>(mem x).mp hx
   have:=sat.1
   omega
  repeat (walk_at "rd")
  refine ⟨p,rfl,aE,vs,ah,ek,lv,fun D H' bs ts s1 hD hD' st pm pw=>?_⟩
  have sH:bU H (upd H p (.dT aE)):=fun b u e=>by rw [aq (aj e hp)];exact e
  exact q D H' bs ts (sH.trans s1) (sH.free hD) hD' st (pm.nodup_iff.mpr nd) (fun x=>(pm.mem_iff).trans (mem x)) pw
end
section
variable {P:Program} {w:World} {K:PySem.W.Frag} {mg:Str->Option Value} {base:Heap} {t:oX}
theorem lM (T:Txt K mg t):bO P w K mg base eL 1 t.oA t.oo ["one","other"] PN:=by
 refine T.iJ.pD pX (fun vs H Q E h=>?_) (fun cC A outer s H vs Q E hr h hc hf=>?_)
 ·obtain ⟨a,b,rfl,_⟩:=h;rfl
 obtain ⟨a,b,rfl,x,y,ha,hb,q⟩:=h
 have hu:=kL hr
 have Mb:=hr.fY
 refine ⟨_,(by apply au;exact (dB PassesOwn.never rfl (fE (av hc 0 (by decide +kernel))) (nI hc pX.nd hf 2 (by decide +kernel)) (by exact az (cE (bK sN (av hc 2 (by decide +kernel)) (av hc 1 (by decide +kernel)) (by with_unfolding_all rfl)) (by exact az (aR gY)) bF)));exact az (aR gY)),?_⟩
 repeat (walk_at "rd")
 refine ⟨⟨_,bR ha⟩,?_⟩
 obtain ⟨Pv,cO⟩:∃Pv:Nat->St->Hp->Prop,∀i σ' H',Pv i σ' H'↔∃z:Option V,σ'=[some (.ref a),some (.ref b),z]/\H'=H/\(x.take i).all (fun m=>decide (m∈y))=true:=⟨_,fun _ _ _=>Iff.rfl⟩
 refine gp (xs:=List.map V.int x) Pv ((cO _ _ _).mpr ⟨none,rfl,rfl,rfl⟩) (fun i σ' H1 _ pv=>?_) (fun i z σ' H1 hz pv=>?_) (fun σ' H1 pv=>?_)
 ·obtain ⟨_,_,rfl,_⟩:=(cO _ _ _).mp pv
  exact ha
 ·obtain ⟨z',rfl,rfl,al⟩:=(cO _ _ _).mp pv
  obtain ⟨n,en,rfl⟩:=int_at hz
  repeat (first | walk_at "rd" | simp only [hb])
  refine ⟨rfl,og y,?_⟩
  rw [ql]
  by_cases hm:n∈y
  ·rw [if_neg (by simp [hm])]
   refine (cO _ _ _).mpr ⟨_,rfl,rfl,?_⟩
   rw [List.take_add_one,en,List.all_append,al]
   simp [hm]
  ·rw [if_pos (by simp [hm])]
   have e:aA x y=false:=by
    unfold aA
    rw [List.all_eq_false]
    exact ⟨n,List.mem_of_getElem? en,by simp [hm]⟩
   rw [<-e]
   exact q
 ·obtain ⟨z',rfl,rfl,al⟩:=(cO _ _ _).mp pv
  rw [List.length_map,List.take_length] at al
  repeat (walk_at "rd")
  have e:aA x y=true:=al
  rw [<-e]
  exact q
end
section
variable {P:Program} {w:World} {K:PySem.W.Frag} {mg:Str->Option Value} {base:Heap} {t:oX}
theorem uJ (T:Txt K mg t):bO P w K mg base eL 2 t.gA t.gu ["part","family"] (sd false):=by
 have fV:=lM (P:=P) (w:=w) (base:=base) T
 refine T.j6.pD je (fun vs H Q E h=>?_) (fun cC A outer s H vs Q E hr h hc hf=>?_)
 ·obtain ⟨a,L,rfl,_⟩:=h;rfl
 obtain ⟨a,L,rfl,x,bs,ts,ha,hL,st,q⟩:=h
 refine ⟨_,(by apply au;exact (dB PassesOwn.never rfl (dq (av hc 1 (by decide +kernel))) (nI hc je.nd hf 2 (by decide +kernel)) (by exact az (cE (cL (aD fV (hr.mono (by omega)) (cW hc (by decide +kernel)) T.kf T.iJ.kp T.km .nil bt (ae (av hc 2 (by decide +kernel)) (ae (av hc 0 (by decide +kernel)) ao)))) (by exact az (aR gY)) bF)));exact az (aR gY)),?_⟩
 repeat (walk_at "rd")
 refine ⟨⟨_,bC hL⟩,?_⟩
 obtain ⟨Pv,cO⟩:∃Pv:Nat->St->Hp->Prop,∀i σ' H',Pv i σ' H'↔∃z:Option V,σ'=[some (.ref a),some (.ref L),z]/\H'=H/\(ts.take i).any (fun t=>aA t x)=false:=⟨_,fun _ _ _=>Iff.rfl⟩
 refine eI (xs:=List.map V.ref bs) Pv ((cO _ _ _).mpr ⟨none,rfl,rfl,rfl⟩) (fun i σ' H1 _ pv=>?_) (fun i z σ' H1 hz pv=>?_) (fun σ' H1 pv=>?_)
 ·obtain ⟨_,_,rfl,_⟩:=(cO _ _ _).mp pv
  exact hL
 ·obtain ⟨z',rfl,rfl,al⟩:=(cO _ _ _).mp pv
  obtain ⟨b,eb,rfl⟩:=fO hz
  have hi:i < bs.length:=(List.getElem?_eq_some_iff.mp eb).1
  have mE:i < ts.length:=by have:=st.1;omega
  have et:ts[i]? = some ts[i]:=List.getElem?_eq_getElem mE
  repeat (walk_at "rd")
  refine ⟨b,a,rfl,_,x,st.2 i b _ eb et,ha,?_⟩
  repeat (walk_at "rd")
  by_cases hp:aA ts[i] x=true
  ·rw [if_pos hp]
   have e:ts.any (fun t=>if false then aA x t else aA t x)=true:=List.any_eq_true.mpr ⟨ts[i],List.getElem_mem mE,hp⟩
   rw [<-e]
   exact q
  ·rw [if_neg hp]
   refine (cO _ _ _).mpr ⟨_,rfl,rfl,?_⟩
   rw [List.take_add_one,et,List.any_append,al]
   simp [hp]
 ·obtain ⟨z',rfl,rfl,al⟩:=(cO _ _ _).mp pv
  rw [List.length_map,st.1,List.take_length] at al
  repeat (walk_at "rd")
  have e:ts.any (fun t=>if false then aA x t else aA t x)=false:=al
  rw [<-e]
  exact q
end
section
variable {P:Program} {w:World} {K:PySem.W.Frag} {mg:Str->Option Value} {base:Heap} {t:oX}
theorem v8 (T:Txt K mg t):bO P w K mg base eL 2 t.fu t.fj ["part","family"] (sd true):=by
 have fV:=lM (P:=P) (w:=w) (base:=base) T
 refine T.iI.pD gK (fun vs H Q E h=>?_) (fun cC A outer s H vs Q E hr h hc hf=>?_)
 ·obtain ⟨a,L,rfl,_⟩:=h;rfl
 obtain ⟨a,L,rfl,x,bs,ts,ha,hL,st,q⟩:=h
 refine ⟨_,(by apply au;exact (dB PassesOwn.never rfl (dq (av hc 1 (by decide +kernel))) (nI hc gK.nd hf 2 (by decide +kernel)) (by exact az (cE (cL (aD fV (hr.mono (by omega)) (cW hc (by decide +kernel)) T.kf T.iJ.kp T.km .nil bt (ae (av hc 0 (by decide +kernel)) (ae (av hc 2 (by decide +kernel)) ao)))) (by exact az (aR gY)) bF)));exact az (aR gY)),?_⟩
 repeat (walk_at "rd")
 refine ⟨⟨_,bC hL⟩,?_⟩
 obtain ⟨Pv,cO⟩:∃Pv:Nat->St->Hp->Prop,∀i σ' H',Pv i σ' H'↔∃z:Option V,σ'=[some (.ref a),some (.ref L),z]/\H'=H/\(ts.take i).any (fun t=>aA x t)=false:=⟨_,fun _ _ _=>Iff.rfl⟩
 refine eI (xs:=List.map V.ref bs) Pv ((cO _ _ _).mpr ⟨none,rfl,rfl,rfl⟩) (fun i σ' H1 _ pv=>?_) (fun i z σ' H1 hz pv=>?_) (fun σ' H1 pv=>?_)
 ·obtain ⟨_,_,rfl,_⟩:=(cO _ _ _).mp pv
  exact hL
 ·obtain ⟨z',rfl,rfl,al⟩:=(cO _ _ _).mp pv
  obtain ⟨b,eb,rfl⟩:=fO hz
  have hi:i < bs.length:=(List.getElem?_eq_some_iff.mp eb).1
  have mE:i < ts.length:=by have:=st.1;omega
  have et:ts[i]? = some ts[i]:=List.getElem?_eq_getElem mE
  repeat (walk_at "rd")
  refine ⟨a,b,rfl,x,_,ha,st.2 i b _ eb et,?_⟩
  repeat (walk_at "rd")
  by_cases hp:aA x ts[i]=true
  ·rw [if_pos hp]
   have e:ts.any (fun t=>if true then aA x t else aA t x)=true:=List.any_eq_true.mpr ⟨ts[i],List.getElem_mem mE,hp⟩
   rw [<-e]
   exact q
  ·rw [if_neg hp]
   refine (cO _ _ _).mpr ⟨_,rfl,rfl,?_⟩
   rw [List.take_add_one,et,List.any_append,al]
   simp [hp]
 ·obtain ⟨z',rfl,rfl,al⟩:=(cO _ _ _).mp pv
  rw [List.length_map,st.1,List.take_length] at al
  repeat (walk_at "rd")
  have e:ts.any (fun t=>if true then aA x t else aA t x)=false:=al
  rw [<-e]
  exact q
end
section
variable {P:Program} {w:World} {K:PySem.W.Frag} {mg:Str->Option Value} {base:Heap} {t:oX}
theorem jD (T:Txt K mg t):bO P w K mg base eL 5 t.my t.mh ["family"] Fz:=by
 have j5:=Lw (P:=P) (w:=w) (base:=base) T
 refine T.gD.pD vS (fun vs H Q E h=>?_) (fun cC A outer s H vs Q E hr h hc hf=>?_)
 ·obtain ⟨a,rfl,_⟩:=h;rfl
 have h':=h
 obtain ⟨L,rfl,_⟩:=h
 refine ⟨_,(by exact az (aR (aD j5 (hr.mono (by omega)) (cW hc (by decide +kernel)) T.jI T.fM.kp T.jT .nil bt (ae (av hc 0 (by decide +kernel)) ao)))),?_⟩
 repeat (walk_at "rd")
 exact h'
end
local macro_rules | `(tactic| walk_at "rd") => `(tactic| walk_at "rc")
local macro_rules | `(tactic| walk_at "rl") => `(tactic| first | (refine dR fun R hR => ?_) | walk_at "ry" | (refine Nx.to (by assumption) _ _ ?_))
section
variable {P:Program} {w:World} {K:PySem.W.Frag} {mg:Str->Option Value} {base:Heap} {t:oX}
theorem Ls (T:Txt K mg t):bO P w K mg base eL 1 t.oz t.om ["whole","part"] PL:=by
 refine T.tZ.pD xX (fun vs H Q E h=>?_) (fun cC A outer s H vs Q E hr h hc hf=>?_)
 ·obtain ⟨a,b,rfl,_⟩:=h;rfl
 obtain ⟨a,b,rfl,x,y,ha,hb,lx,q⟩:=h
 have hu:=kL hr
 have Mb:=hr.fY
 refine ⟨_,(by exact az (aR (dQ fJ (cW hc (by decide +kernel)) T.z_tuple kl (ae (dX hc ["member"] [1] rfl (by decide +kernel) (fE (av hc 0 (by decide +kernel))) (fun _ hc=>pJ hc (by decide +kernel) 0 (by decide +kernel)) (fun _ hc=>ic (bK sN (av hc 0 (by decide +kernel)) (av hc 1 (by decide +kernel)) (by with_unfolding_all rfl))) (fun _ hc=>(av hc 0 (by decide +kernel)))) ao)))),?_⟩
 repeat (walk_at "rd")
 refine ⟨⟨_,bR ha⟩,?_⟩
 obtain ⟨Pc,kr⟩:∃Pc:Addr->Nat->List V->Hp->Prop,∀Z i ys H',Pc Z i ys H'↔ys=List.map V.int (bq (x.take i) y)/\bU H H'/\H' Z=some (.lst ys):=⟨_,fun _ _ _ _=>Iff.rfl⟩
 refine jQ (zs:=List.map V.int x) Pc (fun Z hZ=>(kr _ _ _ _).mpr ⟨rfl,aK hZ _,ah⟩) (fun Z hZ i ys H' _ pv=>?_) (fun Z hZ i z ys H' hz pv cb=>?_) (fun Z hZ ys H' pv=>?_)
 ·obtain ⟨_,s,_⟩:=(kr _ _ _ _).mp pv
  exact s _ _ ha
 ·obtain ⟨rfl,s1,qm⟩:=(kr _ _ _ _).mp pv
  obtain ⟨n,en,rfl⟩:=int_at hz
  have hi:i < x.length:=(List.getElem?_eq_some_iff.mp en).1
  have Em:=s1 _ _ hb
  have ef:bq (x.take (i+1)) y=bq (x.take i) y++(if n∈y then [] else [n]):=by
   unfold bq
   rw [List.take_add_one,en,List.filter_append]
   by_cases hm:n∈y <;> simp [hm]
  walk_at "rc"
  repeat (first | walk_at "rd" | simp only [Em])
  refine ⟨rfl,og y,?_⟩
  rw [ql]
  by_cases hm:n∈y
  ·rw [if_neg (by simp [hm])]
   refine (kr _ _ _ _).mpr ⟨?_,s1,qm⟩
   rw [ef,if_pos hm,List.append_nil]
  ·rw [if_pos (by simp [hm])]
   have ll:(bq (x.take i) y).length<=900:=Nat.le_trans (List.length_filter_le _ _) (by rw [List.length_take];omega)
   refine ⟨qm,bY (by omega),(kr _ _ _ _).mpr ⟨?_,Ce s1 hZ,ah⟩⟩
   rw [ef,if_neg hm,List.map_append]
   rfl
 ·obtain ⟨rfl,s1,qm⟩:=(kr _ _ _ _).mp pv
  rw [List.length_map,List.take_length] at qm
  refine ⟨Z,rfl,_,qm,fun p hp=>q p _ (s1.trans (aK hp _)) (s1.free hp) ?_⟩
  exact ah
end
def Fy:Sp:=fun vs H Q _=>∃L,vs=[.ref L]/\∃ns:List Int,H L=some (.tup (List.map V.int ns))/\ns.length < 64/\∀p ms H',bU H H'->H p=none->H' p=some (.tup (List.map V.int ms))->dJ ms->(∀x,x∈ms↔x∈ns)->Q (.ref p) H'
section
variable {P:Program} {w:World} {K:PySem.W.Frag} {mg:Str->Option Value} {base:Heap} {t:oX}
theorem Cv (T:Txt K mg t):bO P w K mg base eL 1 t.qE t.qy ["numbers"] Fy:=by
 refine T.xE.pD Cd (fun vs H Q E h=>?_) (fun cC A outer s H vs Q E hr h hc hf=>?_)
 ·obtain ⟨L,rfl,_⟩:=h;rfl
 obtain ⟨L,rfl,ns,hL,l64,q⟩:=h
 refine ⟨_,(by exact az (aR (dQ fJ (cW hc (by decide +kernel)) T.z_tuple kl (ae (bA (qz hr.hd) (cW hc (by decide +kernel)) T.z_sorted xq (ae (dQ (y7 hr.hd) (cW hc (by decide +kernel)) T.z_set Wq (ae (av hc 0 (by decide +kernel)) ao)) ao)) ao)))),?_⟩
 repeat (first | walk_at "rd" | simp only [hL])
 refine ⟨ns,rfl,by omega,fun p hp=>⟨ns,rfl,l64,fun ss' mem up p1 o7 l hl=>?_⟩⟩
 exact q l ss' _ (((aK hp _).trans (aK o7 _)).trans (aK hl _)) (((aK hp _).trans (aK o7 _)).free hl) ah up mem
end
def Kl:Sp:=fun vs H Q _=>∃W,vs=[.ref W]/\∃x:List Int,H W=some (.tup (List.map V.int x))/\x.length<=10/\
 ∀D H' bs ts,bU H H'->H D=none->H' D=some (.lst (List.map V.ref bs))->aG H' bs ts->ts.Nodup->(∀t,t∈ts↔t∈cX x)->ts.Pairwise (fun a b=>bL a b=true)->Q (.ref D) H'
section
variable {P:Program} {w:World} {K:PySem.W.Frag} {mg:Str->Option Value} {base:Heap} {t:oX}
theorem Hk (T:Txt K mg t):bO P w K mg base eL 6 t.mn t.lX ["whole"] Kl:=by
 have fB:=jD (P:=P) (w:=w) (base:=base) T
 refine T.qL.pD gJ (fun vs H Q E h=>?_) (fun cC A outer s H vs Q E hr h hc hf=>?_)
 ·obtain ⟨a,rfl,_⟩:=h;rfl
 obtain ⟨W,rfl,x,hW,lx,q⟩:=h
 refine ⟨_,(by apply au;exact (aM hc gJ.nd hf 1 (by decide +kernel) (dO (ae (iN ao) ao)));apply au;exact (dB PassesOwn.never rfl (fE (av hc 0 (by decide +kernel))) (nI hc gJ.nd hf 2 (by decide +kernel)) (by exact az (aM hc gJ.nd hf 1 (by decide +kernel) (aV yf (av hc 1 (by decide +kernel)) (dX hc ["part"] [2] rfl (by decide +kernel) (dq (av hc 1 (by decide +kernel))) (fun _ hc=>pJ hc (by decide +kernel) 0 (by decide +kernel)) (fun _ _=>fQ) (fun _ hc=>(aV v3 (av hc 0 (by decide +kernel)) (iN (ae (av hc 1 (by decide +kernel)) ao)))))))));exact az (aR (aD fB (hr.mono (by omega)) (cW hc (by decide +kernel)) T.iV T.gD.kp T.ja .nil bt (ae (av hc 1 (by decide +kernel)) ao)))),?_⟩
 repeat (walk_at "rd")
 refine ⟨by decide,fun p hp=>⟨by decide,fun L0 RL=>?_⟩⟩
 have s0:=(aK hp (.tup [])).trans (aK RL (.lst [V.ref p]))
 have Mj:upd (upd H p (.tup [])) L0 (.lst [V.ref p]) p=some (.tup []):=(aK RL _) _ _ ah
 have Vh:upd (upd H p (.tup [])) L0 (.lst [V.ref p]) L0=some (.lst [V.ref p]):=ah
 generalize upd (upd H p (.tup [])) L0 (.lst [V.ref p])=H0 at s0 Mj Vh ⊢
 refine ⟨⟨_,bR (s0 _ _ hW)⟩,?_⟩
 obtain ⟨Pv,cO⟩:∃Pv:Nat->St->Hp->Prop,∀i σ' H',Pv i σ' H'↔∃(L:Addr) (z:Option V) (bs:List Addr),σ'=[some (.ref W),some (.ref L),z]/\bU H H'/\H' L=some (.lst (List.map V.ref bs))/\aG H' bs (cX (x.take i)):=⟨_,fun _ _ _=>Iff.rfl⟩
 refine gp (xs:=List.map V.int x) Pv ((cO _ _ _).mpr ⟨L0,none,[p],rfl,s0,Vh,rfl,fun i b t h1 h2=>?_⟩) (fun i σ' H1 _ pv=>?_) (fun i z σ' H1 hz pv=>?_) (fun σ' H1 pv=>?_)
 ·have h2':([[]]:List (List Int))[i]? = some t:=h2
  cases i with
  | zero=>cases h1;cases h2';exact Mj
  | succ n=>simp at h1
 ·obtain ⟨_,_,_,_,s1,_⟩:=(cO _ _ _).mp pv
  exact s1 _ _ hW
 ·obtain ⟨L,z',bs,rfl,s1,hL,sa⟩:=(cO _ _ _).mp pv
  obtain ⟨m,em,rfl⟩:=int_at hz
  have hi:i < x.length:=(List.getElem?_eq_some_iff.mp em).1
  have et:x.take (i+1)=x.take i++[m]:=by rw [List.take_add_one,em];rfl
  have lb:bs.length<=1024:=by
   rw [sa.1,j9,List.length_take];exact vY (by omega)
  have ls:=sa.1
  repeat (walk_at "rd")
  refine ⟨⟨_,bC hL⟩,?_⟩
  refine gy (zs:=List.map V.ref bs) (fun j=>(cX (x.take i))[j]?.map (· ++ [m])) (fun _=>gH) gH.same gH.puts hL (by rw [List.length_map];omega) (fun DD c H2 j z yes no hj s2 RN RM fG wV=>?_) (fun D H2 vs s2 hD Al rl=>?_)
  ·obtain ⟨b,eb,rfl⟩:=fO hj
   have Mr:j < bs.length:=(List.getElem?_eq_some_iff.mp eb).1
   have es:(cX (x.take i))[j]? = some ((cX (x.take i))[j]'(by omega)):=List.getElem?_eq_getElem _
   have hb:=s2 _ _ (sa.2 j b _ eb es)
   have Oh:=fG ((cX (x.take i))[j]'(by omega)++[m]) (by rw [es];rfl)
   have ly:=qU (List.getElem_mem (l:=cX (x.take i)) (n:=j) (by omega))
   rw [List.length_take] at ly
   generalize (cX (x.take i))[j]'(by omega)=y at hb Oh ly
   walk_at "rc"
   repeat (walk_at "rd")
   refine ⟨by decide,fun p1 o7=>⟨_,(aK o7 _) _ _ hb,by rw [List.length_map];exact g6 (by omega),fun p2 H3 s3 _ Sv=>Oh _ _ ((aK o7 _).trans s3) ⟨p2,rfl,by rw [Sv,List.map_append];rfl⟩⟩⟩
  ·obtain ⟨cs,rfl,sc⟩:=uq rl
   rw [List.length_map,ls,qw (l:=cX (x.take i)) (g:=(· ++ [m])) fun k hk=>by rw [List.getElem?_eq_getElem hk];rfl] at sc
   have RK:=s2 _ _ hL
   repeat (first | walk_at "rd" | simp only [RK,Al])
   have lc:=sc.1
   rw [List.length_map] at lc
   refine ⟨g6 (by omega),fun p1 o7=>(cO _ _ _).mpr ⟨p1,_,bs++cs,rfl,(s1.trans s2).trans (aK o7 _),by rw [ah,List.map_append],?_⟩⟩
   rw [et,xT]
   exact ((sa.mono fun b xs e=>s2 _ _ e).app sc).mono fun b xs e=>(aK o7 _) _ _ e
 ·obtain ⟨L,z',bs,rfl,s1,hL,sa⟩:=(cO _ _ _).mp pv
  rw [List.length_map,List.take_length] at sa
  repeat (walk_at "rd")
  refine ⟨L,rfl,bs,_,hL,sa,?_,fun D H2 cs ts s2 hD Al sc nd mem pw=>q D H2 cs ts (s1.trans s2) (s1.free hD) Al sc nd mem pw⟩
  rw [sa.1,j9]
  have:=vY lx
  omega
end
local macro_rules | `(tactic| walk_at "rd") => `(tactic| walk_at "rc")
local macro_rules | `(tactic| walk_at "rl") => `(tactic| first | (refine dR fun R hR => ?_) | walk_at "ry" | (refine Nx.to (by assumption) _ _ ?_))
def zD (g:List (List Int)->List Int->Prop):Sp:=fun vs H Q _=>∃L,vs=[.ref L]/\∃as ss,H L=some (.lst (List.map V.ref as))/\aG H as ss/\as.length<=90000/\(∀x∈ss,dJ x)/\
 ∀D H' bs ts,bU H H'->H D=none->H' D=some (.lst (List.map V.ref bs))->aG H' bs ts->(∀x,x∈ts↔x∈ss/\g ss x)->ts.Pairwise (fun a b=>bL a b=true)->Q (.ref D) H'
section
variable {P:Program} {w:World} {K:PySem.W.Frag} {mg:Str->Option Value} {base:Heap} {t:oX}
theorem Hm (T:Txt K mg t):bO P w K mg base eL 6 t.mw t.lZ ["family"] (zD fun ss x=>∀y∈ss,aA y x=true->y=x):=by
 have fB:=jD (P:=P) (w:=w) (base:=base) T
 have qI:=uJ (P:=P) (w:=w) (base:=base) T
 refine T.qM.pD jv (fun vs H Q E h=>?_) (fun cC A outer s H vs Q E hr h hc hf=>?_)
 ·obtain ⟨L,rfl,_⟩:=h;rfl
 obtain ⟨L,rfl,as,ss,hL,sat,L7,rise,q⟩:=h
 refine ⟨_,(by apply au;exact (aM hc jv.nd hf 1 (by decide +kernel) (dO ao));apply au;exact (dB PassesOwn.never rfl (dq (aD fB (hr.mono (by omega)) (cW hc (by decide +kernel)) T.iV T.gD.kp T.ja .nil bt (ae (av hc 0 (by decide +kernel)) ao))) (nI hc jv.nd hf 2 (by decide +kernel)) (by exact az (cE (gI (cL (aD qI (hr.mono (by omega)) (cW hc (by decide +kernel)) T.qa T.j6.kp T.qC .nil bt (ae (av hc 2 (by decide +kernel)) (ae (av hc 1 (by decide +kernel)) ao))))) (by exact az (cZ (nL PySem.F.plainAttrs_list PySem.F.slot_list_append PySem.F.type_list_append fh (av hc 1 (by decide +kernel)) (ae (av hc 2 (by decide +kernel)) ao)))) bF)));exact az (aR (av hc 1 (by decide +kernel)))),?_⟩
 repeat (walk_at "rd")
 refine ⟨by decide,fun R hR=>?_⟩
 have sR:=aK hR (.lst [])
 refine ⟨L,rfl,as,ss,sR _ _ hL,sat.mono fun b xs e=>sR _ _ e,L7,fun D H1 bs ts s1 hD w5 st nd mem pw=>?_⟩
 have O0:H1 R=some (.lst []):=s1 _ _ ah
 have lt:ts.length<=90000:=by
  have:=cU nd fun x hx=>(mem x).mp hx
  have:=sat.1
  omega
 have hRD:R≠D:=aj ah hD
 repeat (walk_at "rd")
 refine ⟨⟨_,bC w5⟩,?_⟩
 obtain ⟨Pv,cO⟩:∃Pv:Nat->St->Hp->Prop,∀i σ' H',Pv i σ' H'↔∃(x:Option V) (cs:List Addr) (vs:List (List Int)),σ'=[some (.ref L),some (.ref R),x]/\H'=upd H1 R (.lst (List.map V.ref cs))/\aG H1 cs vs/\vs.length<=i/\gh ts []=gh (ts.drop i) vs:=⟨_,fun _ _ _=>Iff.rfl⟩
 refine eI (xs:=List.map V.ref bs) Pv ((cO _ _ _).mpr ⟨none,[],[],rfl,?_,⟨rfl,fun i b t e=>by simp at e⟩,Nat.le_refl _,rfl⟩) (fun i σ' H2 _ pv=>?_) (fun i z σ' H2 hz pv=>?_) (fun σ' H2 pv=>?_)
 ·funext b
  by_cases e:b=R
  ·rw [e,ah,O0];rfl
  ·rw [aq e]
 ·obtain ⟨_,_,_,_,rfl,_⟩:=(cO _ _ _).mp pv
  rw [aq hRD.symm];exact w5
 ·obtain ⟨y,cs,vs,rfl,rfl,sv,lv,ef⟩:=(cO _ _ _).mp pv
  obtain ⟨b,eb,rfl⟩:=fO hz
  have hi:i < bs.length:=(List.getElem?_eq_some_iff.mp eb).1
  have mE:i < ts.length:=by have:=st.1;omega
  have et:ts[i]? = some ts[i]:=List.getElem?_eq_getElem mE
  have hb:=st.2 i b _ eb et
  have k1:∀o c xs,H1 c=some (.tup xs)->upd H1 R o c=some (.tup xs):=fun o c xs e=>by rw [aq (aY e O0 (by intro z;cases z))];exact e
  rw [List.drop_eq_getElem_cons mE] at ef
  have M7:gh ts []=gh (ts.drop (i+1)) (if vs.any (fun t=>aA t ts[i]) then vs else vs++[ts[i]]):=ef
  repeat (walk_at "rd")
  refine ⟨b,R,rfl,_,cs,vs,k1 _ _ _ hb,ah,sv.mono (k1 _),?_⟩
  repeat (walk_at "rd")
  by_cases c:vs.any (fun t=>aA t ts[i])=true
  ·rw [if_neg (by rw [c];simp)]
   rw [if_pos c] at M7
   exact (cO _ _ _).mpr ⟨_,cs,vs,rfl,rfl,sv,by omega,M7⟩
  ·rw [if_pos (by rw [eq_false_of_ne_true c];rfl)]
   rw [if_neg c] at M7
   refine ⟨.inl ⟨rfl,_,bC ah⟩,by rw [sv.1];exact uj (by omega),?_⟩
   exact (cO _ _ _).mpr ⟨_,cs++[b],vs++[ts[i]],rfl,by rw [List.map_append];rfl,sv.snoc hb,by rw [List.length_append];simp;omega,M7⟩
 ·obtain ⟨y,cs,vs,rfl,rfl,sv,lv,ef⟩:=(cO _ _ _).mp pv
  have ln:(List.map V.ref bs).length=ts.length:=by rw [List.length_map,st.1]
  rw [ln,List.drop_length] at ef
  have ev:vs=gh ts []:=ef.symm
  repeat (walk_at "rd")
  have rt:∀x∈ts,dJ x:=fun x hx=>rise x ((mem x).mp hx)
  obtain ⟨l,el,sl⟩:=lQ ts []
  rw [List.nil_append] at el
  have k1:∀o c xs,H1 c=some (.tup xs)->upd H1 R o c=some (.tup xs):=fun o c xs e=>by rw [aq (aY e O0 (by intro z;cases z))];exact e
  refine q R _ cs vs (fun c u e=>?_) hR ah (sv.mono (k1 _)) (fun x=>?_) (by rw [ev,el];exact pw.sublist sl)
  ·rw [aq (aj e hR)];exact s1 _ _ (sR _ _ e)
  ·rw [ev]
   have:=qg ts [] [] (by simpa using rt) (by simpa using pw) (fun x=>by simp) x
   rw [List.nil_append] at this
   rw [this]
   constructor
   ·rintro ⟨h1,h2⟩
    exact ⟨(mem x).mp h1,fun y hy=>h2 y ((mem y).mpr hy)⟩
   ·rintro ⟨h1,h2⟩
    exact ⟨(mem x).mpr h1,fun y hy=>h2 y ((mem y).mp hy)⟩
end
section
variable {P:Program} {w:World} {K:PySem.W.Frag} {mg:Str->Option Value} {base:Heap} {t:oX}
theorem v9 (T:Txt K mg t):bO P w K mg base eL 6 t.ia t.hX ["family"] (zD fun ss x=>∀y∈ss,aA x y=true->y=x):=by
 have fB:=jD (P:=P) (w:=w) (base:=base) T
 have oB:=v8 (P:=P) (w:=w) (base:=base) T
 refine T.kW.pD gb (fun vs H Q E h=>?_) (fun cC A outer s H vs Q E hr h hc hf=>?_)
 ·obtain ⟨L,rfl,_⟩:=h;rfl
 obtain ⟨L,rfl,as,ss,hL,sat,L7,rise,q⟩:=h
 refine ⟨_,(by apply au;exact (aM hc gb.nd hf 1 (by decide +kernel) (dO ao));apply au;exact (dB PassesOwn.never rfl (J7 (cW hc (by decide +kernel)) T.z_reversed (ae (aD fB (hr.mono (by omega)) (cW hc (by decide +kernel)) T.iV T.gD.kp T.ja .nil bt (ae (av hc 0 (by decide +kernel)) ao)) ao)) (nI hc gb.nd hf 2 (by decide +kernel)) (by exact az (cE (gI (cL (aD oB (hr.mono (by omega)) (cW hc (by decide +kernel)) T.nV T.iI.kp T.ox .nil bt (ae (av hc 2 (by decide +kernel)) (ae (av hc 1 (by decide +kernel)) ao))))) (by exact az (cZ (nL PySem.F.plainAttrs_list PySem.F.slot_list_append PySem.F.type_list_append fh (av hc 1 (by decide +kernel)) (ae (av hc 2 (by decide +kernel)) ao)))) bF)));exact az (aR (aD fB (hr.mono (by omega)) (cW hc (by decide +kernel)) T.iV T.gD.kp T.ja .nil bt (ae (av hc 1 (by decide +kernel)) ao)))),?_⟩
 repeat (walk_at "rd")
 refine ⟨by decide,fun R hR=>?_⟩
 have sR:=aK hR (.lst [])
 refine ⟨L,rfl,as,ss,sR _ _ hL,sat.mono fun b xs e=>sR _ _ e,L7,fun D H1 bs ts s1 hD w5 st nd mem pw=>?_⟩
 have O0:H1 R=some (.lst []):=s1 _ _ ah
 have lt:ts.length<=90000:=by
  have:=cU nd fun x hx=>(mem x).mp hx
  have:=sat.1
  omega
 have hRD:R≠D:=aj ah hD
 have str:=st.rev
 repeat (walk_at "rd")
 refine ⟨_,bC w5,?_⟩
 obtain ⟨Pv,cO⟩:∃Pv:Nat->St->Hp->Prop,∀i σ' H',Pv i σ' H'↔∃(x:Option V) (cs:List Addr) (vs:List (List Int)),σ'=[some (.ref L),some (.ref R),x]/\H'=upd H1 R (.lst (List.map V.ref cs))/\aG H1 cs vs/\vs.length<=i/\gk ts.reverse []=gk (ts.reverse.drop i) vs:=⟨_,fun _ _ _=>Iff.rfl⟩
 refine yS (xs:=List.map V.ref bs) Pv ((cO _ _ _).mpr ⟨none,[],[],rfl,?_,⟨rfl,fun i b t e=>by simp at e⟩,Nat.le_refl _,rfl⟩) (fun i σ' H2 _ pv=>?_) (fun i z σ' H2 hz pv=>?_) (fun σ' H2 pv=>?_)
 ·funext b
  by_cases e:b=R
  ·rw [e,ah,O0];rfl
  ·rw [aq e]
 ·obtain ⟨_,_,_,_,rfl,_⟩:=(cO _ _ _).mp pv
  rw [aq hRD.symm];exact w5
 ·obtain ⟨y,cs,vs,rfl,rfl,sv,lv,ef⟩:=(cO _ _ _).mp pv
  rw [<-List.map_reverse] at hz
  obtain ⟨b,eb,rfl⟩:=fO hz
  have hi:i < bs.reverse.length:=(List.getElem?_eq_some_iff.mp eb).1
  have mE:i < ts.reverse.length:=by have:=str.1;omega
  have hi3:i < 90000:=by rw [List.length_reverse] at mE;omega
  have et:ts.reverse[i]? = some ts.reverse[i]:=List.getElem?_eq_getElem mE
  have hb:=str.2 i b _ eb et
  have k1:∀o c xs,H1 c=some (.tup xs)->upd H1 R o c=some (.tup xs):=fun o c xs e=>by rw [aq (aY e O0 (by intro z;cases z))];exact e
  rw [List.drop_eq_getElem_cons mE] at ef
  have M7:gk ts.reverse []=gk (ts.reverse.drop (i+1)) (if vs.any (fun t=>aA ts.reverse[i] t) then vs else vs++[ts.reverse[i]]):=ef
  repeat (walk_at "rd")
  refine ⟨b,R,rfl,_,cs,vs,k1 _ _ _ hb,ah,sv.mono (k1 _),?_⟩
  repeat (walk_at "rd")
  by_cases c:vs.any (fun t=>aA ts.reverse[i] t)=true
  ·rw [if_neg (by rw [c];simp)]
   rw [if_pos c] at M7
   exact (cO _ _ _).mpr ⟨_,cs,vs,rfl,rfl,sv,by omega,M7⟩
  ·rw [if_pos (by rw [eq_false_of_ne_true c];rfl)]
   rw [if_neg c] at M7
   refine ⟨.inl ⟨rfl,_,bC ah⟩,by rw [sv.1];exact uj (by omega),?_⟩
   exact (cO _ _ _).mpr ⟨_,cs++[b],vs++[ts.reverse[i]],rfl,by rw [List.map_append];rfl,sv.snoc hb,by rw [List.length_append];simp;omega,M7⟩
 ·obtain ⟨y,cs,vs,rfl,rfl,sv,lv,ef⟩:=(cO _ _ _).mp pv
  have ln:(List.map V.ref bs).length=ts.reverse.length:=by rw [List.length_map,st.1,List.length_reverse]
  rw [ln,List.drop_length] at ef
  have ev:vs=gk ts.reverse []:=ef.symm
  repeat (walk_at "rd")
  have rt:∀x∈ts,dJ x:=fun x hx=>rise x ((mem x).mp hx)
  obtain ⟨l,el,sl⟩:=lU ts.reverse []
  rw [List.nil_append] at el
  have k1:∀o c xs,H1 c=some (.tup xs)->upd H1 R o c=some (.tup xs):=fun o c xs e=>by rw [aq (aY e O0 (by intro z;cases z))];exact e
  have mv:∀x,x∈vs↔x∈ts/\∀y∈ts,aA x y=true->y=x:=fun x=>by
   rw [ev]
   have:=qq ts.reverse [] [] (by simpa using rt) (by rw [List.nil_append,List.pairwise_reverse];exact pw) (fun x=>by simp) (fun y hy=>by simp at hy) x
   rw [List.nil_append] at this
   simpa using this
  have lv2:vs.length<=ts.length:=by rw [ev,el];have:=sl.length_le;rwa [List.length_reverse] at this
  have sH:bU H (upd H1 R (.lst (List.map V.ref cs))):=fun c u e=>by rw [aq (aj e hR)];exact s1 _ _ (sR _ _ e)
  refine ⟨R,rfl,cs,vs,ah,sv.mono (k1 _),by rw [sv.1];omega,fun D2 H3 bs2 ts2 s3 Al Dn Eg nd2 Z8 YZ=>q D2 H3 bs2 ts2 (sH.trans s3) (sH.free Al) Dn Eg (fun x=>?_) YZ⟩
  rw [Z8 x,mv x]
  constructor
  ·rintro ⟨h1,h2⟩
   exact ⟨(mem x).mp h1,fun y hy=>h2 y ((mem y).mpr hy)⟩
  ·rintro ⟨h1,h2⟩
   exact ⟨(mem x).mpr h1,fun y hy=>h2 y ((mem y).mp hy)⟩
end
local macro_rules | `(tactic| walk_at "rd") => `(tactic| walk_at "rc")
local macro_rules | `(tactic| walk_at "rc") => do
  let ids := ("L2.start BK rR BM vJ tB Fl X4 vI tC pV cV Jd Fj Fi vM vN rX BL Py xR pQ Fn Fh Gm rI rU W2 W0 FT vO Sn Gy KR P9 KN KJ zN zP zO uE x6 pz x8 x9 uC Gv p6 zS Qc pZ xS Gx Qa GF KY Qb KS KQ Tp vK mR P8 Ts Pz px uA p5 xZ uB nU Ky Pw Fs Tr Fm Fq Px vL X5 List.map_cons List.map_nil List.cons_append List.nil_append List.append_nil List.length_cons List.length_nil List.replicate List.getElem?_cons_zero List.getElem?_cons_succ List.set_cons_zero List.set_cons_succ Nat.reduceAdd Nat.reduceSub Nat.reduceLeDiff Option.some.injEq V.int.injEq V.ref.injEq V.str.injEq V.bl.injEq V.ty.injEq List.cons.injEq HO.lst.injEq HO.tup.injEq HO.dK.injEq exists_eq_left exists_eq_left' exists_and_left and_true true_and and_assoc exists_const reduceCtorEq ah pj decide_eq_true_eq List.length_map ite_true ite_false Bool.false_eq_true Bool.true_and Bool.and_true xB Bi Bh Bg JL JK yI yH yF yE yD Jv Ju Jt Js y4 y3 y0 yZ yU bQ Option.join_some Option.join_none pR t9 wR Ia HY zQ pP pO zR GJ GK uz P' nU Gw uD ke wU Ib HX t8 Fg Int.zero_add Int.reduceMul Int.reduceAdd Int.reduceSub Int.reduceLT Int.reduceLE Int.reducePow Int.reduceToNat Int.reduceNeg gt_iff_lt ge_iff_le uh hv".splitOn " ").toArray.map fun x => Lean.mkIdent x.toName
  `(tactic| simp only [$[$ids:ident],*])
section
variable {P:Program} {w:World} {K:PySem.W.Frag} {mg:Str->Option Value} {base:Heap} {t:oX}
theorem z6 (T:Txt K mg t):bO P w K mg base eL 1 t.jW t.jN ["_law_hand_here"] uh:=by
 refine T.fN.pD uv (fun vs H Q E h=>?_) (fun cC A outer s H vs Q E hr h hc hf=>?_)
 ·obtain ⟨h,rfl,_⟩:=h;rfl
 obtain ⟨h,rfl,l,a,b,c,d,e,hh,q⟩:=h
 refine ⟨_,(by apply au;exact (iL (aV jC (aV jB (bE iu (av hc 0 (by decide +kernel)) ai (fun _ _=>rfl)) ai) ai) (iM (av hc 0 (by decide +kernel)) ai mX));apply au;exact (iL (aV jC (aV jB (bE iu (av hc 0 (by decide +kernel)) ai (fun _ _=>rfl)) ai) ai) (iM (av hc 0 (by decide +kernel)) ai mX));exact az (aR (aV eO (bE iu (av hc 0 (by decide +kernel)) ai (fun _ _=>rfl)) (bE iu (av hc 0 (by decide +kernel)) ai (fun _ _=>rfl))))),?_⟩
 unfold hv at *
 walk_at "rd"
 simp only [hh]
 walk_at "rd"
 exact q
theorem Lr (T:Txt K mg t):bO P w K mg base eL 2 t.jU t.jL ["_law_hand_here"] PB:=by
 have fL:=z6 (P:=P) (w:=w) (base:=base) T
 refine T.oU.pD iR (fun vs H Q E h=>?_) (fun cC A outer s H vs Q E hr h hc hf=>?_)
 ·obtain ⟨h,rfl,_⟩:=h;rfl
 obtain ⟨h,rfl,l,ns,o,hh,⟨a,b,c,d,e,rfl,ha⟩,hl,q⟩:=h
 refine ⟨_,(by apply au;exact (aM hc iR.nd hf 1 (by decide +kernel) ai);apply js;exact (cE (bK N5 (bE iu (av hc 0 (by decide +kernel)) ai (fun _ _=>rfl)) (bA iD (cW hc (by decide +kernel)) T.z_len jS (ae (bE iu (av hc 0 (by decide +kernel)) ai (fun _ _=>rfl)) ao)) (dk _)) (by exact az (aM hc iR.nd hf 1 (by decide +kernel) (bA JB (cW hc (by decide +kernel)) T.z_abs Ws (ae (bE iu (bE iu (av hc 0 (by decide +kernel)) ai (fun _ _=>rfl)) (bE iu (av hc 0 (by decide +kernel)) ai (fun _ _=>rfl)) (fun _ _=>rfl)) ao)))) bF);apply au;exact (vB (av hc 0 (by decide +kernel)) ai O5 ai HW mX);apply js;exact (cE (bK Uo (av hc 1 (by decide +kernel)) (aV uH ai ai) (dk _)) (by exact az (iL (av hc 1 (by decide +kernel)) (iM (av hc 0 (by decide +kernel)) ai mX))) (by exact az (iL ai (iM (av hc 0 (by decide +kernel)) ai mX))));apply au;exact (iL (aV eO (aV jC (aV eO (bE iu (av hc 0 (by decide +kernel)) ai (fun _ _=>rfl)) (aV jC (av hc 1 (by decide +kernel)) ai)) ai) ai) (iM (av hc 0 (by decide +kernel)) ai mX));apply au;exact (iL (aV eO (aV jC (aV eO (aV jB (bE iu (av hc 0 (by decide +kernel)) ai (fun _ _=>rfl)) ai) (aV jC (av hc 1 (by decide +kernel)) ai)) ai) ai) (iM (av hc 0 (by decide +kernel)) ai mX));apply au;exact (cZ (aD fL (hr.mono (by omega)) (cW hc (by decide +kernel)) T.gN T.fN.kp T.gQ .nil bt (ae (av hc 0 (by decide +kernel)) ao)));exact az (cZ (aD fL (hr.mono (by omega)) (cW hc (by decide +kernel)) T.gN T.fN.kp T.gQ .nil bt (ae (av hc 0 (by decide +kernel)) ao)))),?_⟩
 unfold hv at *
 walk_at "rd"
 refine ⟨fun σ' H'=>∃z,σ'=[some (.ref h),some (.int z)]/\H'=H,?_,?_⟩
 ·repeat (first | walk_at "rd" | simp only [hh,hl])
  split
  ·rename_i gi
   obtain ⟨v,Ma⟩:=JH ha gi
   rw [Ma]
   walk_at "rd"
   exact ⟨_,rfl⟩
  ·exact ⟨_,rfl⟩
 ·rintro σ' H' ⟨z,e1,e2⟩
  subst e1 e2
  repeat (first | walk_at "rd" | simp only [hh,hl])
  refine ⟨fun σ' qH=>∃b' c',σ'=[some (.ref h),some (.int z)]/\qH=upd H' h (.lst [.ref l,.int (a+1),.int b',.int c',.int d,.int e]),?_,?_⟩
  ·repeat (first | walk_at "rd" | simp only [hh,hl])
   split
   ·exact ⟨_,_,rfl⟩
   ·exact ⟨_,_,rfl⟩
  ·rintro σ' qH ⟨b',c',e1,e2⟩
   subst e1 e2
   repeat (first | walk_at "rd" | simp only [hh,hl])
   exact q _ ⟨_,_,_,_,_,rfl,by omega⟩
theorem pC (T:Txt K mg t):bO P w K mg base eL 3 t.jY t.jP ["_law_hand_here","_law_many"] FG:=by
 have fL:=z6 (P:=P) (w:=w) (base:=base) T
 have xC:=Lr (P:=P) (w:=w) (base:=base) T
 refine T.bp.pD dD (fun vs H Q E h=>?_) (fun cC A outer s H vs Q E hr h hc hf=>?_)
 ·obtain ⟨h,m,rfl,_⟩:=h;rfl
 obtain ⟨h,m,rfl,hm,Vf,l,ns,o,hh,⟨a,b,c,d,e,rfl,ha⟩,hl,q⟩:=h
 refine ⟨_,(by apply js;exact (cE (pL (pd (bK oG (bE iu (av hc 0 (by decide +kernel)) ai (fun _ _=>rfl)) ai (dk _)) (mH (bK oG (bE iu (av hc 0 (by decide +kernel)) ai (fun _ _=>rfl)) ai (dk _))))) (by exact az (cZ (aD xC (hr.mono (by omega)) (cW hc (by decide +kernel)) T.wu T.oU.kp T.xr .nil bt (ae (av hc 0 (by decide +kernel)) ao)))) bF);apply au;exact (cE (bK Hi (bE iu (av hc 0 (by decide +kernel)) ai (fun _ _=>rfl)) ai (dk _)) (by apply au;exact (aM hc dD.nd hf 2 (by decide +kernel) (aV jC (bE iu (av hc 0 (by decide +kernel)) ai (fun _ _=>rfl)) (av hc 1 (by decide +kernel))));apply au;exact (iL (aV Hj (bE iu (av hc 0 (by decide +kernel)) ai (fun _ _=>rfl)) (av hc 1 (by decide +kernel))) (iM (av hc 0 (by decide +kernel)) ai mX));exact az (aR (av hc 2 (by decide +kernel)))) bF);apply au;exact (vB (av hc 0 (by decide +kernel)) ai O5 ai Q9 mX);apply au;exact (aM hc dD.nd hf 3 (by decide +kernel) (aD fL (hr.mono (by omega)) (cW hc (by decide +kernel)) T.gN T.fN.kp T.gQ .nil bt (ae (av hc 0 (by decide +kernel)) ao)));apply au;exact (aM hc dD.nd hf 4 (by decide +kernel) ai);apply au;exact (rH PassesOwn.never (bK N5 (av hc 4 (by decide +kernel)) (av hc 1 (by decide +kernel)) (dk _)) (by apply au;exact (aM hc dD.nd hf 3 (by decide +kernel) (aV eO (aV jB (av hc 3 (by decide +kernel)) ai) (aD fL (hr.mono (by omega)) (cW hc (by decide +kernel)) T.gN T.fN.kp T.gQ .nil bt (ae (av hc 0 (by decide +kernel)) ao))));exact az (aM hc dD.nd hf 4 (by decide +kernel) (aV jB (av hc 4 (by decide +kernel)) ai))));exact az (aR (aV jC (av hc 3 (by decide +kernel)) (av hc 1 (by decide +kernel))))),?_⟩
 unfold hv at *
 walk_at "rd"
 refine ⟨fun σ' H'=>∃a b c d e,σ'=[some (.ref h),some (.int m),none,none,none]/\H'=upd H h (hv l a b c d e)/\0<=a,?_,?_⟩
 ·have same:H=upd H h (hv l a b c d e):=by
   funext x;unfold upd;split
   ·rename_i e;rw [e,hh];rfl
   ·rfl
  repeat (first | walk_at "rd" | simp only [hh,hl])
  by_cases hb:b=0
  ·by_cases hc:c=0
   ·simp only [hb,hc,if_true]
    repeat (first | walk_at "rd" | simp only [hh,hl])
    refine ⟨h,rfl,l,ns,_,hh,⟨a,b,c,d,e,by rw [hb,hc];rfl,ha⟩,hl,?_⟩
    rintro o' ⟨a',b',c',d',e',rfl,OD⟩
    exact ⟨a',b',c',d',e',rfl,OD⟩
   ·simp only [hb,hc,if_true,if_false,Bool.false_eq_true]
    exact ⟨a,b,c,d,e,same,ha⟩
  ·simp only [hb,if_false,Bool.false_eq_true]
   exact ⟨a,b,c,d,e,same,ha⟩
 ·rintro σ' H' ⟨a,b,c,d,e,e1,e2,ha⟩
  subst e1 e2
  repeat (first | walk_at "rd" | simp only [hh,hl])
  split
  ·rename_i hb
   refine ⟨by omega,⟨by omega,Vf⟩,q _ _ (Int.emod_nonneg _ (by omega)) (Int.emod_lt_of_pos _ (by omega)) ⟨_,_,_,_,_,rfl,ha⟩⟩
  ·rename_i hb
   obtain ⟨W,hW⟩:∃W:Nat->St->Hp->Prop,∀μ σ' H',W μ σ' H'↔∃v z a b c d e:Int,μ=(m - z).toNat/\σ'=[some (.ref h),some (.int m),none,some (.int v),some (.int z)]/\H'=upd H h (hv l a b c d e)/\0<=a/\1<=z:=⟨_,fun _ _ _=>Iff.rfl⟩
   refine ⟨W,⟨_,(hW _ _ _).mpr ⟨_,_,_,_,_,_,_,rfl,rfl,rfl,ha,by omega⟩⟩,?_⟩
   intro μ σ' H' hw'
   obtain ⟨v,z,a,b,c,d,e,rfl,e1,e2,ha,hz⟩:=(hW _ _ _).mp hw'
   subst e1 e2
   walk_at "rd"
   split
   ·rename_i gi
    obtain ⟨N,hN⟩:∃N:St->Hp->Prop,∀σ' H',N σ' H'↔∃v z' a b c d e:Int,σ'=[some (.ref h),some (.int m),none,some (.int v),some (.int z')]/\H'=upd H h (hv l a b c d e)/\0<=a/\z'=z * 4294967296:=⟨_,fun _ _=>Iff.rfl⟩
    refine ⟨N,fun σ' H' hn=>?_,?_⟩
    ·obtain ⟨v,z',a,b,c,d,e,e1,e2,ha,e3⟩:=(hN _ _).mp hn
     exact ⟨(m - z').toNat,by omega,(hW _ _ _).mpr ⟨v,z',a,b,c,d,e,rfl,e1,e2,ha,by omega⟩⟩
    ·repeat (first | walk_at "rd" | simp only [hh,hl])
     exact (hN _ _).mpr ⟨_,_,_,_,_,_,_,rfl,rfl,ha,rfl⟩
   ·refine ⟨by omega,q _ _ (Int.emod_nonneg _ (by omega)) (Int.emod_lt_of_pos _ (by omega)) ⟨_,_,_,_,_,rfl,ha⟩⟩
end
section
variable {P:Program} {w:World} {K:PySem.W.Frag} {mg:Str->Option Value} {base:Heap} {t:oX}
theorem Lx (T:Txt K mg t):bO P w K mg base eL 1 t.jX t.jO ["_law_script"] (PX K):=by
 refine T.oW.pD uw (fun vs H Q E h=>?_) (fun cC A outer s H vs Q E hr h hc hf=>?_)
 ·obtain ⟨a,ns,rfl,_⟩:=h;rfl
 obtain ⟨a,ns,rfl,hS,q⟩:=h
 refine ⟨_,(by exact az (aR (dO (ae (dQ y8 (cW hc (by decide +kernel)) T.z_list JG (ae (nJ zG (av hc 0 (by decide +kernel)) vC (mL ai)) ao)) (ae ai (ae ai (ae ai (ae ai (ae ai ao))))))))),?_⟩
 walk_at "rd"
 refine ⟨a,List.map V.int ns,rfl,hS,fun p hp=>?_⟩
 rw [xg]
 walk_at "rd"
 refine fun l hl=>⟨by decide,fun h hh=>?_⟩
 have s1:=aK hp (.lst (List.map V.int ((ns.drop (HT.cJ ns.length 0 none)).take (HT.cJ ns.length ns.length (some 63) - HT.cJ ns.length 0 none))))
 have s2:=aK hl (.lst (List.map V.int ((ns.drop (HT.cJ ns.length 0 none)).take (HT.cJ ns.length ns.length (some 63) - HT.cJ ns.length 0 none))))
 have s3:=aK hh (hv l 0 0 0 20011 40009)
 exact q h _ (s1.trans (s2.trans s3)) ((s1.trans s2).free hh) ⟨l,_,_,ah,⟨_,_,_,_,_,rfl,Int.le_refl 0⟩,s3 _ _ ah⟩
end
local macro_rules | `(tactic| walk_at "rd") => `(tactic| walk_at "rc")
local macro_rules | `(tactic| walk_at "rl") => `(tactic| first | (refine dR fun R hR => ?_) | walk_at "ry" | (refine Nx.to (by assumption) _ _ ?_))
def Fx:Sp:=fun vs H Q _=>∃a b,vs=[.ref a,.ref b]/\∃x y:List Int,H a=some (.tup (List.map V.int x))/\H b=some (.tup (List.map V.int y))/\x.length<=900/\∀H',bU H H'->Q (.bl (aA x y)) H'
section
variable {P:Program} {w:World} {K:PySem.W.Frag} {mg:Str->Option Value} {base:Heap} {t:oX}
theorem Cu (T:Txt K mg t):bO P w K mg base eL 1 t.fz t.fk ["_law_one","_law_other"] Fx:=by
 refine T.fD.pD mY (fun vs H Q E h=>?_) (fun cC A outer s H vs Q E hr h hc hf=>?_)
 ·obtain ⟨a,b,rfl,_⟩:=h;rfl
 obtain ⟨a,b,rfl,x,y,ha,hb,lx,q⟩:=h
 refine ⟨_,(by exact az (aR (bA (DQ hr.hd) (cW hc (by decide +kernel)) T.z_all Wr (ae (dX hc ["_law_member"] [1] rfl (by decide +kernel) (fE (av hc 0 (by decide +kernel))) (fun _ hc=>pJ hc (by decide +kernel) 0 (by decide +kernel)) (fun _ _=>fQ) (fun _ hc=>(mO Qy (av hc 0 (by decide +kernel)) (av hc 1 (by decide +kernel)) (by with_unfolding_all rfl)))) ao)))),?_⟩
 repeat (walk_at "rl")
 refine ⟨⟨_,bR ha⟩,?_⟩
 refine oq (zs:=List.map V.int x) (fun j=>x[j]?.map fun m=>V.bl (decide (m∈y))) (fun _=>Nv) (fun _ _ _ _ _ _ r=>r) (fun _ _ _ _ _ _ _ r=>r) ha (by rw [List.length_map];omega) (fun DD c H4 j z yes no hj s4 RN RM fG wV=>?_) (fun D H4 vs s4 hD vy rl=>?_)
 ·obtain ⟨m,em,rfl⟩:=int_at hj
  rw [em] at fG
  walk_at "rc"
  repeat (walk_at "rl")
  refine ⟨_,s4 _ _ hb,rfl,og _,?_⟩
  rw [ql]
  exact fG _ rfl _ _ (fun _ _ e=>e) rfl
 have ev:=t7 rl
 rw [List.length_map,qw (l:=x) (g:=fun m=>V.bl (decide (m∈y))) fun k hk=>by rw [List.getElem?_eq_getElem hk];rfl] at ev
 subst ev
 refine ⟨D,rfl,x.map fun m=>decide (m∈y),by rw [vy,List.map_map];rfl,?_⟩
 rw [List.all_map]
 exact q _ s4
end
def BV:Sp:=fun vs H Q _=>∃h most,vs=[.ref h,.int most]/\∃n:Nat,most=(n:Int)/\n<=12/\dW H h/\∀R ms H',Dr h H H'->H R=none->H' R=some (.tup (List.map V.int ms))->ms.length<=n->dJ ms->Q (.ref R) H'
theorem vH {r a b c:Int} (r0:0<=r) (r1:r < 3):∃z,tV [V.int a,V.int b,V.int c] r=some (.int z)/\(z=a\/z=b\/z=c):=by
 have h:r=0\/r=1\/r=2:=by omega
 rcases h with rfl | rfl | rfl
 ·exact ⟨a,rfl,.inl rfl⟩
 ·exact ⟨b,rfl,.inr (.inl rfl)⟩
 ·exact ⟨c,rfl,.inr (.inr rfl)⟩
section
variable {P:Program} {w:World} {K:PySem.W.Frag} {mg:Str->Option Value} {base:Heap} {t:oX}
theorem yh (T:Txt K mg t):bO P w K mg base eL 4 t.gB t.gx ["_law_hand_here","_law_most"] BV:=by
 have aW:=pC (P:=P) (w:=w) (base:=base) T
 refine T.j7.pD bZ (fun vs H Q E h=>?_) (fun cC A outer s H vs Q E hr h hc hf=>?_)
 ·obtain ⟨h,m,rfl,_⟩:=h;rfl
 obtain ⟨h,_,rfl,n,rfl,hn,hd,q⟩:=h
 refine ⟨_,(by apply au;exact (aM hc bZ.nd hf 2 (by decide +kernel) (bE iu (dO (ae ai (ae (aV uH ai ai) (ae (aV uH ai ai) ao)))) (aD aW (hr.mono (by omega)) (cW hc (by decide +kernel)) T.bu T.bp.kp T.bz .nil bt (ae (av hc 0 (by decide +kernel)) (ae ai ao))) (fun _ _=>rfl)));apply au;exact (aM hc bZ.nd hf 3 (by decide +kernel) (bE iu (dO (ae ai (ae ai (ae (aV uH ai ai) ao)))) (aD aW (hr.mono (by omega)) (cW hc (by decide +kernel)) T.bu T.bp.kp T.bz .nil bt (ae (av hc 0 (by decide +kernel)) (ae ai ao))) (fun _ _=>rfl)));apply au;exact (aM hc bZ.nd hf 4 (by decide +kernel) (aV Hh (aD aW (hr.mono (by omega)) (cW hc (by decide +kernel)) T.bu T.bp.kp T.bz .nil bt (ae (av hc 0 (by decide +kernel)) (ae (aV eO (aV jB ai (av hc 2 (by decide +kernel))) ai) ao))) (av hc 2 (by decide +kernel))));apply au;exact (aM hc bZ.nd hf 5 (by decide +kernel) (dO ao));apply au;exact (dB PassesOwn.never rfl (pI (cW hc (by decide +kernel)) T.z_range (ae (aD aW (hr.mono (by omega)) (cW hc (by decide +kernel)) T.bu T.bp.kp T.bz .nil bt (ae (av hc 0 (by decide +kernel)) (ae (aV eO (av hc 1 (by decide +kernel)) ai) ao))) ao)) (nI hc bZ.nd hf 6 (by decide +kernel)) (by apply au;exact (cZ (nL PySem.F.plainAttrs_list PySem.F.slot_list_append PySem.F.type_list_append fh (av hc 5 (by decide +kernel)) (ae (av hc 4 (by decide +kernel)) ao)));exact az (Et hc bZ.nd hf 4 (by decide +kernel) (aV eO ai (aD aW (hr.mono (by omega)) (cW hc (by decide +kernel)) T.bu T.bp.kp T.bz .nil bt (ae (av hc 0 (by decide +kernel)) (ae (av hc 3 (by decide +kernel)) ao)))) HW)));exact az (aR (dQ fJ (cW hc (by decide +kernel)) T.z_tuple kl (ae (av hc 5 (by decide +kernel)) ao)))),?_⟩
 repeat (walk_at "rd")
 refine ⟨⟨by decide,by decide,by decide⟩,⟨by decide,by decide,by decide⟩,by decide,fun p hp=>?_⟩
 have d0:=(Dr.refl (h:=h) (H:=H)).new (o:=.lst [V.int 3,V.int 1000000,V.int 1000000000000000000000000000000000000000000000000000000000000]) hp
 have Rn:p≠h:=hd.ne hp
 refine cP hd d0 (by decide) (by decide) fun r H1 r0 r1 d1 k1=>?_
 obtain ⟨z,ez,hz⟩:=vH (a:=3) (b:=1000000) (c:=1000000000000000000000000000000000000000000000000000000000000) r0 r1
 refine ⟨_,rfl,_,by rw [k1 p Rn];exact ah,_,ez,⟨by decide,by decide,by decide⟩,by decide,fun p2 Sv=>?_⟩
 have d2:=d1.new (o:=.lst [V.int 1,V.int 5,V.int 1000000000]) Sv
 have aAA:p2≠h:=(d1.fi hd).ne Sv
 refine cP hd d2 (by decide) (by decide) fun r' H2 r0' r1' d3 k3=>?_
 obtain ⟨st,es,hs⟩:=vH (a:=1) (b:=5) (c:=1000000000) r0' r1'
 have Og:1<=z/\z<=1000000000000000000000000000000000000000000000000000000000000:=by omega
 have hs1:1<=st/\st<=1000000000:=by omega
 refine ⟨_,rfl,_,by rw [k3 p2 aAA];exact ah,_,es,?_⟩
 repeat (walk_at "rd")
 refine ⟨.inl (by decide),cP hd d3 (by omega) (by omega) fun tW H3 a0 a1 d4 k4=>⟨_,rfl,by decide,fun R VB=>?_⟩⟩
 have hR:H R=none:=d4.free hd VB
 have hRh:R≠h:=hd.ne hR
 refine cP hd (d4.new VB) (by omega) (by omega) fun nn H4 n0 n1 d5 k5=>?_
 have hR4:H4 R=some (.lst []):=(k5 R hRh).trans ah
 obtain ⟨m,rfl⟩:∃m:Nat,nn=(m:Int):=⟨nn.toNat,by omega⟩
 refine ⟨_,rfl,by omega,by omega,?_⟩
 obtain ⟨Pv,cO⟩:∃Pv:Nat->St->Hp->Prop,∀i σ' H',Pv i σ' H'↔∃(v:Int) (y:Option V) (ms:List Int),σ'=[some (.ref h),some (.int (n:Int)),some (.int z),some (.int st),some (.int v),some (.ref R),y]/\Dr h H H'/\H' R=some (.lst (List.map V.int ms))/\ms.length=i/\dJ ms/\∀m∈ms,m < v:=⟨_,fun _ _ _=>Iff.rfl⟩
 refine yR Pv ((cO _ _ _).mpr ⟨_,none,[],rfl,d5,hR4,rfl,List.Pairwise.nil,fun k hk=>by cases hk⟩) (fun i σ' H4 hi pv=>?_) (fun σ' H4 pv=>?_)
 ·obtain ⟨v,y,ms,rfl,d5,Xs,lm,rise,below⟩:=(cO _ _ _).mp pv
  rw [Int.toNat_natCast] at hi
  repeat (first | walk_at "rd" | simp only [Xs])
  refine ⟨.inl ⟨rfl,_,bC Xs⟩,bY (by omega),?_⟩
  simp only [Kg,Sn]
  repeat (walk_at "rd")
  refine cP hd (d5.put hR) (by omega) (by omega) fun r H6 r0 r1 d6 k6=>?_
  refine ⟨_,rfl,(cO _ _ _).mpr ⟨_,_,ms++[v],rfl,d6,by rw [k6 R hRh,ah,List.map_append];rfl,by rw [List.length_append];simp;omega,?_,fun m hm=>?_⟩⟩
  ·unfold dJ
   rw [List.pairwise_append]
   exact ⟨rise,by simp,fun a ha b hb=>by rw [show b=v by simpa using hb];exact below a ha⟩
  ·rcases List.mem_append.mp hm with u | u
   ·have:=below m u;omega
   ·have:m=v:=by simpa using u
    omega
 ·obtain ⟨v,y,ms,rfl,d5,Xs,lm,rise,below⟩:=(cO _ _ _).mp pv
  rw [Int.toNat_natCast] at lm
  repeat (first | walk_at "rd" | simp only [Xs])
  exact fun p hp=>q p ms _ (d5.new hp) (d5.free hd hp) ah (by omega) rise
end
def PJ:Sp:=fun vs H Q _=>∃h W,vs=[.ref h,.ref W]/\dW H h/\∃x:List Int,H W=some (.tup (List.map V.int x))/\x.length<=100/\∀R y H',Dr h H H'->H R=none->H' R=some (.tup (List.map V.int y))->y.Sublist x->Q (.ref R) H'
section
variable {P:Program} {w:World} {K:PySem.W.Frag} {mg:Str->Option Value} {base:Heap} {t:oX}
theorem z5 (T:Txt K mg t):bO P w K mg base eL 4 t.jV t.jM ["_law_hand_here","_law_whole"] PJ:=by
 have aW:=pC (P:=P) (w:=w) (base:=base) T
 refine T.oV.pD ur (fun vs H Q E h=>?_) (fun cC A outer s H vs Q E hr h hc hf=>?_)
 ·obtain ⟨h,m,rfl,_⟩:=h;rfl
 obtain ⟨h,W,rfl,hd,x,hW,lx,q⟩:=h
 have Iy:=hd.lN hW
 refine ⟨_,(by exact az (aR (dQ fJ (cW hc (by decide +kernel)) T.z_tuple kl (ae (dX hc ["_law_one"] [0] rfl (by decide +kernel) (fE (av hc 1 (by decide +kernel))) (fun _ hc=>pJ hc (by decide +kernel) 0 (by decide +kernel)) (fun _ hc=>ic (bK oG (aD aW (hr.mono (by omega)) (cW hc (by decide +kernel)) T.bu T.bp.kp T.bz .nil bt (ae (av hc 1 (by decide +kernel)) (ae ai ao))) ai (dk _))) (fun _ hc=>(av hc 0 (by decide +kernel)))) ao)))),?_⟩
 repeat (walk_at "rd")
 refine ⟨⟨_,bR hW⟩,?_⟩
 obtain ⟨Pc,kr⟩:∃Pc:Addr->Nat->List V->Hp->Prop,∀Z i ys H',Pc Z i ys H'↔∃y:List Int,ys=List.map V.int y/\Dr h H H'/\H' Z=some (.lst ys)/\y.Sublist (x.take i):=⟨_,fun _ _ _ _=>Iff.rfl⟩
 refine jQ (zs:=List.map V.int x) Pc (fun Z hZ=>(kr _ _ _ _).mpr ⟨[],rfl,Dr.refl.new hZ,ah,List.nil_sublist _⟩) (fun Z hZ i ys H' _ pv=>?_) (fun Z hZ i z ys H' hz pv cb=>?_) (fun Z hZ ys H' pv=>?_)
 ·obtain ⟨_,_,d,_⟩:=(kr _ _ _ _).mp pv
  exact d.keep _ _ Iy hW
 ·obtain ⟨y,rfl,d1,qm,sl⟩:=(kr _ _ _ _).mp pv
  obtain ⟨m,em,rfl⟩:=int_at hz
  have OJ:Z≠h:=hd.ne hZ
  have ly:=sl.length_le
  rw [List.length_take] at ly
  walk_at "rc"
  repeat (walk_at "rd")
  refine cP hd d1 (by decide) (by decide) fun r H2 r0 r1 d2 k2=>?_
  have hZ2:H2 Z=_:=(k2 Z OJ).trans qm
  have tk:x.take (i+1)=x.take i++[m]:=by rw [List.take_add_one,em];rfl
  by_cases e:r=1
  ·subst e
   refine ⟨rfl,?_⟩
   rw [if_pos rfl]
   refine ⟨hZ2,bY (by omega),(kr _ _ _ _).mpr ⟨y++[m],by rw [List.map_append];rfl,d2.put hZ,ah,?_⟩⟩
   rw [tk];exact sl.append (List.Sublist.refl _)
  ·refine ⟨rfl,?_⟩
   rw [if_neg (by simpa using e)]
   refine (kr _ _ _ _).mpr ⟨y,rfl,d2,hZ2,?_⟩
   rw [tk];exact sl.trans (List.sublist_append_left _ _)
 ·obtain ⟨y,rfl,d1,qm,sl⟩:=(kr _ _ _ _).mp pv
  rw [List.length_map,List.take_length] at sl
  repeat (first | walk_at "rd" | simp only [qm])
  exact fun p hp=>q p y _ (d1.new hp) (d1.free hd hp) ah sl
end
local macro_rules | `(tactic| walk_at "rd") => `(tactic| walk_at "rc")
local macro_rules | `(tactic| walk_at "rl") => `(tactic| first | (refine dR fun R hR => ?_) | walk_at "ry" | (refine Nx.to (by assumption) _ _ ?_))
def tK (ks:List Int) (g:Int->V):List (Key×V):=ks.map fun z=>(Sum.inl z,g z)
theorem vb (ks:List Int) (g:Int->V) (m:Int):dM (tK ks g) (Sum.inl m)=if m∈ks then some (g m) else none:=by
 induction ks with
 | nil=>rfl
 | cons k ks ih=>
  by_cases e:k=m
  ·subst e
   rw [if_pos List.mem_cons_self]
   exact dc (p:=((Sum.inl k:Key),g k)) rfl
  ·have e2:dM (tK (k::ks) g) (Sum.inl m)=dM (tK ks g) (Sum.inl m):=de (p:=((Sum.inl k:Key),g k)) (fun z=>e (Sum.inl.inj z))
   rw [e2,ih]
   by_cases hm:m∈ks
   ·rw [if_pos hm,if_pos (List.mem_cons_of_mem _ hm)]
   ·rw [if_neg hm,if_neg (fun z=>(List.mem_cons.mp z).elim (fun z=>e z.symm) hm)]
theorem S7 {ks:List Int} {g g':Int->V} (h:∀z∈ks,g z=g' z):tK ks g=tK ks g':=List.map_congr_left fun z hz=>by rw [h z hz]
theorem M8 {ks:List Int} (g:Int->V) {m:Int} (v:V) (h:m∈ks):putK (tK ks g) (Sum.inl m) v=tK ks (fun z=>if z=m then v else g z):=by
 unfold putK
 rw [if_pos (by rw [ie,vb,if_pos h];rfl)]
 unfold tK
 rw [List.map_map]
 refine List.map_congr_left fun z _=>?_
 by_cases e:z=m
 ·simp [e]
 ·simp [e]
theorem M9 {ks:List Int} (g:Int->V) {m:Int} (v:V) (h:m∉ks):putK (tK ks g) (Sum.inl m) v=tK (ks++[m]) (fun z=>if z=m then v else g z):=by
 rw [GL v (by rw [vb,if_neg h])]
 unfold tK
 rw [List.map_append]
 refine congr (congrArg _ (List.map_congr_left fun z hz=>?_)) ?_
 ·dsimp only
  rw [if_neg (show ¬z=m from fun e=>h (by rw [<-e];exact hz))]
 ·simp
theorem V6 (ks:List Int) (g:Int->V):(tK ks g).map (fun kv=>kV kv.1)=ks.map V.int:=by
 unfold tK
 rw [List.map_map]
 rfl
theorem Av (ks:List Int) (g:Int->V):(tK ks g).length=ks.length:=List.length_map _
theorem Ac {H:Hp} {vs:List V} {ds:List Int} (r:jZ (fun (_:Hp) (v:V) (d:Int)=>v=V.int d) H vs ds):vs=List.map V.int ds:=by
 apply List.ext_getElem (by rw [List.length_map];exact r.1)
 intro i h1 h2
 rw [List.length_map] at h2
 rw [List.getElem_map]
 exact r.2 i _ _ (List.getElem?_eq_getElem h1) (List.getElem?_eq_getElem h2)
theorem Jp (xs:List V) (lo hi:Option Int):(gE xs lo hi).length<=xs.length:=by
 unfold gE
 rw [List.length_take,List.length_drop]
 omega
inductive Md where
 | wt (g:Int->Int) (most:Int) | Oc (ss:List (List Int)) | out (ss:List (List Int))
def kE (H:Hp) (p:Addr) (W:List Int):Md->Prop
 | .wt g most=>∃d ks,H p=some (.tup [.int 2,.ref d,.int most])/\H d=some (.dK (tK ks fun z=>.int (g z)))/\(∀m∈W,m∈ks)/\∀z,0<=g z
 | .Oc ss=>∃l bs,H p=some (.tup [.int 0,.ref l,.int 0])/\H l=some (.lst (List.map V.ref bs))/\aG H bs ss/\ss.length<=900/\∀s∈ss,s.length<=100
 | .out ss=>∃l bs,H p=some (.tup [.int 1,.ref l,.int 0])/\H l=some (.lst (List.map V.ref bs))/\aG H bs ss/\ss.length<=900/\∀s∈ss,s.length<=100
theorem kE.same {H H':Hp} {p:Addr} {W:List Int} {md:Md} (s:bU H H') (m:kE H p W md):kE H' p W md:=by
 cases md with
 | wt g most=>obtain ⟨d,ks,h1,h2,h3⟩:=m;exact ⟨d,ks,s _ _ h1,s _ _ h2,h3⟩
 | Oc ss=>obtain ⟨l,bs,h1,h2,h3,h4⟩:=m;exact ⟨l,bs,s _ _ h1,s _ _ h2,h3.mono fun _ _ e=>s _ _ e,h4⟩
 | out ss=>obtain ⟨l,bs,h1,h2,h3,h4⟩:=m;exact ⟨l,bs,s _ _ h1,s _ _ h2,h3.mono fun _ _ e=>s _ _ e,h4⟩
def Md.tells:Md->List Int->Bool
 | .wt g most,S=>decide ((S.map g).sum<=most)
 | .Oc ss,S=>ss.any fun s=>aA S s
 | .out ss,S=>!(ss.any fun s=>aA s S)
def Km:Sp:=fun vs H Q _=>∃h W,vs=[.ref h,.ref W]/\dW H h/\∃x:List Int,H W=some (.tup (List.map V.int x))/\x.length<=12/\x.Nodup/\∀R md H',Dr h H H'->H R=none->kE H' R x md->Q (.ref R) H'
section
variable {P:Program} {w:World} {K:PySem.W.Frag} {mg:Str->Option Value} {base:Heap} {t:oX}
theorem Hl (T:Txt K mg t):bO P w K mg base eL 5 t.jc t.iY ["_law_hand_here","_law_whole"] Km:=by
 have aW:=pC (P:=P) (w:=w) (base:=base) T
 have oR:=z5 (P:=P) (w:=w) (base:=base) T
 refine T.nE.pD bV (fun vs H Q E h=>?_) (fun cC A outer s H vs Q E hr h hc hf=>?_)
 ·obtain ⟨h,m,rfl,_⟩:=h;rfl
 obtain ⟨h,W,rfl,hd,x,hW,lx,nd,q⟩:=h
 have hu:=kL hr
 have Mb:=hr.fY
 have Iy:=hd.lN hW
 refine ⟨_,(by apply au;exact (aM hc bV.nd hf 2 (by decide +kernel) (aD aW (hr.mono (by omega)) (cW hc (by decide +kernel)) T.bu T.bp.kp T.bz .nil bt (ae (av hc 0 (by decide +kernel)) (ae ai ao))));apply au;exact (cE (bK oG (av hc 2 (by decide +kernel)) ai (dk _)) (by apply au;exact (aM hc bV.nd hf 3 (by decide +kernel) Bt);apply au;exact (aM hc bV.nd hf 4 (by decide +kernel) (mO oG (aD aW (hr.mono (by omega)) (cW hc (by decide +kernel)) T.bu T.bp.kp T.bz .nil bt (ae (av hc 0 (by decide +kernel)) (ae ai ao))) ai (dk _)));apply au;exact (dB PassesOwn.never rfl (fE (av hc 1 (by decide +kernel))) (nI hc bV.nd hf 5 (by decide +kernel)) (by apply au;exact (mK hu (av hc 3 (by decide +kernel)) (av hc 5 (by decide +kernel)) ai rfl);exact az (cE (gI (cL (av hc 4 (by decide +kernel)))) (by exact az (mK hu (av hc 3 (by decide +kernel)) (av hc 5 (by decide +kernel)) (aD aW (hr.mono (by omega)) (cW hc (by decide +kernel)) T.bu T.bp.kp T.bz .nil bt (ae (av hc 0 (by decide +kernel)) (ae ai ao))) rfl)) bF)));exact az (aR (iN (ae ai (ae (av hc 3 (by decide +kernel)) (ae (aV Hh (aD aW (hr.mono (by omega)) (cW hc (by decide +kernel)) T.bu T.bp.kp T.bz .nil bt (ae (av hc 0 (by decide +kernel)) (ae (aV eO (aV jB ai (bA fU (cW hc (by decide +kernel)) T.z_len jS (ae (av hc 1 (by decide +kernel)) ao))) ai) ao))) ai) ao)))))) bF);apply au;exact (aM hc bV.nd hf 6 (by decide +kernel) (bE iu (dO (ae ai (ae ai (ae ai (ae ai ao))))) (aD aW (hr.mono (by omega)) (cW hc (by decide +kernel)) T.bu T.bp.kp T.bz .nil bt (ae (av hc 0 (by decide +kernel)) (ae ai ao))) (fun _ _=>rfl)));apply au;exact (nH hc bV.nd 7 (by decide +kernel) ["_law_k"] [0,1] rfl (by decide +kernel) (pI (cW hc (by decide +kernel)) T.z_range (ae (aD aW (hr.mono (by omega)) (cW hc (by decide +kernel)) T.bu T.bp.kp T.bz .nil bt (ae (av hc 0 (by decide +kernel)) (ae (av hc 6 (by decide +kernel)) ao))) ao)) (fun _ hc=>pJ hc (by decide +kernel) 0 (by decide +kernel)) (fun _ _=>fQ) (fun _ hc=>(aD oR (hr.mono (by omega)) (cW hc (by decide +kernel)) T.wx T.oV.kp T.xt .nil bt (ae (av hc 1 (by decide +kernel)) (ae (av hc 2 (by decide +kernel)) ao)))) (by rfl));apply js;exact (cE (pL (pd (bK Hi (bA fU (cW hc (by decide +kernel)) T.z_len jS (ae (av hc 1 (by decide +kernel)) ao)) ai (dk _)) (mH (bK oG (aD aW (hr.mono (by omega)) (cW hc (by decide +kernel)) T.bu T.bp.kp T.bz .nil bt (ae (av hc 0 (by decide +kernel)) (ae ai ao))) ai (dk _))))) (by apply au;exact (aM hc bV.nd hf 8 (by decide +kernel) (aD aW (hr.mono (by omega)) (cW hc (by decide +kernel)) T.bu T.bp.kp T.bz .nil bt (ae (av hc 0 (by decide +kernel)) (ae (bA fU (cW hc (by decide +kernel)) T.z_len jS (ae (av hc 1 (by decide +kernel)) ao)) ao))));exact az (aM hc bV.nd hf 7 (by decide +kernel) (aV yf (av hc 7 (by decide +kernel)) (nJ Yn (dO (ae (dQ fJ (cW hc (by decide +kernel)) T.z_tuple kl (ae (dX hc ["_law_one"] [1,8] rfl (by decide +kernel) (fE (av hc 1 (by decide +kernel))) (fun _ hc=>pJ hc (by decide +kernel) 0 (by decide +kernel)) (fun _ hc=>ic (bK N4 (av hc 0 (by decide +kernel)) (bE o5 (av hc 1 (by decide +kernel)) (av hc 2 (by decide +kernel)) (fun _ _=>rfl)) (dk _))) (fun _ hc=>(av hc 0 (by decide +kernel)))) ao)) (ae (nJ TJ (av hc 1 (by decide +kernel)) (mL (av hc 8 (by decide +kernel))) (mL (aV eO (av hc 8 (by decide +kernel)) ai))) ao))) vC (mL (aV eO ai (aD aW (hr.mono (by omega)) (cW hc (by decide +kernel)) T.bu T.bp.kp T.bz .nil bt (ae (av hc 0 (by decide +kernel)) (ae ai ao))))))))) bF);exact az (aR (iN (ae (av hc 2 (by decide +kernel)) (ae (av hc 7 (by decide +kernel)) (ae ai ao)))))),?_⟩
 repeat (walk_at "rl")
 refine cP hd .refl (by decide) (by decide) fun way H1 w0 w1 d1 k1=>?_
 have hW1:=d1.keep _ _ Iy hW
 repeat (walk_at "rl")
 by_cases e2:way=2
 ·subst e2
  repeat (walk_at "rl")
  intro D hD
  have S6:H D=none:=d1.free hd hD
  have hDh:D≠h:=hd.ne S6
  have d2:Dr h H (upd H1 D (.dK [])):=d1.new hD
  have Al:upd H1 D (.dK []) D=some (.dK []):=ah
  generalize upd H1 D (.dK [])=H2 at d2 Al ⊢
  repeat (walk_at "rl")
  refine cP hd d2 (by decide) (by decide) fun al H3 a0 a1 d3 k3=>?_
  have Dn:=(k3 D hDh).trans Al
  repeat (walk_at "rl")
  have hW3:=d3.keep _ _ Iy hW
  generalize decide (al=1)=ab
  refine ⟨⟨_,bR hW3⟩,?_⟩
  obtain ⟨Pv,cO⟩:∃Pv:Nat->St->Hp->Prop,∀i σ' H',Pv i σ' H'↔∃(y:Option V) (g:Int->Int),σ'=[some (.ref h),some (.ref W),some (.int 2),some (.ref D),some (.bl ab),y,none,none,none]/\Dr h H H'/\H' D=some (.dK (tK (x.take i) fun z=>.int (g z)))/\∀z,0<=g z:=⟨_,fun _ _ _=>Iff.rfl⟩
  refine gp (xs:=List.map V.int x) Pv ((cO _ _ _).mpr ⟨none,fun _=>0,rfl,d3,Dn,fun _=>Int.le_refl _⟩) (fun i σ' H' _ pv=>?_) (fun i z σ' H4 hz pv=>?_) (fun σ' H4 pv=>?_)
  ·obtain ⟨_,_,_,d,_⟩:=(cO _ _ _).mp pv
   exact d.keep _ _ Iy hW
  ·obtain ⟨y,g,rfl,d4,vy,g0⟩:=(cO _ _ _).mp pv
   obtain ⟨m,em,rfl⟩:=int_at hz
   have hi:i < x.length:=(List.getElem?_eq_some_iff.mp em).1
   have tk:x.take (i+1)=x.take i++[m]:=by rw [List.take_add_one,em];rfl
   have nm:m∉x.take i:=fun hm=>by
    obtain ⟨j,hj,e⟩:=List.mem_take_iff_getElem.mp hm
    have:=(List.getElem_inj nd).mp (e.trans (List.getElem?_eq_some_iff.mp em).2.symm)
    omega
   repeat (first | walk_at "rl" | simp only [pY])
   refine ⟨_,qN.k (k:=Sum.inl m) vy (bY (by rw [Av,List.length_take];omega)),?_⟩
   rw [M9 _ _ nm,<-tk]
   have d5:Dr h H (upd H4 D (.dK (tK (x.take (i+1)) fun z=>if z=m then V.int 1 else .int (g z)))):=d4.put S6
   have eg:(fun z=>if z=m then V.int 1 else .int (g z))=fun z=>V.int (if z=m then 1 else g z):=funext fun z=>by split <;> rfl
   have MK:upd H4 D (.dK (tK (x.take (i+1)) fun z=>if z=m then V.int 1 else .int (g z))) D=some (.dK (tK (x.take (i+1)) fun z=>.int (if z=m then 1 else g z))):=by rw [ah,eg]
   generalize upd H4 D (.dK (tK (x.take (i+1)) fun z=>if z=m then V.int 1 else .int (g z)))=H5 at d5 MK ⊢
   repeat (walk_at "rl")
   cases ab with
   | true=>
    rw [if_neg (by decide)]
    exact (cO _ _ _).mpr ⟨_,_,rfl,d5,MK,fun z=>by split <;> first | decide | exact g0 z⟩
   | false=>
    rw [if_pos (by decide)]
    simp only [pY]
    repeat (walk_at "rl")
    refine cP hd d5 (by decide) (by decide) fun v H6 v0 v1 d6 k6=>?_
    have J4:=(k6 D hDh).trans MK
    refine ⟨_,qN.k (k:=Sum.inl m) J4 (bY (by rw [Av,List.length_take];omega)),?_⟩
    rw [M8 _ _ (by rw [tk];simp)]
    have eg2:(fun z=>if z=m then V.int v else .int (if z=m then 1 else g z))=fun z=>V.int (if z=m then v else if z=m then 1 else g z):=funext fun z=>by split <;> rfl
    exact (cO _ _ _).mpr ⟨_,_,rfl,d6.put S6,by rw [ah,eg2],fun z=>by by_cases e:z=m <;> simp only [e,if_true,if_false] <;> first | exact v0 | exact g0 z⟩
  obtain ⟨y,g,rfl,d4,vy,g0⟩:=(cO _ _ _).mp pv
  rw [List.length_map,List.take_length] at vy
  have SM:=d4.keep _ _ Iy hW
  repeat (first | walk_at "rl" | simp only [SM])
  refine cP hd d4 (by omega) (by omega) fun v H5 v0 v1 d5 k5=>⟨_,rfl,by decide,fun p hp=>?_⟩
  have MK:=(k5 D hDh).trans vy
  exact q p (.wt g (v - 1)) _ (d5.new hp) (d5.free hd hp) ⟨D,x,ah,by rw [aq (aj MK hp)];exact MK,fun m hm=>hm,g0⟩
 ·rw [if_neg (by simpa using e2)]
  repeat (walk_at "rl")
  refine ⟨by decide,fun p hp=>?_⟩
  have d2:Dr h H (upd H1 p (.lst [V.int 6,V.int 6,V.int 6,V.int 21])):=d1.new hp
  have Rn:p≠h:=(d1.fi hd).ne hp
  refine cP hd d2 (by decide) (by decide) fun r H2 r0 r1 d3 k3=>?_
  obtain ⟨z,ez,hz⟩:=MP (a:=6) (b:=6) (c:=6) (d:=21) r0 r1
  refine ⟨_,rfl,_,by rw [k3 p Rn];exact ah,_,ez,?_⟩
  have Og:6<=z/\z<=21:=by omega
  clear d2 k3 hz ez
  repeat (walk_at "rl")
  refine cP hd d3 (by omega) (by omega) fun nn H4 n0 n1 d4 k4=>?_
  obtain ⟨n,rfl⟩:∃n:Nat,nn=(n:Int):=⟨nn.toNat,by omega⟩
  repeat (walk_at "rl")
  refine ⟨by omega,by omega,?_⟩
  obtain ⟨Pc,kr⟩:∃Pc:Addr->Nat->List V->Hp->Prop,∀Z i ys H',Pc Z i ys H'↔∃bs ss,ys=List.map V.ref bs/\Dr h H H'/\H' Z=some (.lst ys)/\aG H' bs ss/\ss.length=i/\∀s∈ss,s.length<=100:=⟨_,fun _ _ _ _=>Iff.rfl⟩
  refine xk Pc (fun Z hZ=>(kr _ _ _ _).mpr ⟨[],[],rfl,d4.new hZ,ah,⟨rfl,fun _ _ _ z=>by cases z⟩,rfl,fun _ z=>(nomatch z)⟩) (fun Z hZ i ys H' hi pv cb=>?_) (fun Z hZ ys H' pv=>?_)
  ·obtain ⟨bs,ss,rfl,d5,Xo,sb,ls,wB⟩:=(kr _ _ _ _).mp pv
   have Xp:=d4.free hd hZ
   have OJ:Z≠h:=hd.ne Xp
   walk_at "rc"
   repeat (walk_at "rl")
   refine ⟨h,W,rfl,d5.fi hd,x,d5.keep _ _ Iy hW,by omega,fun R y H6 d6 hR hR6 sl=>?_⟩
   have Vr:=d5.fi hd
   have Vw:=d6.keep _ _ OJ Xo
   have Sj:=Dr.sets Vr d6 sb
   have lb:=sb.1
   rw [Int.toNat_natCast] at hi
   refine ⟨Vw,bY (by omega),(kr _ _ _ _).mpr ⟨bs++[R],ss++[y],by rw [List.map_append];rfl,(d5.trans d6).put Xp,ah,?_,by rw [List.length_append,ls];rfl,fun s hs=>?_⟩⟩
   ·have s1:aG H6 [R] [y]:=⟨rfl,fun j c u h1 h2=>by
     match j,h1,h2 with
     | 0,h1,h2=>cases h1;cases h2;exact hR6
     | _+1,h1,_=>cases h1⟩
    exact (Sj.app s1).mono fun c xs e=>by rw [aq (aY e Vw (by intro z;cases z))];exact e
   ·rcases List.mem_append.mp hs with z | z
    ·exact wB s z
    ·rw [List.mem_singleton.mp z];have:=sl.length_le;omega
  obtain ⟨bs,ss,rfl,d5,Xo,sb,ls,wB⟩:=(kr _ _ _ _).mp pv
  rw [Int.toNat_natCast] at ls
  have Xp:=d4.free hd hZ
  clear kr pv Pc d4 k4
  have hW5:=d5.keep _ _ Iy hW
  repeat (first | walk_at "rl" | simp only [hW5])
  obtain ⟨vv,IV⟩:∃vv:St->Hp->Prop,∀σ' H',vv σ' H'↔∃(L:Addr) (y:Option V) (bs:List Addr) (ss:List (List Int)),σ'=[some (.ref h),some (.ref W),some (.int way),none,none,none,some (.int z),some (.ref L),y]/\Dr h H H'/\H' L=some (.lst (List.map V.ref bs))/\aG H' bs ss/\ss.length<=40/\∀s∈ss,s.length<=100:=⟨_,fun _ _=>Iff.rfl⟩
  have Z0:∀H6,Dr h H H6->H6 Z=some (.lst (List.map V.ref bs))->aG H6 bs ss->vv [some (.ref h),some (.ref W),some (.int way),none,none,none,some (.int z),some (.ref Z),none] H6:=fun H6 d6 h6 s6=>(IV _ _).mpr ⟨Z,_,bs,ss,rfl,d6,h6,s6,by omega,wB⟩
  have fin:∀(l q2:Addr) (S1 S2:List Int) (r:Int) (L2:Addr) (y:Option V) (H2:Hp),Dr h H H2->H2 l=some (.tup (List.map V.int S1))->H2 q2=some (.tup (List.map V.int S2))->S1.length<=100->S2.length<=100->aG H2 bs ss->0<=r->r < 2->
    H2 L2=some (.lst (List.map V.ref bs++gE [V.ref l,V.ref q2] none (some (1+r))))->vv [some (.ref h),some (.ref W),some (.int way),none,none,none,some (.int z),some (.ref L2),y] H2:=fun l q2 S1 S2 r L2 y H2 d2 h1 h2 l1 l2 s2 r0 r1 hL=>by
   have hr:r=0\/r=1:=by omega
   rcases hr with rfl | rfl
   ·refine (IV _ _).mpr ⟨L2,y,bs++[l],ss++[S1],rfl,d2,by rw [hL,List.map_append];rfl,s2.app ⟨rfl,fun j c u e1 e2=>?_⟩,by rw [List.length_append];simp;omega,fun s hs=>?_⟩
    ·match j,e1,e2 with
     | 0,e1,e2=>cases e1;cases e2;exact h1
     | _+1,e1,_=>cases e1
    ·rcases List.mem_append.mp hs with k | k
     ·exact wB s k
     ·rw [List.mem_singleton.mp k];exact l1
   ·refine (IV _ _).mpr ⟨L2,y,bs++[l,q2],ss++[S1,S2],rfl,d2,by rw [hL,List.map_append];rfl,s2.app ⟨rfl,fun j c u e1 e2=>?_⟩,by rw [List.length_append];simp;omega,fun s hs=>?_⟩
    ·match j,e1,e2 with
     | 0,e1,e2=>cases e1;cases e2;exact h1
     | 1,e1,e2=>cases e1;cases e2;exact h2
     | _+2,e1,_=>cases e1
    ·rcases List.mem_append.mp hs with k | k
     ·exact wB s k
     ·rcases List.mem_cons.mp k with k | k
      ·rw [k];exact l1
      ·rw [List.mem_singleton.mp k];exact l2
  refine ⟨vv,?_,fun σ' H6 hm=>?_⟩
  ·repeat (first | walk_at "rl" | simp only [hW5])
   by_cases e0:0 < x.length
   ·rw [if_pos (by simpa using e0)]
    refine cP hd d5 (by decide) (by decide) fun r6 H6 _ _ d6 k6=>?_
    have OJ:Z≠h:=hd.ne Xp
    have Vw:=(k6 Z OJ).trans Xo
    have Vr:=d5.fi hd
    have kt:∀c xs,H' c=some (.tup xs)->H6 c=some (.tup xs):=fun c xs e=>(k6 c (Vr.lN e)).trans e
    have Sj:=sb.mono kt
    have hW6:=kt _ _ hW5
    refine ⟨rfl,?_⟩
    by_cases e6:r6=0
    ·subst e6
     rw [if_pos rfl]
     repeat (first | walk_at "rl" | simp only [hW6])
     refine cP hd d6 (by omega) (by omega) fun at_ H7 a0 a1 d7 k7=>?_
     have hZ7:=(k7 Z OJ).trans Vw
     have hd6:=d6.fi hd
     have kt7:∀c xs,H6 c=some (.tup xs)->H7 c=some (.tup xs):=fun c xs e=>(k7 c (hd6.lN e)).trans e
     have WW:=Sj.mono kt7
     have Iz:=kt7 _ _ hW6
     repeat (first | walk_at "rl" | simp only [Iz])
     obtain ⟨a,rfl⟩:∃a:Nat,at_=(a:Int):=⟨at_.toNat,by omega⟩
     have ha:a < x.length:=by omega
     have eat:tV (List.map V.int x) (a:Int)=some (.int x[a]):=gR (by rw [List.getElem?_map,List.getElem?_eq_getElem ha];rfl)
     refine ⟨⟨_,bR Iz⟩,?_⟩
     refine oq (zs:=List.map V.int x) (fun k=>if (x[k]?.any fun m=>decide (m≠x[a])) then x[k]? else none) (fun _ _ v d=>v=V.int d) (fun _ _ _ _ _ _ r=>r) (fun _ _ _ _ _ _ _ r=>r) Iz (by rw [List.length_map];omega) (fun DD c H8 j z yes no hj s8 RN RM fG wV=>?_) (fun D H8 vs s8 hD VG rl=>?_)
     ·obtain ⟨m,em,rfl⟩:=int_at hj
      rw [em] at fG wV
      have Xq:=s8 _ _ Iz
      walk_at "rc"
      repeat (first | walk_at "rl" | simp only [Xq,eat])
      by_cases hm:m=x[a]
      ·rw [if_neg (by simpa using hm)]
       exact wV (if_neg (by simpa using hm)) _ fun _ _ e=>e
      ·rw [if_pos (by simpa using hm)]
       exact fG _ (if_pos (by simpa using hm)) _ _ (fun _ _ e=>e) rfl
     have ev:=Ac rl
     rw [List.length_map,oa (l:=x) (p:=fun m=>decide (m≠x[a])) fun k hk=>by rw [List.getElem?_eq_getElem hk];rfl] at ev
     subst ev
     have lo:=List.length_filter_le (fun m=>decide (m≠x[a])) x
     generalize (x.filter fun m=>decide (m≠x[a]))=S1 at lo VG
     have d8:=d7.on s8
     refine ⟨D,rfl,_,VG,fun l hl=>?_⟩
     have s9:=aK hl (.tup (List.map V.int S1))
     have hl9:upd H8 l (.tup (List.map V.int S1)) l=_:=ah
     have d9:Dr h H (upd H8 l (.tup (List.map V.int S1))):=d8.new hl
     generalize upd H8 l (.tup (List.map V.int S1))=H9 at s9 hl9 d9 ⊢
     have X7:=s8.trans s9
     have hW9:=X7 _ _ Iz
     have hZ9:=X7 _ _ hZ7
     have TX:aG H9 bs ss:=WW.mono fun _ _ e=>X7 _ _ e
     refine ⟨_,hW9,fun _=>⟨by decide,fun p hp=>?_⟩,fun _ q2 hq2=>⟨by decide,fun p hp=>?_⟩⟩
     ·have Ga:=aK hp (.lst [V.ref l,V.ref W])
      have R4:Dr h H (upd H9 p (.lst [V.ref l,V.ref W])):=d9.new hp
      have Ik:upd H9 p (.lst [V.ref l,V.ref W]) p=_:=ah
      have Rn:p≠h:=(d9.fi hd).ne hp
      generalize upd H9 p (.lst [V.ref l,V.ref W])=H11 at Ga R4 Ik ⊢
      refine cP hd R4 (by decide) (by decide) fun Kz H12 r0 r1 d12 k12=>⟨_,rfl,_,(k12 p Rn).trans Ik,fun p3 Ek=>?_⟩
      have Rx:=R4.fi hd
      have yC:∀c xs,H11 c=some (.tup xs)->H12 c=some (.tup xs):=fun c xs e=>(k12 c (Rx.lN e)).trans e
      have T6:=aK Ek (.lst (gE [V.ref l,V.ref W] none (some (1+Kz))))
      have RC:=(k12 Z OJ).trans (Ga _ _ hZ9)
      have lb:=sb.1
      refine ⟨_,T6 _ _ RC,iO (by rw [List.length_map];have:=Jp [V.ref l,V.ref W] (none:Option Int) (some (1+Kz));simp at this;omega),fun p4 Ro=>?_⟩
      have P7:=T6.trans (aK Ro (.lst (List.map V.ref bs++gE [V.ref l,V.ref W] none (some (1+Kz)))))
      exact fin l W S1 x Kz p4 _ _ ((d12.new Ek).new Ro) (P7 _ _ (yC _ _ (Ga _ _ hl9))) (P7 _ _ (yC _ _ (Ga _ _ hW9))) (by omega) (by omega) (((TX.mono fun _ _ e=>Ga _ _ e).mono yC).mono fun _ _ e=>P7 _ _ e) r0 r1 ah
     ·have xY:=aK hq2 (.tup (gE (List.map V.int x) (some (a:Int)) (some ((a:Int)+1))))
      have Rl:upd H9 q2 (.tup (gE (List.map V.int x) (some (a:Int)) (some ((a:Int)+1)))) q2=some (.tup (List.map V.int ((x.drop (HT.cJ x.length 0 (some (a:Int)))).take (HT.cJ x.length x.length (some ((a:Int)+1)) - HT.cJ x.length 0 (some (a:Int)))))):=by rw [ah,xg]
      have d10:Dr h H (upd H9 q2 (.tup (gE (List.map V.int x) (some (a:Int)) (some ((a:Int)+1))))):=d9.new hq2
      have l2:((x.drop (HT.cJ x.length 0 (some (a:Int)))).take (HT.cJ x.length x.length (some ((a:Int)+1)) - HT.cJ x.length 0 (some (a:Int)))).length<=100:=by rw [List.length_take,List.length_drop];omega
      generalize ((x.drop (HT.cJ x.length 0 (some (a:Int)))).take (HT.cJ x.length x.length (some ((a:Int)+1)) - HT.cJ x.length 0 (some (a:Int))))=S2 at Rl l2
      generalize upd H9 q2 (.tup (gE (List.map V.int x) (some (a:Int)) (some ((a:Int)+1))))=Nz at xY Rl d10 hp ⊢
      have Ga:=aK hp (.lst [V.ref l,V.ref q2])
      have R4:Dr h H (upd Nz p (.lst [V.ref l,V.ref q2])):=d10.new hp
      have Ik:upd Nz p (.lst [V.ref l,V.ref q2]) p=_:=ah
      have Rn:p≠h:=(d10.fi hd).ne hp
      generalize upd Nz p (.lst [V.ref l,V.ref q2])=H11 at Ga R4 Ik ⊢
      have Ks:aG Nz bs ss:=TX.mono fun _ _ e=>xY _ _ e
      refine cP hd R4 (by decide) (by decide) fun Kz H12 r0 r1 d12 k12=>⟨_,rfl,_,(k12 p Rn).trans Ik,fun p3 Ek=>?_⟩
      have Rx:=R4.fi hd
      have yC:∀c xs,H11 c=some (.tup xs)->H12 c=some (.tup xs):=fun c xs e=>(k12 c (Rx.lN e)).trans e
      have T6:=aK Ek (.lst (gE [V.ref l,V.ref q2] none (some (1+Kz))))
      have RC:=(k12 Z OJ).trans (Ga _ _ (xY _ _ hZ9))
      have lb:=sb.1
      refine ⟨_,T6 _ _ RC,iO (by rw [List.length_map];have:=Jp [V.ref l,V.ref q2] (none:Option Int) (some (1+Kz));simp at this;omega),fun p4 Ro=>?_⟩
      have P7:=T6.trans (aK Ro (.lst (List.map V.ref bs++gE [V.ref l,V.ref q2] none (some (1+Kz)))))
      exact fin l q2 S1 S2 Kz p4 _ _ ((d12.new Ek).new Ro) (P7 _ _ (yC _ _ (Ga _ _ (xY _ _ hl9)))) (P7 _ _ (yC _ _ (Ga _ _ Rl))) (by omega) l2 (((Ks.mono fun _ _ e=>Ga _ _ e).mono yC).mono fun _ _ e=>P7 _ _ e) r0 r1 ah
    ·rw [if_neg (by simpa using e6)]
     exact Z0 _ d6 Vw Sj
   ·rw [if_neg (by simpa using e0)]
    exact Z0 _ d5 Xo sb
  obtain ⟨L,y,bs,ss,rfl,d6,hL6,Sj,l40,wB⟩:=(IV _ _).mp hm
  clear fin Z0 IV hm vv
  repeat (walk_at "rl")
  refine ⟨by decide,fun p hp=>?_⟩
  have s7:=aK hp (.tup [V.int way,V.ref L,V.int 0])
  have aAt:way=0\/way=1:=by omega
  have WW:aG (upd H6 p (.tup [V.int way,V.ref L,V.int 0])) bs ss:=Sj.mono fun _ _ e=>s7 _ _ e
  rcases aAt with rfl | rfl
  ·exact q p (.Oc ss) _ (d6.new hp) (d6.free hd hp) ⟨L,bs,ah,s7 _ _ hL6,WW,by omega,wB⟩
  ·exact q p (.out ss) _ (d6.new hp) (d6.free hd hp) ⟨L,bs,ah,s7 _ _ hL6,WW,by omega,wB⟩
end
local macro_rules | `(tactic| walk_at "rd") => `(tactic| walk_at "rc")
local macro_rules | `(tactic| walk_at "rl") => `(tactic| first | (refine dR fun R hR => ?_) | walk_at "ry" | (refine Nx.to (by assumption) _ _ ?_))
def Kj:Sp:=fun vs H Q _=>∃m p,vs=[.ref m,.ref p]/\∃(md:Md) (W S:List Int),kE H m W md/\H p=some (.tup (List.map V.int S))/\S.length<=100/\(∀z∈S,z∈W)/\∀H',bU H H'->Q (.bl (md.tells S)) H'
section
variable {P:Program} {w:World} {K:PySem.W.Frag} {mg:Str->Option Value} {base:Heap} {t:oX}
theorem v5 (T:Txt K mg t):bO P w K mg base eL 2 t.jb t.iX ["_law_model_here","_law_part"] Kj:=by
 have iH:=Cu (P:=P) (w:=w) (base:=base) T
 refine T.nC.pD qY (fun vs H Q E h=>?_) (fun cC A outer s H vs Q E hr h hc hf=>?_)
 ·obtain ⟨m,p,rfl,_⟩:=h;rfl
 obtain ⟨m,p,rfl,md,W,S,ma,hp,lS,sub,q⟩:=h
 have hu:=kL hr
 have Mb:=hr.fY
 refine ⟨_,(by apply au;exact (cE (bK oG (bE o5 (av hc 0 (by decide +kernel)) ai (fun _ _=>rfl)) ai (dk _)) (by exact az (aR (mO N6 (bA (DP hr.hd) (cW hc (by decide +kernel)) T.z_sum Wo (ae (dX hc ["_law_one"] [0] rfl (by decide +kernel) (fE (av hc 1 (by decide +kernel))) (fun _ hc=>pJ hc (by decide +kernel) 0 (by decide +kernel)) (fun _ _=>fQ) (fun _ hc=>(mM hu (bE o5 (av hc 1 (by decide +kernel)) ai (fun _ _=>rfl)) (av hc 0 (by decide +kernel)) (fun _ _=>rfl)))) ao)) (bE o5 (av hc 0 (by decide +kernel)) ai (fun _ _=>rfl)) (dk _)))) bF);apply au;exact (cE (bK oG (bE o5 (av hc 0 (by decide +kernel)) ai (fun _ _=>rfl)) ai (dk _)) (by exact az (aR (bA (tP hr.hd) (cW hc (by decide +kernel)) T.z_any Pj (ae (dX hc ["_law_one"] [1] rfl (by decide +kernel) (dq (bE o5 (av hc 0 (by decide +kernel)) ai (fun _ _=>rfl))) (fun _ hc=>pJ hc (by decide +kernel) 0 (by decide +kernel)) (fun _ _=>fQ) (fun _ hc=>(aD iH (hr.mono (by omega)) (cW hc (by decide +kernel)) T.ip T.fD.kp T.iE .nil bt (ae (av hc 1 (by decide +kernel)) (ae (av hc 0 (by decide +kernel)) ao))))) ao)))) bF);exact az (aR (J9 (bA (tP hr.hd) (cW hc (by decide +kernel)) T.z_any Pj (ae (dX hc ["_law_one"] [1] rfl (by decide +kernel) (dq (bE o5 (av hc 0 (by decide +kernel)) ai (fun _ _=>rfl))) (fun _ hc=>pJ hc (by decide +kernel) 0 (by decide +kernel)) (fun _ _=>fQ) (fun _ hc=>(aD iH (hr.mono (by omega)) (cW hc (by decide +kernel)) T.ip T.fD.kp T.iE .nil bt (ae (av hc 0 (by decide +kernel)) (ae (av hc 1 (by decide +kernel)) ao))))) ao))))),?_⟩
 cases md with
 | wt g most=>
  obtain ⟨d,ks,hm,hd,hk⟩:=ma
  repeat (first | walk_at "rl" | simp only [hm])
  refine ⟨⟨_,bR hp⟩,?_⟩
  refine oq (zs:=List.map V.int S) (fun j=>S[j]?.map g) (fun _ _ v d=>v=V.int d) (fun _ _ _ _ _ _ r=>r) (fun _ _ _ _ _ _ _ r=>r) hp (by rw [List.length_map];omega) (fun DD c H4 j z yes no hj s4 RN RM fG wV=>?_) (fun D H4 vs s4 hD vy rl=>?_)
  ·obtain ⟨n,en,rfl⟩:=int_at hj
   rw [en] at fG
   have hm4:=s4 _ _ hm
   walk_at "rc"
   repeat (first | walk_at "rl" | simp only [hm4,rV])
   refine ⟨.int (g n),?_,fG _ rfl _ _ (fun _ _ e=>e) rfl⟩
   have:=nF.k (k:=Sum.inl n) (s4 _ _ hd)
   rw [vb,if_pos (hk.1 n (sub n (List.mem_of_getElem? en)))] at this
   exact this
  have ev:=Ac rl
  rw [List.length_map,qw (l:=S) (g:=g) fun k hk=>by rw [List.getElem?_eq_getElem hk];rfl] at ev
  subst ev
  have hm4:=s4 _ _ hm
  repeat (first | walk_at "rl" | simp only [hm4])
  exact ⟨_,vy,q _ s4⟩
 | Oc ss=>
  obtain ⟨l,bs,hm,hl,sb,l9,ls⟩:=ma
  repeat (first | walk_at "rl" | simp only [hm])
  refine ⟨⟨_,bC hl⟩,?_⟩
  refine gy (zs:=List.map V.ref bs) (fun j=>ss[j]?.map fun s=>V.bl (aA S s)) (fun _=>Nv) (fun _ _ _ _ _ _ r=>r) (fun _ _ _ _ _ _ _ r=>r) hl (by rw [List.length_map,sb.1];omega) (fun DD c H4 j z yes no hj s4 RN RM fG wV=>?_) (fun D H4 vs s4 hD vy rl=>?_)
  ·obtain ⟨b,eb,rfl⟩:=fO hj
   have Mr:j < bs.length:=(List.getElem?_eq_some_iff.mp eb).1
   have es:ss[j]? = some (ss[j]'(by have:=sb.1;omega)):=List.getElem?_eq_getElem _
   have hb4:=s4 _ _ (sb.2 j b _ eb es)
   rw [es] at fG
   walk_at "rc"
   repeat (walk_at "rl")
   exact ⟨p,b,rfl,S,_,s4 _ _ hp,hb4,by omega,fun H5 s5=>fG _ rfl _ _ s5 rfl⟩
  have ev:=t7 rl
  rw [List.length_map,sb.1,qw (l:=ss) (g:=fun s=>V.bl (aA S s)) fun k hk=>by rw [List.getElem?_eq_getElem hk];rfl] at ev
  subst ev
  refine ⟨D,rfl,ss.map fun s=>aA S s,by rw [vy,List.map_map];rfl,?_⟩
  rw [List.any_map]
  exact q _ s4
 | out ss=>
  obtain ⟨l,bs,hm,hl,sb,l9,ls⟩:=ma
  repeat (first | walk_at "rl" | simp only [hm])
  refine ⟨⟨_,bC hl⟩,?_⟩
  refine gy (zs:=List.map V.ref bs) (fun j=>ss[j]?.map fun s=>V.bl (aA s S)) (fun _=>Nv) (fun _ _ _ _ _ _ r=>r) (fun _ _ _ _ _ _ _ r=>r) hl (by rw [List.length_map,sb.1];omega) (fun DD c H4 j z yes no hj s4 RN RM fG wV=>?_) (fun D H4 vs s4 hD vy rl=>?_)
  ·obtain ⟨b,eb,rfl⟩:=fO hj
   have Mr:j < bs.length:=(List.getElem?_eq_some_iff.mp eb).1
   have es:ss[j]? = some (ss[j]'(by have:=sb.1;omega)):=List.getElem?_eq_getElem _
   have hb4:=s4 _ _ (sb.2 j b _ eb es)
   rw [es] at fG
   walk_at "rc"
   repeat (walk_at "rl")
   exact ⟨b,p,rfl,_,S,hb4,s4 _ _ hp,by have:=ls _ (List.mem_of_getElem? es);omega,fun H5 s5=>fG _ rfl _ _ s5 rfl⟩
  have ev:=t7 rl
  rw [List.length_map,sb.1,qw (l:=ss) (g:=fun s=>V.bl (aA s S)) fun k hk=>by rw [List.getElem?_eq_getElem hk];rfl] at ev
  subst ev
  refine ⟨D,rfl,ss.map fun s=>aA s S,by rw [vy,List.map_map];rfl,?_⟩
  rw [List.any_map]
  exact q _ s4
end
local macro_rules | `(tactic| walk_at "rd") => `(tactic| walk_at "rc")
local macro_rules | `(tactic| walk_at "rl") => `(tactic| first | (refine dR fun R hR => ?_) | walk_at "ry" | (refine Nx.to (by assumption) _ _ ?_))
def Er (Z:Addr->Prop) (H H':Hp):Prop:=∀b o,¬Z b->H b=some o->H' b=some o
theorem Er.trans {Z:Addr->Prop} {H H1 H2:Hp} (a:Er Z H H1) (b:Er Z H1 H2):Er Z H H2:=fun c o hc e=>b c o hc (a c o hc e)
theorem Er.of {Z:Addr->Prop} {H H':Hp} (s:bU H H'):Er Z H H':=fun b o _ e=>s b o e
structure JT (P:Program) (w:World) (K:PySem.W.Frag) (mg:Str->Option Value) (base:Heap) (k:Nat) (f:Addr) {ι:Type} (Z:Addr->Prop) (D:ι->Hp->Prop) (nx:ι->List Int->ι) (lim:ι->Prop) (dom:List Int->Prop) (tells:List Int->Bool):Prop where
 run:∃sp,kX P w K mg base k f sp/\∀i H p S Q,D i H->lim i->H p=some (.tup (List.map V.int S))->dom S->(∀H',D (nx i S) H'->Er Z H H'->Q (.bl (tells S)) H')->sp [.ref p] H Q E0
 fn:∀i H,D i H->Sh H f
 st:∀i H H',D i H->bU H H'->D i H'
 nt:∀i H b xs,D i H->Z b->H b≠some (.tup xs)
theorem JT.tup {P:Program} {w:World} {K:PySem.W.Frag} {mg:Str->Option Value} {base:Heap} {k:Nat} {f:Addr} {ι:Type} {Z:Addr->Prop} {D:ι->Hp->Prop} {nx:ι->List Int->ι} {lim:ι->Prop} {dom:List Int->Prop} {tells:List Int->Bool} (a:JT P w K mg base k f Z D nx lim dom tells) {i:ι} {H H':Hp} (d:D i H) (kp:Er Z H H') {b:Addr} {xs:List V} (e:H b=some (.tup xs)):H' b=some (.tup xs):=
 kp b _ (fun z=>a.nt i H b xs d z e) e
def aU (W c:List Int) (m:Int):List Int:=W.filter fun z=>decide (z∈c\/z=m)
def cq (tells:List Int->Bool) (W ms c:List Int):List Int:=ms.foldl (fun c m=>if tells (aU W c m)=true then aU W c m else c) c
theorem dg (W c:List Int) (m:Int):(aU W c m).Sublist W:=List.filter_sublist
theorem n8 (tells:List Int->Bool) (W:List Int):∀(ms c:List Int),c.Sublist W->(cq tells W ms c).Sublist W
 | [],c,h=>h
 | m::ms,c,h=>by
  unfold cq
  rw [List.foldl_cons]
  refine n8 tells W ms _ ?_
  by_cases e:tells (aU W c m)=true
  ·rw [if_pos e];exact dg W c m
  ·rw [if_neg e];exact h
theorem Hw {W c:List Int} {m:Int} (hW:dJ W) (h:c.Sublist W) (hm:m∈c):aU W c m=c:=by
 refine kc (hW.sublist (dg W c m)) (hW.sublist h) fun z=>?_
 unfold aU
 rw [List.mem_filter,decide_eq_true_eq]
 exact ⟨fun ⟨_,a⟩=>a.elim id fun e=>e ▸ hm,fun a=>⟨h.subset a,.inl a⟩⟩
theorem iW {tells:List Int->Bool} {W S:List Int} (hW:dJ W):∀(ms c:List Int),c.Sublist W->(∀z∈S,z∈c)->cq tells W (bq ms S) c=cq tells W ms c
 | [],c,_,_=>rfl
 | m::ms,c,h,hS=>by
  unfold bq
  rw [List.filter_cons]
  have sub:∀z∈S,z∈aU W c m:=fun z hz=>List.mem_filter.mpr ⟨h.subset (hS z hz),decide_eq_true (.inl (hS z hz))⟩
  by_cases e:m∈S
  ·rw [if_neg (by simpa using e)]
   have:=iW (tells:=tells) (S:=S) hW ms c h hS
   unfold bq at this
   rw [this]
   show cq tells W ms c=cq tells W ms (if tells (aU W c m)=true then aU W c m else c)
   rw [Hw hW h (hS m e)]
   simp
  ·rw [if_pos (by simpa using e)]
   show cq tells W (bq ms S) (if tells (aU W c m)=true then aU W c m else c)=cq tells W ms (if tells (aU W c m)=true then aU W c m else c)
   by_cases e2:tells (aU W c m)=true
   ·rw [if_pos e2];exact iW hW ms _ (dg W c m) sub
   ·rw [if_neg e2];exact iW hW ms c h hS
def eF {ι:Type} (tells:List Int->Bool) (nx:ι->List Int->ι) (W ms:List Int) (c:List Int×ι):List Int×ι:=ms.foldl (fun c m=>(if tells (aU W c.1 m)=true then aU W c.1 m else c.1,nx c.2 (aU W c.1 m))) c
theorem n6 {ι:Type} (tells:List Int->Bool) (nx:ι->List Int->ι) (W:List Int):∀(ms:List Int) (c:List Int×ι),(eF tells nx W ms c).1=cq tells W ms c.1
 | [],c=>rfl
 | m::ms,c=>by
  unfold eF cq
  rw [List.foldl_cons,List.foldl_cons]
  exact n6 tells nx W ms _
def zF (P:Program) (w:World) (K:PySem.W.Frag) (mg:Str->Option Value) (base:Heap) (cN:Addr):Sp:=fun vs H Q E=>∃U f p,vs=[.ref U,.ref f,.ref p]/\∃(ι:Type) (Z:Addr->Prop) (D:ι->Hp->Prop) (nx:ι->List Int->ι) (dom:List Int->Prop) (tells:List Int->Bool) (n:ι) (W S:List Int),
 JT P w K mg base 12 f Z D nx (fun _=>True) dom tells/\D n H/\H U=some (.tup (List.map V.int W))/\H p=some (.tup (List.map V.int S))/\dJ W/\S.Sublist W/\W.length<=60/\(∀T,T.Sublist W->dom T)/\tells S=true/\
 ∀r H',D (eF tells nx W (bq W S) (S,nx n S)).2 H'->Er Z H H'->H' r=some (.tup (List.map V.int (cq tells W W S)))->Q (.ref r) H'
section
variable {P:Program} {w:World} {K:PySem.W.Frag} {mg:Str->Option Value} {base:Heap} {t:oX}
theorem yi (T:Txt K mg t):bO P w K mg base eL 1 t.aZ t.dU cg (ui t.aS "part"):=by
 refine T.mz.pD ko (fun vs H Q E h=>?_) (fun cC A outer s H vs Q E hr h hc hf=>?_)
 ·obtain ⟨e,v,t,rfl,_⟩:=h;rfl
 obtain ⟨e,v,t0,rfl,he,q⟩:=h
 refine ⟨_,(by apply au;exact (cZ (Ey T.rd_TruceError T.fc_TruceError T.sg_TruceError (cW hc (by decide +kernel)) T.uV (ae (av hc 0 (by decide +kernel)) (ae J8 ao))));exact az (Eu (av hc 0 (by decide +kernel)) (av hc 1 (by decide +kernel)) rfl)),?_⟩
 repeat (walk_at "rd")
 refine ⟨t.aS,t0,he,T.nO,fun t'=>⟨t.aS,t',rfl,T.nO,T.tk_NoPeace,fun dx hd qQ=>?_⟩⟩
 rw [aq qQ] at hd
 exact q dx t' hd qQ
theorem Ho (T:Txt K mg t):bO P w K mg base (zr P w) 14 t.vp t.vd ["whole","ask","part"] (zF P w K mg base t.aS):=by
 have Ec:=Ls (P:=P) (w:=w) (base:=base) T
 have JR:=Cv (P:=P) (w:=w) (base:=base) T
 have Ed:=yi (P:=P) (w:=w) (base:=base) T
 refine T.Bq.okE jw (fun vs H Q E h=>?_) (fun cC A outer s H vs Q E hr h hc hf L hpo=>?_)
 ·obtain ⟨U,f,p,rfl,_⟩:=h;rfl
 obtain ⟨U,f,p,rfl,ι,Z,D,nx,dom,tells,n,W,S,ask,hD,hU,hp,rW,sS,lW,lT,e0,q⟩:=h
 have hu:=kL hr
 have Mb:=hr.fY
 refine ⟨_,(by apply au;exact (cE (gI (cL (rK (k:=12) (hr.mono (by omega)) (av hc 1 (by decide +kernel)) (ae (av hc 2 (by decide +kernel)) ao)))) (by exact az (xJ (EH:=fun _=>E) T.nO T.ii_NoPeace T.if_NoPeace T.kc_NoPeace Ed T.ml (hr.mono (by omega)) (cW hc (by decide +kernel)) T.CN rfl L (av hc 2 (by decide +kernel)))) bF);apply au;exact (aM hc jw.nd hf 3 (by decide +kernel) (av hc 2 (by decide +kernel)));apply au;exact (dB hpo rfl (fE (aD Ec (hr.mono (by omega)) (cW hc (by decide +kernel)) T.CK T.tZ.kp T.DY .nil bt (ae (av hc 0 (by decide +kernel)) (ae (av hc 2 (by decide +kernel)) ao)))) (nI hc jw.nd hf 4 (by decide +kernel)) (by apply au;exact (aM hc jw.nd hf 5 (by decide +kernel) (aD JR (hr.mono (by omega)) (cW hc (by decide +kernel)) T.HF T.xE.kp T.JF .nil bt (ae (aV v3 (av hc 3 (by decide +kernel)) (iN (ae (av hc 4 (by decide +kernel)) ao))) ao)));exact az (cE (cL (rK (k:=12) (hr.mono (by omega)) (av hc 1 (by decide +kernel)) (ae (av hc 5 (by decide +kernel)) ao))) (by exact az (aM hc jw.nd hf 3 (by decide +kernel) (av hc 5 (by decide +kernel)))) bF)));exact az (aR (av hc 3 (by decide +kernel)))),?_⟩
 repeat (walk_at "rl")
 obtain ⟨sp,Ph,run⟩:=ask.run
 refine ⟨ask.fn _ _ hD,ask.fn _ _ hD,sp,Ph,run n H p S _ hD trivial hp (lT S sS) fun H1 w5 k1=>⟨_,rfl,?_⟩⟩
 have o7:=ask.tup hD k1 hp
 have hU1:=ask.tup hD k1 hU
 rw [e0,if_neg (by decide)]
 repeat (walk_at "rl")
 refine ⟨U,p,rfl,W,S,hU1,o7,by omega,fun R H2 s2 hR hR2=>?_⟩
 repeat (walk_at "rl")
 refine ⟨⟨_,bR hR2⟩,?_⟩
 have lr:(bq W S).length<=W.length:=List.length_filter_le _ _
 have Al:=ask.st _ _ _ w5 s2
 have k2:=k1.trans (Er.of s2)
 obtain ⟨Pv,cO⟩:∃Pv:Nat->St->Hp->Prop,∀i σ' H',Pv i σ' H'↔∃(c:Addr) (x y:Option V),σ'=[some (.ref U),some (.ref f),some (.ref p),some (.ref c),x,y]/\D (eF tells nx W ((bq W S).take i) (S,nx n S)).2 H'/\Er Z H H'/\(H' R=some (.tup (List.map V.int (bq W S))))/\H' c=some (.tup (List.map V.int (cq tells W ((bq W S).take i) S))):=⟨_,fun _ _ _=>Iff.rfl⟩
 refine gp (xs:=List.map V.int (bq W S)) Pv ((cO _ _ _).mpr ⟨p,none,none,rfl,Al,k2,hR2,s2 _ _ o7⟩) (fun i σ' H' _ pv=>?_) (fun i z σ' H3 hz pv=>?_) (fun σ' H3 pv=>?_)
 ·obtain ⟨c,_,_,_,_,_,hR',_⟩:=(cO _ _ _).mp pv
  exact hR'
 ·obtain ⟨c,x,y,rfl,Dn,k3,VB,SJ⟩:=(cO _ _ _).mp pv
  obtain ⟨m,em,rfl⟩:=int_at hz
  have hi:i < (bq W S).length:=(List.getElem?_eq_some_iff.mp em).1
  have hmW:m∈W:=(List.mem_filter.mp (List.mem_of_getElem? em)).1
  have step:cq tells W ((bq W S).take (i+1)) S=if tells (aU W (cq tells W ((bq W S).take i) S) m)=true then aU W (cq tells W ((bq W S).take i) S) m else cq tells W ((bq W S).take i) S:=by
   unfold cq
   rw [List.take_add_one,em,List.foldl_append]
   rfl
  have stepI:(eF tells nx W ((bq W S).take (i+1)) (S,nx n S)).2=nx (eF tells nx W ((bq W S).take i) (S,nx n S)).2 (aU W (cq tells W ((bq W S).take i) S) m):=by
   rw [<-n6 tells nx W _ (S,nx n S)]
   unfold eF
   rw [List.take_add_one,em,List.foldl_append]
   rfl
  have sub:=n8 tells W ((bq W S).take i) S sS
  generalize (eF tells nx W ((bq W S).take i) (S,nx n S)).2=I at Dn stepI
  generalize cq tells W ((bq W S).take i) S=C at SJ step stepI sub
  have lC:=sub.length_le
  repeat (walk_at "rl")
  refine ⟨by decide,fun p1 o7=>?_⟩
  have s4:=aK o7 (.tup [V.int m])
  refine ⟨_,s4 _ _ SJ,by rw [List.length_map];exact bY (by omega),fun p2 H5 s5 _ hp5=>?_⟩
  have s35:=s4.trans s5
  refine ⟨p2,rfl,C++[m],by rw [hp5,List.map_append];rfl,by rw [List.length_append];simp;omega,fun r ms H6 s6 _ hr6 rm mm=>?_⟩
  have WY:=s35.trans s6
  have em2:ms=aU W C m:=kc rm (rW.sublist (dg W C m)) fun z=>by
   rw [mm]
   unfold aU
   rw [List.mem_filter,decide_eq_true_eq,List.mem_append,List.mem_singleton]
   exact ⟨fun h=>⟨h.elim (fun a=>sub.subset a) fun e=>e ▸ hmW,h⟩,fun h=>h.2⟩
  subst em2
  have J4:=ask.st _ _ _ Dn WY
  have k6:=k3.trans (Er.of WY)
  repeat (walk_at "rl")
  refine ⟨ask.fn _ _ J4,ask.fn _ _ J4,sp,Ph,run _ H6 r _ _ J4 trivial hr6 (lT _ (dg W C m)) fun H7 hD7 k7=>⟨_,rfl,?_⟩⟩
  have hc7:=ask.tup J4 k7 (WY _ _ SJ)
  have hr7:=ask.tup J4 k7 hr6
  have hR7:=ask.tup J4 k7 (WY _ _ VB)
  have k67:=k6.trans k7
  cases e5:tells (aU W C m) with
  | true=>
   rw [if_pos rfl]
   exact (cO _ _ _).mpr ⟨r,_,_,rfl,by rw [stepI];exact hD7,k67,hR7,by rw [step,e5,if_pos rfl];exact hr7⟩
  | false=>
   rw [if_neg (by decide)]
   exact (cO _ _ _).mpr ⟨c,_,_,rfl,by rw [stepI];exact hD7,k67,hR7,by rw [step,e5,if_neg (by decide)];exact hc7⟩
 obtain ⟨c,x,y,rfl,Dn,k3,VB,SJ⟩:=(cO _ _ _).mp pv
 rw [List.length_map,List.take_length,iW rW W S sS fun z hz=>hz] at SJ
 rw [List.length_map,List.take_length] at Dn
 repeat (walk_at "rl")
 exact q c H3 Dn k3 SJ
end
local macro_rules | `(tactic| walk_at "rd") => `(tactic| walk_at "rc")
local macro_rules | `(tactic| walk_at "rl") => `(tactic| first | (refine dR fun R hR => ?_) | walk_at "ry" | (refine Nx.to (by assumption) _ _ ?_))
def cov (pe:Bool) (S T:List Int):Bool:=(pe && aA T S) || (!pe && aA S T)
theorem uX {S T:List Int} (h:S.map (Sum.inl:Int->Key)=T.map Sum.inl):S=T:=(List.map_inj_right fun _ _ e=>Sum.inl.inj e).mp h
def TQ (f l d u:Addr):List (Str×V):=[("ask",.ref f),("askings",.ref l),("known",.ref d),("unknown",.ref u)]
def Kk (C:Addr):Sp:=fun vs H Q _=>∃x f u dx,vs=[.ref x,.ref f,.ref u]/\H x=some (.ins C dx [])/\
 ∀l d H',H l=none->H d=none->H' x=some (.ins C dx (TQ f l d u))->H' l=some (.lst [])->H' d=some (.dT [])->(∀b o,b≠x->H b=some o->H' b=some o)->Q .non H'
def Kn (C:Addr):Sp:=fun vs H Q _=>∃x p pe,vs=[.ref x,.ref p,.bl pe]/\∃dx f l d u,∃(S:List Int) (mC:List (List Int)) (us:List Addr) (aE:List (List Key×V)),
 H x=some (.ins C dx (TQ f l d u))/\H p=some (.tup (List.map V.int S))/\H u=some (.lst (List.map V.ref us))/\aG H us mC/\H d=some (.dT aE)/\aE.length+mC.length<=900/\
 ∀H' u' us' QW,H u'=none->H' x=some (.ins C dx (TQ f l d u'))->H' u'=some (.lst (List.map V.ref us'))->aG H' us' (mC.filter fun T=>!cov pe S T)->H' d=some (.dT QW)->QW.length+(mC.filter fun T=>!cov pe S T).length<=aE.length+mC.length->
  (∀T,dM QW (T.map Sum.inl)=if T∈mC/\cov pe S T=true then some (.bl pe) else dM aE (T.map Sum.inl))->(∀b o,b≠x->b≠d->H b=some o->H' b=some o)->Q .non H'
section
variable {P:Program} {w:World} {K:PySem.W.Frag} {mg:Str->Option Value} {base:Heap} {t:oX}
theorem Hq (T:Txt K mg t):bO P w K mg base eL 1 t.bj t.dI ["self","ask","parts"] (Kk t.ay):=by
 refine T.kG.pD jx (fun vs H Q E h=>?_) (fun cC A outer s H vs Q E hr h hc hf=>?_)
 ·obtain ⟨x,f,u,dx,rfl,_⟩:=h;rfl
 obtain ⟨x,f,u,dx,rfl,hx,q⟩:=h
 refine ⟨_,(by apply au;exact (mJ (av hc 0 (by decide +kernel)) (av hc 1 (by decide +kernel)) rfl);apply au;exact (mJ (av hc 0 (by decide +kernel)) (dO ao) rfl);apply au;exact (mJ (av hc 0 (by decide +kernel)) rJ rfl);exact az (mJ (av hc 0 (by decide +kernel)) (av hc 2 (by decide +kernel)) rfl)),?_⟩
 repeat (walk_at "rd")
 refine ⟨t.ay,dx,[],hx,T.aL,T.jf,by decide,Nat.zero_le _,fun l hl=>?_⟩
 have Mp:l≠x:=fun e=>by rw [e,ah] at hl;cases hl
 refine ⟨t.ay,dx,[("ask",.ref f)],by rw [aq Mp.symm,ah];rfl,T.aL,T.cp,(by show 1 < 1000;decide),fun d hd=>?_⟩
 have yN:d≠x:=fun e=>by rw [e,ah] at hd;cases hd
 rw [aq yN] at hd
 have Ox:d≠l:=fun e=>by rw [e,ah] at hd;cases hd
 rw [aq Ox,aq yN] at hd
 rw [aq Mp] at hl
 refine ⟨t.ay,dx,[("ask",.ref f),("askings",.ref l)],by rw [aq yN.symm,ah];rfl,T.aL,T.bM,(by show 2 < 1000;decide),t.ay,dx,[("ask",.ref f),("askings",.ref l),("known",.ref d)],rfl,T.aL,T.ck,(by show 3 < 1000;decide),?_⟩
 refine q l d _ hl hd (by rw [ah];rfl) (by rw [aq Mp,aq Ox.symm,aq Mp,ah]) (by rw [aq yN,ah]) fun b o hb e=>?_
 rw [aq hb,aq (aj e hd),aq hb,aq (aj e hl),aq hb]
 exact e
theorem Hn (T:Txt K mg t):bO P w K mg base eL 2 t.bI t.ft ["self","part","peaceful"] (Kn t.ay):=by
 have fV:=lM (P:=P) (w:=w) (base:=base) T
 refine T.oF.pD eM (fun vs H Q E h=>?_) (fun cC A outer s H vs Q E hr h hc hf=>?_)
 ·obtain ⟨x,p,pe,rfl,_⟩:=h;rfl
 obtain ⟨x,p,pe,rfl,dx,f,l,d,u,S,mC,us,aE,hx,hp,Mf,su,hd,lk,q⟩:=h
 have hu:=kL hr
 have Mb:=hr.fY
 refine ⟨_,(by apply au;exact (aM hc eM.nd hf 3 (by decide +kernel) (dO ao));apply au;exact (dB PassesOwn.never rfl (dq (dP (av hc 0 (by decide +kernel)) rfl)) (nI hc eM.nd hf 4 (by decide +kernel)) (by exact az (cE (pL (xI (pL (pd (cL (av hc 2 (by decide +kernel))) (mH (cL (aD fV (hr.mono (by omega)) (cW hc (by decide +kernel)) T.kf T.iJ.kp T.km .nil bt (ae (av hc 4 (by decide +kernel)) (ae (av hc 1 (by decide +kernel)) ao))))))) (t5 (pL (pd (gI (cL (av hc 2 (by decide +kernel)))) (mH (cL (aD fV (hr.mono (by omega)) (cW hc (by decide +kernel)) T.kf T.iJ.kp T.km .nil bt (ae (av hc 1 (by decide +kernel)) (ae (av hc 4 (by decide +kernel)) ao)))))))))) (by exact az (mK hu (dP (av hc 0 (by decide +kernel)) rfl) (av hc 4 (by decide +kernel)) (av hc 2 (by decide +kernel)) rfl)) (by exact az (cZ (nL PySem.F.plainAttrs_list PySem.F.slot_list_append PySem.F.type_list_append fh (av hc 3 (by decide +kernel)) (ae (av hc 4 (by decide +kernel)) ao)))))));exact az (mJ (av hc 0 (by decide +kernel)) (av hc 3 (by decide +kernel)) rfl)),?_⟩
 repeat (walk_at "rd")
 refine ⟨Nat.zero_le _,fun L hL=>?_⟩
 have s0:=aK hL (.lst [])
 have Ae:=s0 _ _ hx
 have Mj:=s0 _ _ hp
 have Ss:=s0 _ _ Mf
 have Aj:=s0 _ _ hd
 have WR:aG (upd H L (.lst [])) us mC:=su.mono fun b xs e=>s0 _ _ e
 have RL:upd H L (.lst []) L=some (.lst []):=ah
 have yN:d≠x:=aY hd hx (by intro z;cases z)
 have hdL:d≠L:=aj hd hL
 have hxL:x≠L:=aj hx hL
 have huL:u≠L:=aj Mf hL
 have hud:u≠d:=aY Mf hd (by intro z;cases z)
 generalize upd H L (.lst [])=H0 at s0 Ae Mj Ss Aj WR RL ⊢
 refine ⟨t.ay,dx,_,Ae,T.aL,T.ck,.ref u,rfl,u,rfl,⟨_,bC Ss⟩,?_⟩
 obtain ⟨Pv,cO⟩:∃Pv:Nat->St->Hp->Prop,∀i σ' H',Pv i σ' H'↔∃(z:Option V) (cs:List Addr) (kv:List (List Key×V)),σ'=[some (.ref x),some (.ref p),some (.bl pe),some (.ref L),z]/\H' L=some (.lst (List.map V.ref cs))/\aG H' cs ((mC.take i).filter fun T=>!cov pe S T)/\H' d=some (.dT kv)/\
  kv.length+((mC.take i).filter fun T=>!cov pe S T).length<=aE.length+i/\(∀T,dM kv (T.map Sum.inl)=if T∈mC.take i/\cov pe S T=true then some (.bl pe) else dM aE (T.map Sum.inl))/\(∀b o,b≠d->b≠L->H0 b=some o->H' b=some o):=⟨_,fun _ _ _=>Iff.rfl⟩
 refine eI (xs:=List.map V.ref us) Pv ((cO _ _ _).mpr ⟨none,[],aE,rfl,RL,⟨rfl,fun i b t e=>by simp at e⟩,Aj,by simp,fun T=>by simp,fun b o _ _ e=>e⟩) (fun i σ' H1 _ pv=>?_) (fun i z σ' H1 hz pv=>?_) (fun σ' H1 pv=>?_)
 ·obtain ⟨_,_,_,_,_,_,_,_,_,k⟩:=(cO _ _ _).mp pv
  exact k _ _ hud huL Ss
 ·obtain ⟨y,cs,kv,rfl,Ak,sc,Iu,lkv,Ma,k⟩:=(cO _ _ _).mp pv
  obtain ⟨b,eb,rfl⟩:=fO hz
  have hi:i < us.length:=(List.getElem?_eq_some_iff.mp eb).1
  have mE:i < mC.length:=by have:=WR.1;omega
  have et:mC[i]? = some mC[i]:=List.getElem?_eq_getElem mE
  have Oz:=WR.2 i b _ eb et
  have tk:mC.take (i+1)=mC.take i++[mC[i]]:=by rw [List.take_add_one,et];rfl
  have Em:=k _ _ (aY Oz Aj (by intro z;cases z)) (aY Oz RL (by intro z;cases z)) Oz
  have o7:=k _ _ (aY Mj Aj (by intro z;cases z)) (aY Mj RL (by intro z;cases z)) Mj
  have uZ:=k _ _ yN.symm hxL Ae
  generalize mC[i]=U at Oz tk Em et
  have lcs:=sc.1
  have lfl:((mC.take i).filter fun T=>!cov pe S T).length<=900:=by
   have:=List.length_filter_le (fun T=>!cov pe S T) (mC.take i)
   rw [List.length_take] at this
   omega
  have yes:cov pe S U=true->Pv (i+1) [some (.ref x),some (.ref p),some (.bl pe),some (.ref L),some (.ref b)] (upd H1 d (.dT (putK kv (U.map Sum.inl) (.bl pe)))):=fun c=>by
   have fl:((mC.take (i+1)).filter fun T=>!cov pe S T)=(mC.take i).filter fun T=>!cov pe S T:=by rw [tk,List.filter_append];simp [c]
   refine (cO _ _ _).mpr ⟨_,cs,putK kv (U.map Sum.inl) (.bl pe),rfl,by rw [aq hdL.symm];exact Ak,?_,ah,?_,fun T=>?_,fun b o h1 h2 e=>by rw [aq h1];exact k b o h1 h2 e⟩
   ·rw [fl]
    exact sc.mono fun b xs e=>by rw [aq (aY e Iu (by intro z;cases z))];exact e
   ·rw [fl]
    have:=jJ kv (U.map Sum.inl) (.bl pe)
    omega
   ·rw [Fc,Ma,tk]
    by_cases e:T=U
    ·rw [if_pos (by rw [e]),if_pos ⟨by simp [e],by rw [e];exact c⟩]
    ·rw [if_neg fun z=>e (uX z)]
     have:(T∈mC.take i++[U])=(T∈mC.take i):=by simp [e]
     simp only [this]
  have no:cov pe S U=false->Pv (i+1) [some (.ref x),some (.ref p),some (.bl pe),some (.ref L),some (.ref b)] (upd H1 L (.lst (List.map V.ref cs++[V.ref b]))):=fun c=>by
   have fl:((mC.take (i+1)).filter fun T=>!cov pe S T)=((mC.take i).filter fun T=>!cov pe S T)++[U]:=by rw [tk,List.filter_append];simp [c]
   refine (cO _ _ _).mpr ⟨_,cs++[b],kv,rfl,by rw [ah,List.map_append];rfl,?_,by rw [aq hdL];exact Iu,?_,fun T=>?_,fun b o h1 h2 e=>by rw [aq h2];exact k b o h1 h2 e⟩
   ·rw [fl]
    exact (sc.snoc Em).mono fun b xs e=>by rw [aq (aY e Ak (by intro z;cases z))];exact e
   ·rw [fl,List.length_append,List.length_singleton]
    omega
   ·rw [Ma,tk]
    by_cases e:T=U
    ·have:¬(T∈mC.take i/\cov pe S T=true):=fun z=>by rw [e,c] at z;cases z.2
     rw [if_neg this,if_neg fun z=>by rw [e,c] at z;cases z.2]
    ·have:(T∈mC.take i++[U])=(T∈mC.take i):=by simp [e]
     simp only [this]
  cases pe with
  | true=>
   repeat (walk_at "rd")
   refine ⟨b,p,rfl,U,S,Em,o7,_,rfl,?_⟩
   have ec:cov true S U=aA U S:=by simp [cov]
   rw [<-ec]
   cases c:cov true S U with
   | true=>
    rw [if_pos rfl]
    simp only [pY]
    repeat (walk_at "rd")
    exact ⟨t.ay,dx,_,uZ,T.aL,T.bM,.ref d,rfl,d,rfl,_,qN.t (k:=U.map Sum.inl) Iu (by rw [jH];exact Em) (bY (by omega)),yes c⟩
   | false=>
    rw [if_neg (by decide)]
    repeat (walk_at "rd")
    exact ⟨.inl ⟨rfl,_,bC Ak⟩,_,Ak,by rw [List.length_map];exact bY (by omega),no c⟩
  | false=>
   repeat (walk_at "rd")
   refine ⟨p,b,rfl,S,U,o7,Em,_,rfl,?_⟩
   have ec:cov false S U=aA S U:=by simp [cov]
   rw [<-ec]
   cases c:cov false S U with
   | true=>
    rw [if_pos rfl]
    simp only [pY]
    repeat (walk_at "rd")
    exact ⟨t.ay,dx,_,uZ,T.aL,T.bM,.ref d,rfl,d,rfl,_,qN.t (k:=U.map Sum.inl) Iu (by rw [jH];exact Em) (bY (by omega)),yes c⟩
   | false=>
    rw [if_neg (by decide)]
    repeat (walk_at "rd")
    exact ⟨.inl ⟨rfl,_,bC Ak⟩,_,Ak,by rw [List.length_map];exact bY (by omega),no c⟩
 ·obtain ⟨y,cs,kv,rfl,Ak,sc,Iu,lkv,Ma,k⟩:=(cO _ _ _).mp pv
  have hlen:(List.map V.ref us).length=mC.length:=by rw [List.length_map,WR.1]
  rw [hlen,List.take_length] at sc lkv
  rw [hlen,List.take_length] at Ma
  have uZ:=k _ _ yN.symm hxL Ae
  repeat (walk_at "rd")
  refine ⟨t.ay,dx,_,uZ,T.aL,T.ck,(by show 4 < 1000;decide),?_⟩
  have nx:∀{b:Addr} {o:HO},H1 b=some o->b≠x->upd H1 x (.ins t.ay dx (jz (Str.ofString "unknown") (V.ref L) (TQ f l d u))) b=some o:=fun e h=>by rw [aq h];exact e
  refine q _ L cs kv hL (by rw [ah];rfl) (nx Ak hxL.symm) (sc.mono fun b xs e=>nx e (aY e uZ (by intro z;cases z))) (nx Iu yN) lkv Ma fun b o h1 h2 e=>nx (k b o h2 (aj e hL) (s0 _ _ e)) h1
end
local macro_rules | `(tactic| walk_at "rd") => `(tactic| walk_at "rc")
local macro_rules | `(tactic| walk_at "rl") => `(tactic| first | (refine dR fun R hR => ?_) | walk_at "ry" | (refine Nx.to (by assumption) _ _ ?_))
def det (tells:List Int->Bool) (as:List (List Int)) (T:List Int):Bool:=as.any fun a=>cov (tells a) a T
def eK (tells:List Int->Bool) (as:List (List Int)) (S:List Int):List (List Int):=if det tells as S=true then as else as++[S]
structure NC (P:Program) (w:World) (K:PySem.W.Frag) (mg:Str->Option Value) (base:Heap) (k:Nat) (f:Addr) {ι:Type} (Z own:Addr->Prop) (D:ι->Hp->Prop) (nx:ι->List Int->ι) (lim:ι->Prop) (dom:List Int->Prop) (tells:List Int->Bool):Prop where
 g:JT P w K mg base k f Z D nx lim dom tells
 zo:∀b,Z b->own b
 od:∀i H b,D i H->own b->H b≠none
 os:∀i H H',D i H->(∀b o,(own b\/∃xs,o=.tup xs)->H b=some o->H' b=some o)->D i H'
def gT (own:Addr->Prop) (H:Hp) (C x f l d:Addr) (ps:List (List Int)) (tells:List Int->Bool) (as:List (List Int)):Prop:=
 ∃(dx u:Addr) (bs us:List Addr) (aE:List (List Key×V)),H x=some (.ins C dx (TQ f l d u))/\H l=some (.lst (List.map V.ref bs))/\aG H bs as/\H d=some (.dT aE)/\(∀S∈ps,dM aE (S.map Sum.inl)=if det tells as S=true then some (.bl (tells S)) else none)/\
  H u=some (.lst (List.map V.ref us))/\aG H us (ps.filter fun T=>!det tells as T)/\aE.length+(ps.filter fun T=>!det tells as T).length<=ps.length/\u≠l/\¬own u/\as.Nodup/\∀s∈as,s∈ps
def j4 (ps:List (List Int)) (tells:List Int->Bool):Prop:=∀S∈ps,∀T∈ps,aA S T=true->tells T=true->tells S=true
theorem wG (S:List Int):aA S S=true:=by unfold aA;simp
theorem Jq (b:Bool) (S:List Int):cov b S S=true:=by unfold cov;rw [wG];cases b <;> rfl
theorem xf (tells:List Int->Bool) (as:List (List Int)) (S T:List Int):det tells (as++[S]) T=(det tells as T || cov (tells S) S T):=by unfold det;rw [List.any_append];simp
theorem kh {tells:List Int->Bool} {as:List (List Int)} {S:List Int} (h:S∈as):det tells as S=true:=List.any_eq_true.mpr ⟨S,h,Jq _ _⟩
theorem gT.keep {own:Addr->Prop} {H H':Hp} {C x f l d:Addr} {ps:List (List Int)} {tells:List Int->Bool} {as:List (List Int)} (h:gT own H C x f l d ps tells as) (k:∀b o,(∀o',o≠cS o')->(∀tb,o≠.mD tb)->H b=some o->H' b=some o):gT own H' C x f l d ps tells as:=by
 have p1:∀{xs:List V} (o':Obj),HO.lst xs≠cS o':=fun _ z=>by cases z
 have q1:∀{xs:List V} (tb:Array Value),HO.lst xs≠.mD tb:=fun _ z=>by cases z
 have q2:∀{xs:List V} (tb:Array Value),HO.tup xs≠.mD tb:=fun _ z=>by cases z
 have p2:∀{xs:List V} (o':Obj),HO.tup xs≠cS o':=fun _ z=>by cases z
 obtain ⟨dx,u,bs,us,aE,h1,h2,h3,h4,h5,h6,h7,h8⟩:=h
 exact ⟨dx,u,bs,us,aE,k _ _ (by intro o z;cases z) (by intro o z;cases z) h1,k _ _ p1 q1 h2,h3.mono fun _ _ e=>k _ _ p2 q2 e,k _ _ (by intro o z;cases z) (by intro o z;cases z) h4,h5,k _ _ p1 q1 h6,h7.mono fun _ _ e=>k _ _ p2 q2 e,h8⟩
theorem Pk {ps as:List (List Int)} (nd:as.Nodup) (h:∀s∈as,s∈ps):as.length<=ps.length:=cU nd h
def vP (P:Program) (w:World) (K:PySem.W.Frag) (mg:Str->Option Value) (base:Heap) (C:Addr):Sp:=fun vs H Q _=>∃x p,vs=[.ref x,.ref p]/\∃(ι:Type) (Z own:Addr->Prop) (D:ι->Hp->Prop) (nx:ι->List Int->ι) (lim:ι->Prop) (dom:List Int->Prop) (tells:List Int->Bool) (i0:ι) (f l d:Addr) (ps as:List (List Int)) (S:List Int),
 NC P w K mg base 8 f Z own D nx lim dom tells/\D (as.foldl nx i0) H/\(∀ts:List (List Int),ts.length<=100->lim (ts.foldl nx i0))/\j4 ps tells/\gT own H C x f l d ps tells as/\H p=some (.tup (List.map V.int S))/\S∈ps/\ps.length<=100/\(∀s∈ps,dom s)/\¬own x/\¬own l/\¬own d/\
 ∀H',gT own H' C x f l d ps tells (eK tells as S)->D ((eK tells as S).foldl nx i0) H'->(∀b o,¬Z b->b≠x->b≠l->b≠d->H b=some o->H' b=some o)->Q (.bl (tells S)) H'
section
variable {P:Program} {w:World} {K:PySem.W.Frag} {mg:Str->Option Value} {base:Heap} {t:oX}
theorem sP (T:Txt K mg t):bO P w K mg base eL 9 t.bH t.fq ["self","part"] (vP P w K mg base t.ay):=by
 have oC:=Hn (P:=P) (w:=w) (base:=base) T
 refine T.oE.pD mZ (fun vs H Q E h=>?_) (fun cC A outer s H vs Q E hr h hc hf=>?_)
 ·obtain ⟨x,p,rfl,_⟩:=h;rfl
 obtain ⟨x,p,rfl,ι,Z,own,D,nx,lim,dom,tells,i0,f,l,d,ps,as,S,ask,hD,wW,mono,snd,hp,hS,lps,lT,qP,QC,QF,q⟩:=h
 have hu:=kL hr
 have Mb:=hr.fY
 have P0:=snd
 obtain ⟨dx,u,bs,us,aE,hx,hl,sbs,hd,Sw,Mf,X9,lk,hul,Z2,nd,sub⟩:=snd
 refine ⟨_,(by apply js;exact (cE (J6 (xK hu (av hc 1 (by decide +kernel)) (dP (av hc 0 (by decide +kernel)) rfl))) (by apply au;exact (cZ (nL PySem.F.plainAttrs_list PySem.F.slot_list_append PySem.F.type_list_append fh (dP (av hc 0 (by decide +kernel)) rfl) (ae (av hc 1 (by decide +kernel)) ao)));exact az (cZ (pK (av hc 0 (by decide +kernel)) T.aL T.nh oC (hr.mono (by omega)) T.oy .nil bt (ae (av hc 1 (by decide +kernel)) (ae (Bu (k:=8) (hr.mono (by omega)) (av hc 0 (by decide +kernel)) (ae (av hc 1 (by decide +kernel)) ao)) ao))))) bF);exact az (aR (mM hu (dP (av hc 0 (by decide +kernel)) rfl) (av hc 1 (by decide +kernel)) (fun _ _=>rfl)))),?_⟩
 unfold Kf
 refine ⟨fun σ' H'=>σ'=[some (.ref x),some (.ref p)]/\gT own H' t.ay x f l d ps tells (eK tells as S)/\D ((eK tells as S).foldl nx i0) H'/\(∀b o,¬Z b->b≠x->b≠l->b≠d->H b=some o->H' b=some o),?_,fun σ' H' hN=>?_⟩
 ·repeat (first | walk_at "rl" | simp only [ua])
  refine ⟨t.ay,dx,_,hx,T.aL,T.bM,.ref d,rfl,d,rfl,_,nF.t (k:=S.map Sum.inl) hd (by rw [jH];exact hp),?_⟩
  rw [Sw S hS]
  cases c:det tells as S with
  | true=>
   rw [if_pos rfl]
   simp only [Option.isSome_some,Bool.not_true]
   repeat (walk_at "rl")
   rw [show eK tells as S=as from if_pos c]
   exact ⟨P0,hD,fun b o _ _ _ _ e=>e⟩
  | false=>
   rw [show (if false=true then some (V.bl (tells S)) else none)=none from rfl]
   simp only [Option.isSome_none,Bool.not_false]
   repeat (walk_at "rl")
   have lbs:=sbs.1
   have L1:=Pk nd sub
   have Mp:l≠x:=aY hl hx (by intro z;cases z)
   have hld:l≠d:=aY hl hd (by intro z;cases z)
   have yN:d≠x:=aY hd hx (by intro z;cases z)
   have hux:u≠x:=aY Mf hx (by intro z;cases z)
   have hud:u≠d:=aY Mf hd (by intro z;cases z)
   refine ⟨t.ay,dx,_,hx,T.aL,T.cp,.ref l,rfl,.inl ⟨rfl,_,bC hl⟩,l,rfl,_,hl,by rw [List.length_map];exact bY (by omega),?_⟩
   have k1:∀b o,b≠l->H b=some o->upd H l (.lst (List.map V.ref bs++[V.ref p])) b=some o:=fun b o h e=>by rw [aq h];exact e
   have rn:upd H l (.lst (List.map V.ref bs++[V.ref p])) l=some (.lst (List.map V.ref (bs++[p]))):=by rw [ah,List.map_append];rfl
   generalize upd H l (.lst (List.map V.ref bs++[V.ref p]))=H1 at k1 rn ⊢
   have kt1:∀{b:Addr} {xs:List V},H b=some (.tup xs)->H1 b=some (.tup xs):=fun e=>k1 _ _ (aY e hl (by intro z;cases z)) e
   have w5:D (as.foldl nx i0) H1:=ask.os _ _ _ hD fun b o h e=>k1 b o (h.elim (fun h z=>QC (z ▸ h)) fun ⟨xs,ho⟩=>aY e hl (by rw [ho];intro z;cases z)) e
   have uZ:=k1 _ _ Mp.symm hx
   have o7:=kt1 hp
   repeat (walk_at "rl")
   obtain ⟨sp,Ph,run⟩:=ask.g.run
   refine ⟨dx,_,uZ,rfl,t.ay,dx,_,uZ,T.aL,T.jf,f,rfl,ask.g.fn _ _ w5,ask.g.fn _ _ w5,sp,Ph,run _ H1 p S _ w5 (wW as (by omega)) o7 (lT S hS) fun H2 Al k2=>?_⟩
   have nz:∀{b:Addr},¬own b->¬Z b:=fun h z=>h (ask.zo _ z)
   have W9:∀{b:Addr} {xs:List V},H b=some (.tup xs)->H2 b=some (.tup xs):=fun e=>ask.g.tup w5 k2 (kt1 e)
   have Ei:=k2 _ _ (nz qP) uZ
   have Ai:=k2 _ _ (nz QC) rn
   have hd2:=k2 _ _ (nz QF) (k1 _ _ hld.symm hd)
   have Xe:=k2 _ _ (nz Z2) (k1 _ _ hul Mf)
   have X8:aG H2 us (ps.filter fun T=>!det tells as T):=X9.mono fun b xs e=>W9 e
   refine ⟨x,p,tells S,rfl,dx,f,l,d,u,S,_,us,aE,Ei,W9 hp,Xe,X8,hd2,by omega,fun H3 u3 Si Uz U1 Ih Ah BP Sz lk3 hv3 k3=>?_⟩
   have enx:eK tells as S=as++[S]:=if_neg (by rw [c];decide)
   have efl:((ps.filter fun T=>!det tells as T).filter fun T=>!cov (tells S) S T)=ps.filter fun T=>!det tells (as++[S]) T:=by
    rw [List.filter_filter]
    congr 1
    funext T
    rw [xf]
    cases det tells as T <;> cases cov (tells S) S T <;> rfl
   rw [efl] at BP lk3
   have kt3:∀{b:Addr} {xs:List V},H2 b=some (.tup xs)->H3 b=some (.tup xs):=fun e=>k3 _ _ (aY e Ei (by intro z;cases z)) (aY e hd2 (by intro z;cases z)) e
   have aAG:=k3 _ _ Mp hld Ai
   rw [enx]
   refine ⟨⟨dx,u3,bs++[p],Si,Uz,Ih,aAG,(sbs.mono fun b xs e=>kt3 (W9 e)).snoc (kt3 (W9 hp)),Sz,fun T hT=>?_,Ah,BP,by omega,(aj Ai U1).symm,fun z=>ask.od _ _ _ Al z U1,?_,?_⟩,?_,fun b o h1 h2 h3 h4 e=>k3 _ _ h2 h4 (k2 _ _ h1 (k1 _ _ h3 e))⟩
   ·rw [hv3,Sw T hT,xf]
    by_cases e1:det tells as T=true
    ·have nin:¬(T∈(ps.filter fun T=>!det tells as T)/\cov (tells S) S T=true):=fun z=>by
      have:=(List.mem_filter.mp z.1).2
      rw [e1] at this
      cases this
     rw [if_neg nin,if_pos e1,if_pos (by rw [e1];rfl)]
    ·have Ap:=eq_false_of_ne_true e1
     rw [Ap,Bool.false_or]
     by_cases e2:cov (tells S) S T=true
     ·rw [if_pos ⟨List.mem_filter.mpr ⟨hT,by rw [Ap];rfl⟩,e2⟩,if_pos e2]
      congr 2
      unfold cov at e2
      cases eS:tells S with
      | true=>
       rw [eS] at e2
       simp at e2
       exact (mono T hT S hS e2 eS).symm
      | false=>
       rw [eS] at e2
       simp at e2
       cases eT:tells T with
       | true=>have:=mono S hS T hT e2 eT;rw [eS] at this;cases this
       | false=>rfl
     ·rw [if_neg fun z=>e2 z.2,if_neg e2];rfl
   ·refine List.nodup_append.mpr ⟨nd,by simp,fun a ha b hb z=>?_⟩
    rw [List.mem_singleton] at hb
    rw [z,hb] at ha
    rw [kh ha] at c
    cases c
   ·intro s hs
    rcases List.mem_append.mp hs with z | z
    ·exact sub s z
    ·rw [List.mem_singleton.mp z];exact hS
   ·rw [List.foldl_append]
    exact ask.os _ _ _ Al fun b o h e=>k3 b o (h.elim (fun h z=>qP (z ▸ h)) fun ⟨xs,ho⟩=>aY e Ei (by rw [ho];intro z;cases z)) (h.elim (fun h z=>QF (z ▸ h)) fun ⟨xs,ho⟩=>aY e hd2 (by rw [ho];intro z;cases z)) e
 ·obtain ⟨rfl,TB,w5,k1⟩:=hN
  have Yj:=TB
  obtain ⟨dx1,u1,bs1,us1,aBJ,uZ,rn,aBG,Iu,aAH,Ss,aBE,lk1,aBL,aBI,Z5,aBF⟩:=TB
  have dS:det tells (eK tells as S) S=true:=by
   unfold eK
   by_cases c:det tells as S=true
   ·rw [if_pos c];exact c
   ·rw [if_neg c];exact kh (by simp)
  have o7:H' p=some (.tup (List.map V.int S)):=k1 p _ (fun z=>ask.g.nt _ H p _ hD z hp) (aY hp hx (by intro z;cases z)) (aY hp hl (by intro z;cases z)) (aY hp hd (by intro z;cases z)) hp
  repeat (first | walk_at "rl" | simp only [rV])
  have e1:=aAH S hS
  rw [if_pos dS] at e1
  exact ⟨t.ay,dx1,_,uZ,T.aL,T.bM,.ref d,rfl,d,rfl,_,by rw [<-e1];exact nF.t (k:=S.map Sum.inl) Iu (by rw [jH];exact o7),q H' Yj w5 k1⟩
end
local macro_rules | `(tactic| walk_at "rd") => `(tactic| walk_at "rc")
local macro_rules | `(tactic| walk_at "rl") => `(tactic| first | (refine dR fun R hR => ?_) | walk_at "ry" | (refine Nx.to (by assumption) _ _ ?_))
def aH:Expr:=match aJ bD with
 | [_,.While _ [_,.If _ [.Expr (.Call _ [_,e,_] _ _) _] _ _] _ _,_,_,_]=>e
 | _=>.Name "" ⟨0,0,0,0⟩
def CW:Expr->Arguments
 | .Lambda a _ _ _=>a
 | _=>{ posonlyargs:=[],args:=[],vararg:=none,kwonlyargs:=[],kw_defaults:=[],kwarg:=none,defaults:=[] }
def CV:Expr->Expr
 | .Lambda _ b _ _=>b
 | e=>e
def yB:Expr->Scope
 | .Lambda _ _ s _=>s
 | _=>{ kind:=.function,names:=[],isGenerator:=false,isCoroutine:=false }
def CT:Expr->Pos
 | .Lambda _ _ _ p=>p
 | _=>⟨0,0,0,0⟩
def Tv (P:Program) (w:World) (K:PySem.W.Frag) (mg:Str->Option Value) (base:Heap) (C g c':Addr) (fo oc:Obj) (cl:List (Str×Addr)) (x:Addr):Sp:=fun vs H Q _=>∃p,vs=[.ref p]/\H g=some (cS fo)/\H c'=some (cS oc)/\∃Cs,cK Cs H/\CellsOk Cs cl ["sounding"] [.ref x]/\∃dx fs,aO Cs H x=some (.ins C dx fs)/\fs.lookup ("tells" : Str)=none/\
 vP P w K mg base C [.ref x,.ref p] (aO Cs H) (fun v H'=>cB Cs H'->Q v (dn Cs H')) E0
section
variable {P:Program} {w:World} {K:PySem.W.Frag} {mg:Str->Option Value} {base:Heap} {t:oX}
theorem Ng (T:Txt K mg t) {g c' x:Addr} {oc:Obj} {vE:Array Value} {tq:Tok} {qual:Str} {cl:List (Str×Addr)} {pm ctv:Value} (nG:oc.data=.fields vE) (hq:vE[1]? = some (.str qual tq))
  (nZ:∀x c,cl.lookup x=some c->x∈(["sounding"]:List Str)) (inj:∀x y c,cl.lookup x=some c->cl.lookup y=some c->x=y) :
  kX P w K mg base 12 g (Tv P w K mg base t.ay g c' (PySem.W.kla_obj "<lambda>" qual (CW aH) (CV aH) (yB aH) cl pm c' ctv) oc cl x):=by
 have fC:=sP (P:=P) (w:=w) (base:=base) T
 refine Nf (k:=11) (fo:=PySem.W.kla_obj "<lambda>" qual (CW aH) (CV aH) (yB aH) cl pm c' ctv) (oc:=oc) (name:="<lambda>") (qual:=qual) (params:=CW aH) (body:=CV aH) (scope:=yB aH) (cl:=cl) (pm:=pm) (ctv:=ctv) (ps:=["part"]) (fr:=["sounding"]) rfl nG hq rfl rfl rfl (by decide +kernel) (by decide +kernel) (by decide +kernel) (by decide +kernel) (fun x hx=>?_) nZ inj (fun us hu=>?_) fun vs H Q E h=>?_
 ·have:L2.freeOf (yB aH)=(["sounding"]:List Str):=by decide +kernel
  rw [<-this]
  exact List.mem_map.mpr ⟨(x,.free),List.mem_filter.mpr ⟨PySem.mem_of_lookup hx,rfl⟩,rfl⟩
 ·match us,hu with
  | [_],_=>rfl
 obtain ⟨p,rfl,hf,hV,C,pin,Jr,dx,fs,hx,J3,q⟩:=h
 refine ⟨C,[.ref x],rfl,hf,hV,pin,rfl,Jr,fun A outer s hr hc=>?_⟩
 refine ⟨_,(pK (av hc 1 (by decide +kernel)) T.aL T.gL fC (hr.mono (by omega)) T.iF .nil bt (ae (av hc 0 (by decide +kernel)) ao)),?_⟩
 repeat (walk_at "rl")
 exact ⟨_,_,hx,J3,q⟩
theorem Np (T:Txt K mg t) {g c' x f l d:Addr} {oc:Obj} {vE:Array Value} {tq:Tok} {qual:Str} {cl:List (Str×Addr)} {pm ctv:Value} (nG:oc.data=.fields vE) (hq:vE[1]? = some (.str qual tq))
  (nZ:∀x c,cl.lookup x=some c->x∈(["sounding"]:List Str)) (inj:∀x y c,cl.lookup x=some c->cl.lookup y=some c->x=y)
  {Cs:List (Addr×Obj)} (Jr:CellsOk Cs cl ["sounding"] [.ref x]) {ι:Type} {Z own:Addr->Prop} {D:ι->Hp->Prop} {nx:ι->List Int->ι} {lim:ι->Prop} {dom:List Int->Prop} {tells:List Int->Bool} (ask:NC P w K mg base 8 f Z own D nx lim dom tells)
  {i0:ι} (wW:∀ts:List (List Int),ts.length<=100->lim (ts.foldl nx i0)) {ps:List (List Int)} (mono:j4 ps tells) (lps:ps.length<=100) (lT:∀s∈ps,dom s) (qP:¬own x) (QC:¬own l) (QF:¬own d) (Z3:¬own g) (QG:¬own c') (W5:∀b o,Cs.lookup b=some o->¬own b) :
  JT P w K mg base 12 g (fun b=>Z b\/b=x\/b=l\/b=d) (fun as H=>H g=some (cS (PySem.W.kla_obj "<lambda>" qual (CW aH) (CV aH) (yB aH) cl pm c' ctv))/\H c'=some (cS oc)/\cK Cs H/\gT own H t.ay x f l d ps tells as/\D (as.foldl nx i0) H) (eK tells) (fun _=>True) (fun S=>S∈ps) tells:=by
 refine ⟨⟨_,Ng T (x:=x) (g:=g) (c':=c') (pm:=pm) (ctv:=ctv) nG hq nZ inj,fun as H p S Q hD _ hp hS q=>?_⟩,fun as H hD=>⟨_,_,hD.1,rfl⟩,fun as H H' hD s=>?_,fun as H b xs hD hz e=>?_⟩
 ·obtain ⟨h1,h2,h3,h4,h5⟩:=hD
  have out:∀{b:Addr} {o:HO},H b=some o->(∀o',o≠cS o')->aO Cs H b=some o:=fun e n=>by rw [aN (h3.out e n)];exact e
  have VJ:gT own (aO Cs H) t.ay x f l d ps tells as:=h4.keep fun b o n _ e=>out e n
  have h5':D (as.foldl nx i0) (aO Cs H):=ask.os _ _ _ h5 fun b o h e=>by
   rcases h with h | ⟨xs,rfl⟩
   ·cases z:Cs.lookup b with
    | none=>rw [aN z];exact e
    | some o'=>exact absurd h (W5 b o' z)
   ·exact out e (by intro o z;cases z)
  have aAQ:=VJ
  obtain ⟨dx,u,_,_,_,hx,hl,_,hd,_⟩:=aAQ
  have nz:∀{b:Addr},¬own b->¬Z b:=fun h z=>h (ask.zo _ z)
  refine ⟨p,rfl,h1,h2,Cs,h3,Jr,dx,_,hx,rfl,x,p,rfl,ι,Z,own,D,nx,lim,dom,tells,i0,f,l,d,ps,as,S,ask,h5',wW,mono,VJ,out hp (by intro o z;cases z),hS,lps,lT,qP,QC,QF,fun H' s' d' k' po=>?_⟩
  have keep:∀b o,¬Z b->b≠x->b≠l->b≠d->H b=some o->dn Cs H' b=some o:=fun b o n1 n2 n3 n4 e=>by
   cases z:Cs.lookup b with
   | some o'=>rw [gS z,<-h3 b o' z];exact e
   | none=>rw [bB z];exact k' b o n1 n2 n3 n4 (by rw [aN z];exact e)
  have ne:∀{b:Addr} {o':Obj},H b=some (cS o')->b≠x/\b≠l/\b≠d:=fun {b o'} e=>by
   have Qw:∀{a:Addr} {o:HO},aO Cs H a=some o->H a=some o:=fun {a o} e=>by
    cases z:Cs.lookup a with
    | none=>rw [aN z] at e;exact e
    | some o'=>rw [iA z] at e;cases e
   exact ⟨aY e (Qw hx) (by intro z;cases z),aY e (Qw hl) (by intro z;cases z),aY e (Qw hd) (by intro z;cases z)⟩
  refine q _ ⟨keep _ _ (nz Z3) (ne h1).1 (ne h1).2.1 (ne h1).2.2 h1,keep _ _ (nz QG) (ne h2).1 (ne h2).2.1 (ne h2).2.2 h2,cB.added,?_,?_⟩ fun b o n e=>keep b o (fun z=>n (.inl z)) (fun z=>n (.inr (.inl z))) (fun z=>n (.inr (.inr (.inl z)))) (fun z=>n (.inr (.inr (.inr z)))) e
  ·exact s'.keep fun b o _ _ e=>by rw [bB (po.out e)];exact e
  ·exact ask.g.st _ _ _ d' fun b o e=>by rw [bB (po.out e)];exact e
 ·obtain ⟨h1,h2,h3,h4,h5⟩:=hD
  exact ⟨s _ _ h1,s _ _ h2,fun b o e=>s _ _ (h3 b o e),h4.keep fun b o _ _ e=>s _ _ e,ask.g.st _ _ _ h5 s⟩
 ·obtain ⟨h1,h2,h3,h4,h5⟩:=hD
  obtain ⟨dx,u,_,_,_,hx,hl,_,hd,_⟩:=h4
  rcases hz with z | rfl | rfl | rfl
  ·exact ask.g.nt _ H b xs h5 z e
  ·rw [hx] at e;cases e
  ·rw [hl] at e;cases e
  ·rw [hd] at e;cases e
end
local macro_rules | `(tactic| walk_at "rd") => `(tactic| walk_at "rc")
local macro_rules | `(tactic| walk_at "rl") => `(tactic| first | (refine dR fun R hR => ?_) | walk_at "ry" | (refine Nx.to (by assumption) _ _ ?_))
theorem gZ {x t:List Int} (h:t∈cX x):t.Sublist x:=by
 have:∀(x:List Int) (y:List Int) (ps:List (List Int)),(∀p∈ps,p.Sublist y)->∀t∈x.foldl ju ps,t.Sublist (y++x):=fun x=>by
  induction x with
  | nil=>intro y ps h t ht;rw [List.append_nil];exact h t ht
  | cons k x ih=>
   intro y ps h t ht
   rw [List.foldl_cons] at ht
   have st:∀p∈ju ps k,p.Sublist (y++[k]):=fun p hp=>by
    unfold ju at hp
    rcases List.mem_append.mp hp with hp | hp
    ·exact (h p hp).trans (List.sublist_append_left _ _)
    ·obtain ⟨c,hc,rfl⟩:=List.mem_map.mp hp
     exact (h c hc).append (List.Sublist.refl _)
   have:=ih (y++[k]) _ st t ht
   rwa [List.append_assoc] at this
 exact this x [] [[]] (by simp) t h
theorem eU {x t:List Int}:t∈cX x↔t.Sublist x:=by
 refine ⟨gZ,fun h=>?_⟩
 have:∀(x:List Int) (ps:List (List Int)) (p s:List Int),p∈ps->s.Sublist x->p++s∈x.foldl ju ps:=fun x=>by
  induction x with
  | nil=>intro ps p s hp hs;rw [List.sublist_nil.mp hs,List.append_nil];exact hp
  | cons k x ih=>
   intro ps p s hp hs
   rw [List.foldl_cons]
   cases hs with
   | cons _ h1=>exact ih _ p s (List.mem_append_left _ hp) h1
   | cons_cons _ h1=>
    rename_i s'
    have:=ih (ju ps k) (p++[k]) s' (List.mem_append_right _ (List.mem_map.mpr ⟨p,hp,rfl⟩)) h1
    rwa [List.append_assoc] at this
 exact this x [[]] [] t (by simp) h
def turn (W:List Int) (tells:List Int->Bool) (as:List (List Int)) (S:List Int):List (List Int):=
 if tells S=true then (eF tells (eK tells) W (bq W S) (S,eK tells (eK tells as S) S)).2 else eK tells as S
inductive qF (ps:List (List Int)) (W:List Int) (tells:List Int->Bool):List (List Int)->Prop
 | nil:qF ps W tells []
 | step {as:List (List Int)} {S:List Int} {r:List (List Int)}:qF ps W tells as->(ps.filter fun T=>!det tells as T)=S::r->qF ps W tells (turn W tells as S)
theorem m6 {tells:List Int->Bool} {as:List (List Int)} {S a:List Int} (h:a∈as):a∈eK tells as S:=by
 unfold eK
 by_cases c:det tells as S=true
 ·rw [if_pos c];exact h
 ·rw [if_neg c];exact List.mem_append_left _ h
theorem pH (tells:List Int->Bool) (as:List (List Int)) (S:List Int):det tells (eK tells as S) S=true:=by
 unfold eK
 by_cases c:det tells as S=true
 ·rw [if_pos c];exact c
 ·rw [if_neg c];exact kh (by simp)
theorem qx {tells:List Int->Bool} {as as':List (List Int)} (h:∀a∈as,a∈as') {T:List Int} (hd:det tells as T=true):det tells as' T=true:=by
 obtain ⟨a,ha,e⟩:=List.any_eq_true.mp hd
 exact List.any_eq_true.mpr ⟨a,h a ha,e⟩
theorem qp (tells:List Int->Bool) (W:List Int) {a:List Int}:∀(ms:List Int) (c:List Int×List (List Int)),a∈c.2->a∈(eF tells (eK tells) W ms c).2
 | [],c,h=>h
 | m::ms,c,h=>by
  unfold eF
  rw [List.foldl_cons]
  exact qp tells W ms _ (m6 h)
theorem nQ {W:List Int} {tells:List Int->Bool} {as:List (List Int)} {S a:List Int} (h:a∈eK tells as S):a∈turn W tells as S:=by
 unfold turn
 by_cases c:tells S=true
 ·rw [if_pos c];exact qp tells W _ _ (m6 h)
 ·rw [if_neg c];exact h
theorem BG {ps:List (List Int)} {W:List Int} {tells:List Int->Bool} {as:List (List Int)} {S:List Int} {r:List (List Int)} (h:(ps.filter fun T=>!det tells as T)=S::r):(ps.filter fun T=>!det tells (turn W tells as S) T).length < (ps.filter fun T=>!det tells as T).length:=by
 have e:(ps.filter fun T=>!det tells (turn W tells as S) T)=(ps.filter fun T=>!det tells as T).filter fun T=>!det tells (turn W tells as S) T:=by
  rw [List.filter_filter]
  refine List.filter_congr fun T _=>?_
  cases d:det tells as T with
  | false=>simp
  | true=>rw [qx (fun a ha=>nQ (m6 ha)) d];rfl
 rw [e,h,List.filter_cons,if_neg (by rw [qx (fun a ha=>nQ ha) (pH tells as S)];decide)]
 exact Nat.lt_succ_of_le (List.length_filter_le _ _)
def Bn (own:Addr->Prop) (H:Hp) (pT:Addr) (qual:Str):Prop:=∃tb,H pT=some (.mD tb)/\TriplesOk tb.toList/\(codeAmong (CT aH) tb.toList=none\/∃c' oc vs tq,codeAmong (CT aH) tb.toList=some (.ref c')/\H c'=some (cS oc)/\oc.data=.fields vs/\vs[1]? = some (.str qual tq)/\¬own c')
def BR (P:Program) (w:World) (K:PySem.W.Frag) (mg:Str->Option Value) (base:Heap) (pT:Addr):Sp:=fun vs H Q _=>∃U f,vs=[.ref U,.ref f]/\∃(ι:Type) (Z own:Addr->Prop) (D:ι->Hp->Prop) (nx:ι->List Int->ι) (lim:ι->Prop) (dom:List Int->Prop) (tells:List Int->Bool) (i0:ι) (W:List Int) (tb:Array Value),
 NC P w K mg base 8 f Z own D nx lim dom tells/\D i0 H/\(∀ts:List (List Int),ts.length<=100->lim (ts.foldl nx i0))/\H U=some (.tup (List.map V.int W))/\dJ W/\W.length<=6/\(∀T,T.Sublist W->dom T)/\j4 (cX W) tells/\H pT=some (.mD tb)/\TriplesOk tb.toList/\codeAmong (CT aH) tb.toList=none/\¬own pT/\
 ∀r H' c p l cs qs bs clashes dj as ps,H' r=some (.tup [V.ref c,V.ref p,V.ref l])->H' c=some (.lst (List.map V.ref cs))->aG H' cs clashes->H' p=some (.lst (List.map V.ref qs))->aG H' qs dj->H' l=some (.lst (List.map V.ref bs))->aG H' bs as->
  D (as.foldl nx i0) H'->(∀b o,¬Z b->b≠pT->H b=some o->H' b=some o)->(∀x,x∈clashes↔x∈as.filter (fun a=>!tells a)/\∀y∈as.filter (fun a=>!tells a),aA y x=true->y=x)->(∀x,x∈dj↔x∈as.filter tells/\∀y∈as.filter tells,aA x y=true->y=x)->
  clashes.Pairwise (fun a b=>bL a b=true)->dj.Pairwise (fun a b=>bL a b=true)->ps.Pairwise (fun a b=>bL a b=true)->(∀T,T∈ps↔T∈cX W)->qF ps W tells as->(∀T∈ps,det tells as T=true)->as.Nodup->(∀a∈as,a∈ps)->Q (.ref r) H'
section
variable {P:Program} {w:World} {K:PySem.W.Frag} {mg:Str->Option Value} {base:Heap} {t:oX}
theorem yg (T:Txt K mg t) {c pT:Addr} (gO:t.iB.code=.ref c) (hC:PySem.W.CodeHd base c pT) (hB:BMain mg base):bO P w K mg base eL 16 t.dh t.iB ["whole","ask"] (BR P w K mg base pT):=by
 have zk:=Hk (P:=P) (w:=w) (base:=base) T
 have kF:=Hq (P:=P) (w:=w) (base:=base) T
 have fC:=sP (P:=P) (w:=w) (base:=base) T
 have NB:=Ho (P:=P) (w:=w) (base:=base) T
 have zp:=Hm (P:=P) (w:=w) (base:=base) T
 have rG:=v9 (P:=P) (w:=w) (base:=base) T
 refine T.tY.Ur fZ (fun vs H Q E h=>?_) (fun cC A outer s H vs Q E hcv hr h hc hf=>?_)
 ·obtain ⟨a,f,rfl,_⟩:=h;rfl
 have rA:=hcv.symm.trans gO
 obtain ⟨U,f,rfl,ι,Z,own,D,nx,lim,dom,tells,i0,W,tb,ask,hD,wW,hU,rise,lW,lT,mono,Oo,U3,hnone,QB,q⟩:=h
 have hu:=kL hr
 have Mb:=hr.fY
 refine ⟨_,(by apply au;exact (aM hc fZ.nd hf 2 (by decide +kernel) (Ex T.wm kF (hr.mono (by omega)) (cW hc (by decide +kernel)) T.yv T.kz .nil bt (ae (av hc 1 (by decide +kernel)) (ae (aD zk (hr.mono (by omega)) (cW hc (by decide +kernel)) T.yr T.qL.kp T.y9 .nil bt (ae (av hc 0 (by decide +kernel)) ao)) ao))));apply au;exact (rH PassesOwn.never (bK Hi (bA iD (cW hc (by decide +kernel)) T.z_len jS (ae (dP (av hc 2 (by decide +kernel)) rfl) ao)) ai (dk _)) (by apply au;exact (aM hc fZ.nd hf 3 (by decide +kernel) (bE iu (dP (av hc 2 (by decide +kernel)) rfl) ai (fun _ _=>rfl)));exact az (cE (cL (pK (av hc 2 (by decide +kernel)) T.aL T.gL fC (hr.mono (by omega)) T.iF .nil bt (ae (av hc 3 (by decide +kernel)) ao))) (by exact az (cZ (rL (xs:=[(2,"sounding")]) (cells:=cellsFrom (s.heap.objs.size+1) (ag bD).names []) (EH:=fun _=>E0) rfl NB (hr.mono (by omega)) (cW hc (by decide +kernel)) T.LQ T.Bq.kp T.Nk HN hf (Ig hc (by decide +kernel)) (ae (av hc 0 (by decide +kernel)) (ae (Ew (fr:=["sounding"]) hc rA hC hB rfl (by decide +kernel) (by decide +kernel) rfl) (ae (av hc 3 (by decide +kernel)) ao)))))) bF)));apply au;exact (nH hc fZ.nd 4 (by decide +kernel) ["part"] [2] rfl (by decide +kernel) (dq (dP (av hc 2 (by decide +kernel)) rfl)) (fun _ hc=>pJ hc (by decide +kernel) 0 (by decide +kernel)) (fun _ hc=>ic (gI (cL (mM hu (dP (av hc 1 (by decide +kernel)) rfl) (av hc 0 (by decide +kernel)) (fun _ _=>rfl))))) (fun _ hc=>(av hc 0 (by decide +kernel))) (by rfl));apply au;exact (nH hc fZ.nd 5 (by decide +kernel) ["part"] [2] rfl (by decide +kernel) (dq (dP (av hc 2 (by decide +kernel)) rfl)) (fun _ hc=>pJ hc (by decide +kernel) 0 (by decide +kernel)) (fun _ hc=>ic (cL (mM hu (dP (av hc 1 (by decide +kernel)) rfl) (av hc 0 (by decide +kernel)) (fun _ _=>rfl)))) (fun _ hc=>(av hc 0 (by decide +kernel))) (by rfl));exact az (aR (iN (ae (aD zp (hr.mono (by omega)) (cW hc (by decide +kernel)) T.yu T.qM.kp T.zb .nil bt (ae (av hc 4 (by decide +kernel)) ao)) (ae (aD rG (hr.mono (by omega)) (cW hc (by decide +kernel)) T.rg T.kW.kp T.rD .nil bt (ae (av hc 5 (by decide +kernel)) ao)) (ae (dP (av hc 2 (by decide +kernel)) rfl) ao)))))),?_⟩
 repeat (walk_at "rl")
 refine ⟨U,rfl,W,hU,by omega,fun u H1 us ps s1 Ss Xe X9 nd xG pw=>?_⟩
 have lps:ps.length<=64:=by
  have h1:=cU nd fun t ht=>(xG t).mp ht
  rw [j9] at h1
  have h2:2 ^ W.length<=2 ^ 6:=Nat.pow_le_pow_right (by decide) lW
  omega
 refine fun x dx hx yN qQ=>⟨x,f,u,dx,rfl,ah,fun l d H2 hl hd Ei Ai hd2 k2=>⟨rfl,?_⟩⟩
 have Mp:l≠x:=fun e=>by rw [e,ah] at hl;cases hl
 have aAJ:d≠x:=fun e=>by rw [e,ah] at hd;cases hd
 rw [aq Mp] at hl
 rw [aq aAJ] at hd
 have rn:H1 l=none:=by
  by_cases e:l=dx
  ·rw [e];exact yN
  ·rw [aq e] at hl;exact hl
 have Iu:H1 d=none:=by
  by_cases e:d=dx
  ·rw [e];exact yN
  ·rw [aq e] at hd;exact hd
 have s2:bU H1 H2:=fun b o e=>k2 b o (aj e hx) (by rw [aq (aj e hx),aq (aj e yN)];exact e)
 have YL:=s1.trans s2
 have w5:=ask.g.st _ _ _ hD s1
 have Cz:∀{b:Addr},H1 b=none->¬own b:=fun e z=>ask.od _ _ _ w5 z e
 have Z2:¬own u:=fun z=>ask.od _ _ _ hD z Ss
 have qP:=Cz hx
 have QC:=Cz rn
 have QF:=Cz Iu
 have N8:j4 ps tells:=fun S hS T' hT'=>mono S ((xG S).mp hS) T' ((xG T').mp hT')
 have yL:∀{S:List Int},S∈ps↔S.Sublist W:=fun {S}=>by rw [xG];exact eU
 have Ow:∀s∈ps,dom s:=fun s hs=>lT s (yL.mp hs)
 have P0:gT own H2 t.ay x f l d ps tells []:=by
  refine ⟨dx,u,[],us,[],Ei,Ai,⟨rfl,fun i b t e=>by simp at e⟩,hd2,fun S _=>rfl,s2 _ _ Xe,?_,?_,aj Xe rn,Z2,List.nodup_nil,fun s hs=>(nomatch hs)⟩
  ·have:(ps.filter fun T=>!det tells [] T)=ps:=List.filter_eq_self.mpr fun T _=>rfl
   rw [this];exact X9.mono fun b xs e=>s2 _ _ e
  ·exact Nat.le_trans (by simpa using List.length_filter_le _ _) (Nat.le_refl _)
 clear k2
 repeat (walk_at "rl")
 refine ⟨fun m σ' H'=>∃z as,σ'=[some (.ref U),some (.ref f),some (.ref x),z,none,none]/\m=(ps.filter fun T=>!det tells as T).length/\gT own H' t.ay x f l d ps tells as/\D (as.foldl nx i0) H'/\qF ps W tells as/\(∀b o,¬Z b->b≠pT->H b=some o->H' b=some o)/\Bn own H' pT ((eJ eL P w K mg base dv (Str.ofString "sounded") (ag bD) t.dh cC A outer s H E).env.qual++Str.ofString "<lambda>"),⟨_,none,[],rfl,rfl,P0,ask.g.st _ _ _ hD YL,.nil,fun b o _ _ e=>YL _ _ e,tb,YL _ _ Oo,U3,.inl hnone⟩,?_⟩
 rintro m σ' H3 ⟨z,as,rfl,rfl,snd,Dn,tu,k3,tab⟩
 have Yk:=snd
 obtain ⟨O9,u3,Wm,Si,Uz,Ih,Ah,Kr,Sz,Vi,U1,BP,lk3,aBK,aBH,nd3,Fw⟩:=Yk
 repeat (walk_at "rl")
 refine ⟨t.ay,O9,_,Ih,T.aL,T.ck,.ref u3,rfl,u3,rfl,_,U1,?_⟩
 have lus:(List.map V.ref Si).length=(ps.filter fun T=>!det tells as T).length:=by rw [List.length_map,BP.1]
 by_cases e0:0 < ((List.map V.ref Si).length:Int)
 ·rw [if_pos e0]
  obtain ⟨S,r,RZ⟩:∃S r,(ps.filter fun T=>!det tells as T)=S::r:=by
   cases e:(ps.filter fun T=>!det tells as T) with
   | nil=>rw [lus,e] at e0;exact absurd e0 (by decide)
   | cons S r=>exact ⟨S,r,rfl⟩
  refine ⟨fun σ' H'=>∃z,σ'=[some (.ref U),some (.ref f),some (.ref x),z,none,none]/\gT own H' t.ay x f l d ps tells (turn W tells as S)/\D ((turn W tells as S).foldl nx i0) H'/\(∀b o,¬Z b->b≠pT->H b=some o->H' b=some o)/\Bn own H' pT ((eJ eL P w K mg base dv (Str.ofString "sounded") (ag bD) t.dh cC A outer s H E).env.qual++Str.ofString "<lambda>"),?_,?_⟩
  ·rintro σ' H' ⟨z,rfl,h1,h2,h3,h4⟩
   exact ⟨_,BG RZ,z,rfl,_,rfl,h1,h2,.step tu RZ,h3,h4⟩
  have IK:S∈ps.filter fun T=>!det tells as T:=by rw [RZ];exact List.mem_cons_self
  have hS:S∈ps:=(List.mem_filter.mp IK).1
  have Vz:det tells as S=false:=by have:=(List.mem_filter.mp IK).2;simpa using this
  have sS:=yL.mp hS
  obtain ⟨p0,WL,rfl⟩:∃p0 WL,Si=p0::WL:=by
   cases Si with
   | nil=>exact absurd e0 (by decide)
   | cons p0 WL=>exact ⟨p0,WL,rfl⟩
  have Ek:H3 p0=some (.tup (List.map V.int S)):=by
   rw [RZ] at BP
   exact BP.2 0 p0 S rfl rfl
  repeat (walk_at "rl")
  refine ⟨t.ay,O9,_,Ih,T.aL,T.ck,.ref u3,rfl,u3,rfl,_,U1,.ref p0,(by rw [List.map_cons,xB]),?_⟩
  repeat (walk_at "rl")
  refine ⟨O9,_,Ih,rfl,x,p0,rfl,ι,Z,own,D,nx,lim,dom,tells,i0,f,l,d,ps,as,S,ask,Dn,wW,N8,snd,Ek,hS,by omega,Ow,qP,QC,QF,fun H4 Tz vy k4=>⟨_,rfl,?_⟩⟩
  have nz:∀{b:Addr},¬own b->¬Z b:=fun h z=>h (ask.zo _ z)
  have old:∀{b:Addr} {o:HO},H b=some o->b≠x/\b≠l/\b≠d:=fun e=>⟨aj (s1 _ _ e) hx,aj (s1 _ _ e) rn,aj (s1 _ _ e) Iu⟩
  have k34:∀b o,¬Z b->b≠pT->H b=some o->H4 b=some o:=fun b o n1 n2 e=>k4 b o n1 (old e).1 (old e).2.1 (old e).2.2 (k3 b o n1 n2 e)
  have hUT:U≠pT:=aY hU Oo (by intro z;cases z)
  have hU4:H4 U=some (.tup (List.map V.int W)):=k34 U _ (fun z=>ask.g.nt _ H U _ hD z hU) hUT hU
  have Ro:H4 p0=some (.tup (List.map V.int S)):=k4 p0 _ (fun z=>ask.g.nt _ H3 p0 _ Dn z Ek) (aY Ek Ih (by intro z;cases z)) (aY Ek Ah (by intro z;cases z)) (aY Ek Sz (by intro z;cases z)) Ek
  have Pu:Bn own H4 pT ((eJ eL P w K mg base dv (Str.ofString "sounded") (ag bD) t.dh cC A outer s H E).env.qual++Str.ofString "<lambda>"):=by
   obtain ⟨tb',h1,h2,h3⟩:=tab
   refine ⟨tb',k4 _ _ (nz QB) (old Oo).1 (old Oo).2.1 (old Oo).2.2 h1,h2,h3.imp id ?_⟩
   rintro ⟨c',oc,vs,tq,a1,a2,a3,a4,a5⟩
   exact ⟨c',oc,vs,tq,a1,k4 _ _ (nz a5) (aY a2 Ih (by intro z;cases z)) (aY a2 Ah (by intro z;cases z)) (aY a2 Sz (by intro z;cases z)) a2,a3,a4,a5⟩
  cases eS:tells S with
  | false=>
   rw [if_neg (by decide)]
   have et:turn W tells as S=eK tells as S:=if_neg (by rw [eS];decide)
   exact ⟨by rw [et];exact Tz,by rw [et];exact vy,k34,Pu⟩
  | true=>
  rw [if_pos rfl]
  have use:∀(H5:Hp) (g c':Addr) (cl:List (Str×Addr)) (oc:Obj) (vs:Array Value) (tq:Tok) (pm ctv:Value),Bp (cellsFrom (s.heap.objs.size+1) (ag bD).names []) cl [Str.ofString "sounding"]->H5 g=some (cS (PySem.W.kla_obj "<lambda>" ((eJ eL P w K mg base dv (Str.ofString "sounded") (ag bD) t.dh cC A outer s H E).env.qual++Str.ofString "<lambda>") (CW aH) (CV aH) (yB aH) cl pm c' ctv))->H5 c'=some (cS oc)->oc.data=.fields vs->vs[1]? = some (.str ((eJ eL P w K mg base dv (Str.ofString "sounded") (ag bD) t.dh cC A outer s H E).env.qual++Str.ofString "<lambda>") tq)->¬own g->¬own c'->(∀b o,b≠pT->H4 b=some o->H5 b=some o)->(∃tb,H5 pT=some (.mD tb)/\TriplesOk tb.toList/\codeAmong (CT aH) tb.toList=some (.ref c'))->
    ∀(C:List (Addr×Obj)),CellsAre (cellsFrom (s.heap.objs.size+1) (ag bD).names []) [some (V.ref U),some (V.ref f),some (V.ref x),some (V.ref p0),none,none] [(2,Str.ofString "sounding")] C->cB C H5->∀(Q':VK) (E':XK),(∀v H',gT own (aO C H') t.ay x f l d ps tells (turn W tells as S)/\D ((turn W tells as S).foldl nx i0) (aO C H')/\(∀b o,¬Z b->b≠pT->H b=some o->aO C H' b=some o)/\Bn own (aO C H') pT ((eJ eL P w K mg base dv (Str.ofString "sounded") (ag bD) t.dh cC A outer s H E).env.qual++Str.ofString "<lambda>")->Q' v H')->zF P w K mg base t.aS [.ref U,.ref g,.ref p0] (dn C H5) Q' E':=fun H5 g c' cl oc vs tq pm ctv la hg hV nG Ii Z3 QG k5 aAv C ca po Q' E' q'=>by
   obtain ⟨Te,Mg,_,_⟩:=Pu
   have kt5:∀{b:Addr} {xs:List V},H4 b=some (.tup xs)->H5 b=some (.tup xs):=fun e=>k5 _ _ (aY e Mg (by intro z;cases z)) e
   have Tx:gT own H5 t.ay x f l d ps tells (eK tells as S):=Tz.keep fun b o _ n e=>k5 b o (aY e Mg (n Te)) e
   have MK:D ((eK tells as S).foldl nx i0) H5:=ask.os _ _ _ vy fun b o h e=>k5 b o (h.elim (fun h z=>QB (z ▸ h)) fun ⟨xs,ho⟩=>aY e Mg (by rw [ho];intro z;cases z)) e
   have W5:∀b o,C.lookup b=some o->¬own b:=fun b o e z=>ask.od _ _ _ MK z (po b o e)
   have Jr:CellsOk C cl ["sounding"] [.ref x]:=fun i y hy=>by
    match i,hy with
    | 0,hy=>
     cases hy
     obtain ⟨c0,l1,l2⟩:=la.1 _ (List.mem_singleton.mpr rfl)
     obtain ⟨c1,o,u,v,a1,a2,a3,a4,a5⟩:=ca _ (List.mem_singleton.mpr rfl)
     have a1':List.lookup (Str.ofString "sounding") (cellsFrom (s.heap.objs.size+1) (ag bD).names [])=some c1:=a1
     rw [a1'] at l1
     cases l1
     cases a4
     exact ⟨c0,o,u,_,l2,a2,a3,rfl,a5⟩
   have ak:=Np (P:=P) (w:=w) (base:=base) T (g:=g) (c':=c') (x:=x) (f:=f) (l:=l) (d:=d) (pm:=pm) (ctv:=ctv) nG Ii la.2.1 la.2.2 Jr ask wW N8 (by omega) Ow qP QC QF Z3 QG W5
   have sC:bU H5 (dn C H5):=tX po
   have hD':(dn C H5) g=some (cS (PySem.W.kla_obj "<lambda>" ((eJ eL P w K mg base dv (Str.ofString "sounded") (ag bD) t.dh cC A outer s H E).env.qual++Str.ofString "<lambda>") (CW aH) (CV aH) (yB aH) cl pm c' ctv))/\(dn C H5) c'=some (cS oc)/\cK C (dn C H5)/\gT own (dn C H5) t.ay x f l d ps tells (eK tells as S)/\D ((eK tells as S).foldl nx i0) (dn C H5):=⟨sC _ _ hg,sC _ _ hV,cB.added,Tx.keep fun b o _ _ e=>sC _ _ e,ask.g.st _ _ _ MK sC⟩
   refine ⟨U,g,p0,rfl,_,_,_,_,_,tells,eK tells as S,W,S,ak,hD',sC _ _ (kt5 hU4),sC _ _ (kt5 Ro),rise,sS,by omega,fun T hT=>yL.mpr hT,eS,fun r H6 J4 k6 _=>q' _ _ ?_⟩
   obtain ⟨g1,g2,g3,g4,g5⟩:=J4
   have et:turn W tells as S=(eF tells (eK tells) W (bq W S) (S,eK tells (eK tells as S) S)).2:=if_pos eS
   have out:∀{b:Addr} {o:HO},H6 b=some o->(∀o',o≠cS o')->aO C H6 b=some o:=fun e n=>by rw [aN (g3.out e n)];exact e
   have keep:∀{b:Addr} {o:HO},¬Z b->b≠x->b≠l->b≠d->H5 b=some o->aO C H6 b=some o:=fun {b o} n1 n2 n3 n4 e=>by
    rw [aN (po.out e)]
    exact k6 b o (fun z=>z.elim n1 fun z=>z.elim n2 fun z=>z.elim n3 n4) (sC _ _ e)
   rw [et]
   refine ⟨g4.keep fun b o n _ e=>out e n,ask.os _ _ _ g5 fun b o h e=>?_,fun b o n1 n2 e=>keep n1 (old e).1 (old e).2.1 (old e).2.2 (k5 b o n2 (k34 b o n1 n2 e)),?_⟩
   ·rcases h with h | ⟨xs,rfl⟩
    ·cases z:C.lookup b with
     | none=>rw [aN z];exact e
     | some o'=>exact absurd h (W5 b o' z)
    ·exact out e (by intro o z;cases z)
   ·obtain ⟨tb5,t1,t2,t3⟩:=aAv
    have Tw:=Tx
    obtain ⟨dx5,u5,_,_,_,hx5,hl5,_,Vr,_⟩:=Tw
    exact ⟨tb5,keep (nz QB) (old Oo).1 (old Oo).2.1 (old Oo).2.2 t1,t2,.inr ⟨c',oc,vs,tq,t3,keep (nz QG) (aY hV hx5 (by intro z;cases z)) (aY hV hl5 (by intro z;cases z)) (aY hV Vr (by intro z;cases z)) hV,nG,Ii,QG⟩⟩
  repeat (walk_at "rl")
  have vals:∀q∈[(2,Str.ofString "sounding")],∃v,([some (V.ref U),some (V.ref f),some (V.ref x),some (V.ref p0),none,none]:St)[q.1]? = some (some v):=fun q hq=>by
   rw [List.mem_singleton.mp hq];exact ⟨_,rfl⟩
  have Tj:=Pu
  obtain ⟨Te,Mg,WQ,Vt⟩:=Tj
  refine ⟨Te,Mg,WQ,?_⟩
  rcases Vt with hn | ⟨c',oc,vs,tq,Ol,hV,nG,Ii,QG⟩
  ·refine .inl ⟨hn,fun cl g c' oc vs tq ctv la hg hV hgc nG Ii=>⟨vals,fun C ca po=>?_⟩⟩
   have hgT:g≠pT:=fun z=>by rw [z,Mg] at hg;cases hg
   have hcT:c'≠pT:=fun z=>by rw [z,Mg] at hV;cases hV
   refine use _ g c' cl oc vs tq _ ctv la ah ?_ nG Ii (fun z=>ask.od _ _ _ vy z hg) (fun z=>ask.od _ _ _ vy z hV) (fun b o n e=>?_) ⟨Te ++ #[rawInt (CT aH).line,rawInt (CT aH).col,.ref c'],?_,?_,?_⟩ C ca po _ _ fun v H' h=>h
   ·rw [aq hgc.symm,ah]
   ·rw [aq (aj e hg),aq (aj e hV),aq n]
    exact e
   ·rw [aq hgT.symm,aq hcT.symm,ah]
    rfl
   ·rw [Array.toList_append]
    exact TriplesOk_snoc _ _ _ _ WQ
   ·rw [Array.toList_append]
    exact codeAmong_snoc _ WQ hn
  ·refine .inr ⟨c',Ol,fun cl g ctv la hg=>⟨vals,fun C ca po=>?_⟩⟩
   have hgT:g≠pT:=fun z=>by rw [z,Mg] at hg;cases hg
   refine use _ g c' cl oc vs tq _ ctv la ah (by rw [aq (aj hV hg)];exact hV) nG Ii (fun z=>ask.od _ _ _ vy z hg) QG (fun b o n e=>by rw [aq (aj e hg)];exact e) ⟨Te,by rw [aq hgT.symm];exact Mg,WQ,Ol⟩ C ca po _ _ fun v H' h=>h
 ·rw [if_neg e0]
  have un:(ps.filter fun T=>!det tells as T)=[]:=by
   have:(ps.filter fun T=>!det tells as T).length=0:=by rw [<-lus];omega
   exact List.eq_nil_of_length_eq_zero this
  have JM:∀T'∈ps,det tells as T'=true:=fun T' hT'=>by
   have:=List.filter_eq_nil_iff.mp un T' hT'
   simpa using this
  have L1:=Pk nd3 Fw
  have lbs:=Kr.1
  repeat (walk_at "rl")
  refine ⟨t.ay,O9,_,Ih,T.aL,T.cp,.ref l,rfl,l,rfl,⟨_,bC Ah⟩,?_⟩
  refine gy (zs:=List.map V.ref Wm) (fun j=>if (as[j]?.any fun a=>!tells a) then as[j]? else none) (fun _=>gH) gH.same gH.puts Ah (by rw [List.length_map];omega) (fun DD c H4 j z' yes no hj s4 RN RM fG wV=>?_) (fun D1 H4 vs s4 w5 aAP rl=>?_)
  ·obtain ⟨b,eb,rfl⟩:=fO hj
   have Mr:j < Wm.length:=(List.getElem?_eq_some_iff.mp eb).1
   have es:as[j]? = some (as[j]'(by omega)):=List.getElem?_eq_getElem _
   have hb:=s4 _ _ (Kr.2 j b _ eb es)
   have ha:as[j]'(by omega)∈as:=List.getElem_mem _
   rw [es] at fG wV
   generalize as[j]'(by omega)=y at hb fG wV ha
   have ev:=Vi y (Fw y ha)
   rw [if_pos (kh ha)] at ev
   repeat (first | walk_at "rl" | simp only [rV])
   refine ⟨t.ay,O9,_,s4 _ _ Ih,T.aL,T.bM,.ref d,rfl,d,rfl,_,by rw [<-ev];exact nF.t (k:=y.map Sum.inl) (s4 _ _ Sz) (by rw [jH];exact hb),_,rfl,?_⟩
   cases ey:tells y with
   | true=>exact wV (by simp [ey]) _ fun _ _ e=>e
   | false=>exact fG y (by simp [ey]) _ _ (fun _ _ e=>e) ⟨b,rfl,hb⟩
  obtain ⟨cs,rfl,YG⟩:=uq rl
  rw [List.length_map,lbs,oa (l:=as) (p:=fun a=>!tells a) fun i hi=>by rw [List.getElem?_eq_getElem hi];rfl] at YG
  have hx4:=s4 _ _ Ih
  have Ot:=s4 _ _ Ah
  repeat (walk_at "rl")
  refine ⟨t.ay,O9,_,hx4,T.aL,T.cp,.ref l,rfl,l,rfl,⟨_,bC Ot⟩,?_⟩
  refine gy (zs:=List.map V.ref Wm) (fun j=>if (as[j]?.any tells) then as[j]? else none) (fun _=>gH) gH.same gH.puts Ot (by rw [List.length_map];omega) (fun DD c H5 j z' yes no hj s5 RN RM fG wV=>?_) (fun D2 H5 vs s5 Al aAO rl2=>?_)
  ·obtain ⟨b,eb,rfl⟩:=fO hj
   have Mr:j < Wm.length:=(List.getElem?_eq_some_iff.mp eb).1
   have es:as[j]? = some (as[j]'(by omega)):=List.getElem?_eq_getElem _
   have hb:=s5 _ _ (s4 _ _ (Kr.2 j b _ eb es))
   have ha:as[j]'(by omega)∈as:=List.getElem_mem _
   rw [es] at fG wV
   generalize as[j]'(by omega)=y at hb fG wV ha
   have ev:=Vi y (Fw y ha)
   rw [if_pos (kh ha)] at ev
   repeat (first | walk_at "rl" | simp only [rV])
   refine ⟨t.ay,O9,_,s5 _ _ hx4,T.aL,T.bM,.ref d,rfl,d,rfl,_,by rw [<-ev];exact nF.t (k:=y.map Sum.inl) (s5 _ _ (s4 _ _ Sz)) (by rw [jH];exact hb),_,rfl,?_⟩
   cases ey:tells y with
   | false=>exact wV (by simp [ey]) _ fun _ _ e=>e
   | true=>exact fG y (by simp [ey]) _ _ (fun _ _ e=>e) ⟨b,rfl,hb⟩
  obtain ⟨qs,rfl,Yh⟩:=uq rl2
  rw [List.length_map,lbs,oa (l:=as) (p:=tells) fun i hi=>by rw [List.getElem?_eq_getElem hi];rfl] at Yh
  have Gf:∀a∈as,dJ a:=fun a ha=>rise.sublist (yL.mp (Fw a ha))
  have lf1:=List.length_filter_le (fun a=>!tells a) as
  have lf2:=List.length_filter_le tells as
  have lc1:=YG.1
  have lq1:=Yh.1
  repeat (walk_at "rl")
  refine ⟨D1,rfl,cs,_,s5 _ _ aAP,YG.mono fun b xs e=>s5 _ _ e,by omega,fun a ha=>Gf a (List.mem_filter.mp ha).1,fun R1 H6 cs6 clashes s6 O0 aAN sc6 Z7 pw6=>?_⟩
  refine ⟨D2,rfl,qs,_,s6 _ _ aAO,Yh.mono fun b xs e=>s6 _ _ e,by omega,fun a ha=>Gf a (List.mem_filter.mp ha).1,fun R2 H7 cs7 dj s7 hR2 aAM sc7 Z6 pw7=>?_⟩
  have s57:=s6.trans s7
  have s37:=(s4.trans s5).trans s57
  refine ⟨t.ay,O9,_,s37 _ _ Ih,T.aL,T.cp,.ref l,rfl,by decide,fun r hr7=>?_⟩
  have s8:=aK hr7 (.tup [V.ref R1,V.ref R2,V.ref l])
  have WX:=s37.trans s8
  exact q r _ R1 R2 l cs6 cs7 Wm clashes dj as ps ah (s8 _ _ (s7 _ _ aAN)) (sc6.mono fun b xs e=>s8 _ _ (s7 _ _ e)) (s8 _ _ aAM) (sc7.mono fun b xs e=>s8 _ _ e) (WX _ _ Ah) (Kr.mono fun b xs e=>WX _ _ e) (ask.g.st _ _ _ Dn WX) (fun b o n1 n2 e=>WX _ _ (k3 b o n1 n2 e)) Z7 Z6 pw6 pw7 pw xG tu JM nd3 Fw
end
local macro_rules | `(tactic| walk_at "rd") => `(tactic| walk_at "rc")
local macro_rules | `(tactic| walk_at "rl") => `(tactic| first | (refine dR fun R hR => ?_) | walk_at "ry" | (refine Nx.to (by assumption) _ _ ?_))
def Kp (N:Addr) (H H':Hp):Prop:=∀b o,b≠N->H b=some o->H' b=some o
def but (N:Addr) (H:Hp):Hp:=fun b=>if b=N then none else H b
theorem qA {N b:Addr} {H:Hp} (h:b≠N):but N H b=H b:=if_neg h
theorem JC {N:Addr} {H:Hp}:bU (but N H) H:=fun b o e=>by
 by_cases h:b=N
 ·rw [show but N H b=none from if_pos h] at e;cases e
 ·rw [qA h] at e;exact e
theorem Kp.but {N:Addr} {H H':Hp} (k:Kp N H H'):bU (but N H) (but N H'):=fun b o e=>by
 by_cases h:b=N
 ·rw [show My.but N H b=none from if_pos h] at e;cases e
 ·rw [qA h] at e ⊢;exact k b o h e
theorem kE.move {H H':Hp} {p:Addr} {W:List Int} {md:Md} (k:∀b o,H b=some o->(∀ps,o≠.mD ps)->(∀o',o≠cS o')->H' b=some o) (m:kE H p W md):kE H' p W md:=by
 cases md with
 | wt g most=>obtain ⟨d,ks,h1,h2,h3⟩:=m;exact ⟨d,ks,k _ _ h1 (by intro o z;cases z) (by intro o z;cases z),k _ _ h2 (by intro o z;cases z) (by intro o z;cases z),h3⟩
 | Oc ss=>obtain ⟨l,bs,h1,h2,h3,h4⟩:=m;exact ⟨l,bs,k _ _ h1 (by intro o z;cases z) (by intro o z;cases z),k _ _ h2 (by intro o z;cases z) (by intro o z;cases z),h3.mono fun _ _ e=>k _ _ e (by intro o z;cases z) (by intro o z;cases z),h4⟩
 | out ss=>obtain ⟨l,bs,h1,h2,h3,h4⟩:=m;exact ⟨l,bs,k _ _ h1 (by intro o z;cases z) (by intro o z;cases z),k _ _ h2 (by intro o z;cases z) (by intro o z;cases z),h3.mono fun _ _ e=>k _ _ e (by intro o z;cases z) (by intro o z;cases z),h4⟩
theorem N7 {h b:Addr} {H:Hp} {bs:List Addr} (x:dW H h) (e:H b=some (.lst (List.map V.ref bs))):b≠h:=by
 obtain ⟨l,ns,o,e1,⟨_,_,_,_,_,rfl,_⟩,_⟩:=x
 intro z
 rw [z,e1] at e
 cases bs with
 | nil=>cases e
 | cons c bs=>cases bs <;> cases e
theorem kE.dr {h N:Addr} {B H:Hp} {p:Addr} {W:List Int} {md:Md} (hd:dW B h) (hN:B N=none) (d:Dr h B H) (m:kE B p W md):kE (but N H) p W md:=by
 have k:∀{b:Addr} {o:HO},B b=some o->b≠h->but N H b=some o:=fun {b o} e nb=>by
  rw [qA (aj e hN)];exact d.keep _ _ nb e
 have nd:∀{b:Addr} {aE:List (Key×V)},B b=some (.dK aE)->b≠h:=fun {b aE} e z=>by
  obtain ⟨l,ns,o,e1,⟨_,_,_,_,_,rfl,_⟩,_⟩:=hd
  rw [z,e1] at e;cases e
 cases md with
 | wt g most=>obtain ⟨d',ks,h1,h2,h3⟩:=m;exact ⟨d',ks,k h1 (hd.lN h1),k h2 (nd h2),h3⟩
 | Oc ss=>obtain ⟨l,bs,h1,h2,h3,h4⟩:=m;exact ⟨l,bs,k h1 (hd.lN h1),k h2 (N7 hd h2),h3.mono fun _ _ e=>k e (hd.lN e),h4⟩
 | out ss=>obtain ⟨l,bs,h1,h2,h3,h4⟩:=m;exact ⟨l,bs,k h1 (hd.lN h1),k h2 (N7 hd h2),h3.mono fun _ _ e=>k e (hd.lN e),h4⟩
theorem Dr.kp {h N:Addr} {B H H':Hp} {C:List (Addr×Obj)} (d:Dr h B H) (hN:B N=none) (po:cB C H) (k:Kp N (dn C H) H'):Dr h B (aO C H'):=by
 have q:∀{b:Addr} {o:HO},H b=some o->b≠N->aO C H' b=some o:=fun {b o} e nb=>by
  have z:=po.out e
  rw [aN z];exact k b o nb (by rw [bB z];exact e)
 refine ⟨fun b o hb e=>q (d.keep b o hb e) (aj e hN),fun l x=>?_⟩
 obtain ⟨ns,oh,e1,e2,e3⟩:=d.hand l x
 obtain ⟨ns0,o0,f1,_,f3⟩:=x
 exact ⟨ns,oh,q e1 (aj f1 hN),e2,q e3 (aj f3 hN)⟩
def FH (f c':Addr) (fo oc:Obj) (cl:List (Str×Addr)) (M N:Addr):Sp:=fun vs H Q _=>∃p,vs=[.ref p]/\H f=some (cS fo)/\H c'=some (cS oc)/\∃C,cK C H/\CellsOk C cl bx [.ref M,.ref N]/\∃(md:Md) (W S:List Int) (bs:List Addr),kE (but N H) M W md/\H N=some (.lst (List.map V.ref bs))/\bs.length < 1000/\H p=some (.tup (List.map V.int S))/\S.length<=100/\(∀z∈S,z∈W)/\
 ∀H',Kp N H H'->H' N=some (.lst (List.map V.ref (bs++[p])))->Q (.bl (md.tells S)) H'
section
variable {P:Program} {w:World} {K:PySem.W.Frag} {mg:Str->Option Value} {base:Heap} {t:oX}
theorem Nh (T:Txt K mg t) {f c' M N:Addr} {oc:Obj} {vE:Array Value} {tq:Tok} {qual:Str} {cl:List (Str×Addr)} {doc pm ctv:Value} (nG:oc.data=.fields vE) (hq:vE[1]? = some (.str qual tq))
  (nZ:∀x c,cl.lookup x=some c->x∈bx) (inj:∀x y c,cl.lookup x=some c->cl.lookup y=some c->x=y) :
  kX P w K mg base 8 f (FH f c' (PySem.W.fnMade "_law_ask" qual (aP aX) (aJ aX) (ag aX) cl doc pm c' ctv) oc cl M N):=by
 have nB:=v5 (P:=P) (w:=w) (base:=base) T
 refine R5 (k:=7) (fo:=PySem.W.fnMade "_law_ask" qual (aP aX) (aJ aX) (ag aX) cl doc pm c' ctv) (oc:=oc) (name:="_law_ask") (qual:=qual) (params:=aP aX) (body:=aJ aX) (scope:=ag aX) (cl:=cl) (doc:=doc) (pm:=pm) (ctv:=ctv) (ps:=lK) (fr:=bx) rfl nG hq rfl rfl rfl (by decide +kernel) (by decide +kernel) (by decide +kernel) (by decide +kernel) (fun x hx=>?_) nZ inj (fun us hu=>?_) fun vs H Q E h=>?_
 ·have:freeOf (ag aX)=bx:=by decide +kernel
  rw [<-this]
  exact List.mem_map.mpr ⟨(x,.free),List.mem_filter.mpr ⟨PySem.mem_of_lookup hx,rfl⟩,rfl⟩
 ·match us,hu with
  | [_],_=>rfl
 obtain ⟨p,rfl,hf,hV,C,pin,Jr,md,W,S,bs,ma,hN,lb,hp,lS,sub,q⟩:=h
 refine ⟨C,[.ref M,.ref N],rfl,hf,hV,pin,rfl,Jr,fun A outer s hr hc=>?_⟩
 refine ⟨_,(by apply au;exact (cZ (nL PySem.F.plainAttrs_list PySem.F.slot_list_append PySem.F.type_list_append fh (av hc 2 (by decide +kernel)) (ae (av hc 0 (by decide +kernel)) ao)));exact az (aR (aD nB (hr.mono (by omega)) (cW hc (by decide +kernel)) T.uT T.nC.kp T.vm .nil bt (ae (av hc 1 (by decide +kernel)) (ae (av hc 0 (by decide +kernel)) ao))))),?_⟩
 repeat (walk_at "rl")
 have out:∀{b:Addr} {o:HO},H b=some o->(∀o',o≠cS o')->aO C H b=some o:=fun e n=>by rw [aN (pin.out e n)];exact e
 have Xv:aO C H N=some (.lst (List.map V.ref bs)):=out hN (by intro o z;cases z)
 have Oq:aO C H p=some (.tup (List.map V.int S)):=out hp (by intro o z;cases z)
 refine ⟨.inl ⟨rfl,_,bC Xv⟩,_,Xv,by rw [List.length_map];exact bY (by omega),?_⟩
 have ma':kE (but N (aO C H)) M W md:=ma.move fun b o e nt np=>by
  by_cases hb:b=N
  ·rw [show but N H b=none from if_pos hb] at e;cases e
  ·rw [qA hb] at e ⊢;exact out e np
 have W':Kp N (aO C H) (upd (aO C H) N (.lst (List.map V.ref bs++[V.ref p]))):=fun b o hb e=>by rw [aq hb];exact e
 have hN1:upd (aO C H) N (.lst (List.map V.ref bs++[V.ref p])) N=some (.lst (List.map V.ref (bs++[p]))):=by rw [ah,List.map_append];rfl
 have hpN:p≠N:=aY hp hN (by intro z;cases z)
 have o7:=W' _ _ hpN Oq
 have ma1:=(ma'.same W'.but).same JC
 generalize upd (aO C H) N (.lst (List.map V.ref bs++[V.ref p]))=H1 at W' hN1 o7 ma1 ⊢
 repeat (walk_at "rl")
 refine ⟨M,p,rfl,md,W,S,ma1,o7,lS,sub,fun H2 s2=>q _ (fun b o hb e=>?_) ?_⟩
 ·cases e1:C.lookup b with
  | some o'=>rw [pin b o' e1] at e;cases e;exact gS e1
  | none=>rw [bB e1];exact s2 _ _ (W' b o hb (by rw [aN e1];exact e))
 ·rw [bB (pin.out hN (by intro o z;cases z))];exact s2 _ _ hN1
end
def WK (B:Hp) (C:List (Addr×Obj)) (N:Addr) (dom:List Int->Prop) (ts:List (List Int)) (H:Hp):Prop:=(∀b o,B b=some o->H b=some o)/\cK C H/\(∃bs,H N=some (.lst (List.map V.ref bs))/\aG H bs ts)/\∀s∈ts,dom s
section
variable {P:Program} {w:World} {K:PySem.W.Frag} {mg:Str->Option Value} {base:Heap} {t:oX}
theorem Nn {B:Hp} {f c' M N:Addr} {fo oc:Obj} {fd:FuncData} {cl:List (Str×Addr)} {C:List (Addr×Obj)} {x:List Int} {md:Md} {dom:List Int->Prop} (hfd:fo.data=.func fd) (Ph:kX P w K mg base 8 f (FH f c' fo oc cl M N)) (Jr:CellsOk C cl bx [.ref M,.ref N]) (lT:∀S,dom S->S.length<=100/\∀z∈S,z∈x)
  (hf:B f=some (cS fo)) (hc:B c'=some (cS oc)) (hm:kE B M x md) (hN:B N=none) :
  NC P w K mg base 8 f (fun b=>b=N) (fun b=>b=N\/(∃o,B b=some o)\/∃o,C.lookup b=some o) (WK B C N dom) (fun ts S=>ts++[S]) (fun ts=>ts.length<=100) dom md.tells:=by
 refine ⟨⟨⟨_,Ph,fun ts H p S Q hD hn hp hS q=>?_⟩,fun ts H hD=>⟨fo,fd,hD.1 _ _ hf,hfd⟩,fun ts H H' hD s=>?_,fun ts H b xs hD hz e=>?_⟩,fun b h=>.inl h,fun ts H b hD h=>?_,fun ts H H' hD k=>?_⟩
 ·obtain ⟨h1,h2,⟨bs,h3,h4⟩,h5⟩:=hD
  have lb:=h4.1
  have sB:bU B (but N H):=fun b o e=>by rw [qA (aj e hN)];exact h1 b o e
  refine ⟨p,rfl,h1 _ _ hf,h1 _ _ hc,C,h2,Jr,md,x,S,bs,hm.same sB,h3,by omega,hp,(lT S hS).1,(lT S hS).2,fun H' k Xv=>q H' ?_ fun b o n e=>k b o n e⟩
  have ne:∀{b:Addr} {o:HO},H b=some o->o≠.lst (List.map V.ref bs)->H' b=some o:=fun e n=>k _ _ (aY e h3 n) e
  refine ⟨fun b o e=>k b o (aj e hN) (h1 b o e),fun b o e=>ne (h2 b o e) (by intro z;cases z),⟨bs++[p],Xv,(h4.mono fun _ _ e=>ne e (by intro z;cases z)).snoc (ne hp (by intro z;cases z))⟩,fun s hs=>?_⟩
  rcases List.mem_append.mp hs with z | z
  ·exact h5 s z
  ·rw [List.mem_singleton.mp z];exact hS
 ·obtain ⟨h1,h2,⟨bs,h3,h4⟩,h5⟩:=hD
  exact ⟨fun b o e=>s _ _ (h1 b o e),fun b o e=>s _ _ (h2 b o e),⟨bs,s _ _ h3,h4.mono fun _ _ e=>s _ _ e⟩,h5⟩
 ·obtain ⟨h1,h2,⟨bs,h3,h4⟩,h5⟩:=hD
  have yK:b=N:=hz
  rw [yK,h3] at e;cases e
 ·obtain ⟨h1,h2,⟨bs,h3,h4⟩,h5⟩:=hD
  rcases h with rfl | ⟨o,e⟩ | ⟨o,e⟩
  ·rw [h3];intro z;cases z
  ·rw [h1 b o e];intro z;cases z
  ·rw [h2 b o e];intro z;cases z
 ·obtain ⟨h1,h2,⟨bs,h3,h4⟩,h5⟩:=hD
  exact ⟨fun b o e=>k b o (.inl (.inr (.inl ⟨o,e⟩))) (h1 b o e),fun b o e=>k b _ (.inl (.inr (.inr ⟨o,e⟩))) (h2 b o e),⟨bs,k _ _ (.inl (.inl rfl)) h3,h4.mono fun b xs e=>k b _ (.inr ⟨xs,rfl⟩) e⟩,h5⟩
end
local macro_rules | `(tactic| walk_at "rd") => `(tactic| walk_at "rc")
local macro_rules | `(tactic| walk_at "rl") => `(tactic| first | (refine dR fun R hR => ?_) | walk_at "ry" | (refine Nx.to (by assumption) _ _ ?_))
theorem eD {x y z:List Int} (h1:aA x y=true) (h2:aA y z=true):aA x z=true:=aQ.mpr fun m hm=>aQ.mp h2 m (aQ.mp h1 m hm)
def Good (ps:List (List Int)) (tells:List Int->Bool) (a:List Int):Prop:=(tells a=false/\∀T∈ps,aA T a=true->T≠a->tells T=true)\/(tells a=true/\∀T∈ps,aA a T=true->T≠a->tells T=false)
theorem uK (tells:List Int->Bool) (as:List (List Int)) (S:List Int):(eK tells as S).length<=as.length+1:=by
 unfold eK
 by_cases c:det tells as S=true
 ·rw [if_pos c];omega
 ·rw [if_neg c,List.length_append];simp
theorem tD (tells:List Int->Bool) (W:List Int):∀(ms:List Int) (c:List Int×List (List Int)),(eF tells (eK tells) W ms c).2.length<=c.2.length+ms.length
 | [],c=>Nat.le_refl _
 | m::ms,c=>by
  have h:=tD tells W ms (if tells (aU W c.1 m)=true then aU W c.1 m else c.1,eK tells c.2 (aU W c.1 m))
  have h2:=uK tells c.2 (aU W c.1 m)
  have e:eF tells (eK tells) W (m::ms) c=eF tells (eK tells) W ms (if tells (aU W c.1 m)=true then aU W c.1 m else c.1,eK tells c.2 (aU W c.1 m)):=rfl
  rw [e,List.length_cons]
  have h':(eF tells (eK tells) W ms (if tells (aU W c.1 m)=true then aU W c.1 m else c.1,eK tells c.2 (aU W c.1 m))).2.length<=(eK tells c.2 (aU W c.1 m)).length+ms.length:=h
  omega
theorem uL {p:List Int->Prop} {tells:List Int->Bool} {as:List (List Int)} {S:List Int} (h:∀a∈as,p a) (hS:p S):∀a∈eK tells as S,p a:=fun a ha=>by
 unfold eK at ha
 by_cases c:det tells as S=true
 ·rw [if_pos c] at ha;exact h a ha
 ·rw [if_neg c] at ha
  rcases List.mem_append.mp ha with z | z
  ·exact h a z
  ·rw [List.mem_singleton.mp z];exact hS
theorem tF {tells:List Int->Bool} {W:List Int}:∀(ms:List Int) (c:List Int×List (List Int)),(∀a∈c.2,a.Sublist W)->∀a∈(eF tells (eK tells) W ms c).2,a.Sublist W
 | [],c,h=>h
 | m::ms,c,h=>tF ms (if tells (aU W c.1 m)=true then aU W c.1 m else c.1,eK tells c.2 (aU W c.1 m)) (uL h (dg W c.1 m))
theorem tE {tells:List Int->Bool} {W:List Int}:∀(ms:List Int) (c:List Int×List (List Int)),det tells c.2 c.1=true->det tells (eF tells (eK tells) W ms c).2 (eF tells (eK tells) W ms c).1=true
 | [],c,h=>h
 | m::ms,c,h=>tE ms (if tells (aU W c.1 m)=true then aU W c.1 m else c.1,eK tells c.2 (aU W c.1 m)) (by
  show det tells (eK tells c.2 (aU W c.1 m)) (if tells (aU W c.1 m)=true then aU W c.1 m else c.1)=true
  by_cases e:tells (aU W c.1 m)=true
  ·rw [if_pos e];exact pH _ _ _
  ·rw [if_neg e];exact qx (fun a ha=>m6 ha) h)
theorem gj {tells:List Int->Bool} {W:List Int} {z:Int}:∀(ms c:List Int),c.Sublist W->z∈c->z∈cq tells W ms c
 | [],c,_,h=>h
 | m::ms,c,sc,h=>gj ms (if tells (aU W c m)=true then aU W c m else c) (by
   by_cases e:tells (aU W c m)=true
   ·rw [if_pos e];exact dg W c m
   ·rw [if_neg e];exact sc) (by
  by_cases e:tells (aU W c m)=true
  ·rw [if_pos e];exact List.mem_filter.mpr ⟨sc.subset h,decide_eq_true (.inl h)⟩
  ·rw [if_neg e];exact h)
theorem tG {tells:List Int->Bool} {W:List Int}:∀(ms c:List Int),tells c=true->tells (cq tells W ms c)=true
 | [],c,h=>h
 | m::ms,c,h=>tG ms (if tells (aU W c m)=true then aU W c m else c) (by
  by_cases e:tells (aU W c m)=true
  ·rw [if_pos e];exact e
  ·rw [if_neg e];exact h)
theorem tH {tells:List Int->Bool} {W T:List Int} (mono:j4 (cX W) tells) (hT:T.Sublist W) (tT:tells T=true) {z:Int} (hz:z∈T):∀(ms c:List Int),c.Sublist W->z∈ms->(∀y∈cq tells W ms c,y∈T)->z∈cq tells W ms c
 | [],c,_,h,_=>(nomatch h)
 | m::ms,c,sc,h,Io=>by
  have sc':(if tells (aU W c m)=true then aU W c m else c).Sublist W:=by
   by_cases e:tells (aU W c m)=true
   ·rw [if_pos e];exact dg W c m
   ·rw [if_neg e];exact sc
  have e0:cq tells W (m::ms) c=cq tells W ms (if tells (aU W c m)=true then aU W c m else c):=rfl
  rcases List.mem_cons.mp h with rfl | h
  ·have cT:∀y∈c,y∈T:=fun y hy=>Io y (gj (z::ms) c sc hy)
   have tm:tells (aU W c z)=true:=mono _ (eU.mpr (dg W c z)) _ (eU.mpr hT) (aQ.mpr fun y hy=>by
    rcases of_decide_eq_true (List.mem_filter.mp hy).2 with a | a
    ·exact cT y a
    ·rw [a];exact hz) tT
   rw [e0,if_pos tm]
   exact gj ms _ (dg W c z) (List.mem_filter.mpr ⟨hT.subset hz,decide_eq_true (.inr rfl)⟩)
  ·rw [e0]
   exact tH mono hT tT hz ms _ sc' h fun y hy=>Io y hy
theorem Dt {ps:List (List Int)} {W:List Int} {tells:List Int->Bool} (rW:dJ W) (xG:∀T,T∈ps↔T∈cX W) (pw:ps.Pairwise fun a b=>bL a b=true) (mono:j4 (cX W) tells) {as:List (List Int)} (tu:qF ps W tells as) :
  (∀a∈as,a.Sublist W)/\∃ws:List (List Int),ws.Nodup/\(∀v∈ws,v∈as/\Good ps tells v)/\as.length<=(W.length+1) * ws.length:=by
 induction tu with
 | nil=>exact ⟨fun a ha=>(nomatch ha),[],List.nodup_nil,fun v hv=>(nomatch hv),Nat.zero_le _⟩
 | @step as S r _ RZ ih=>
  obtain ⟨sub,ws,nd,hw,le⟩:=ih
  have IK:S∈ps.filter fun T=>!det tells as T:=by rw [RZ];exact List.mem_cons_self
  have hS:S∈ps:=(List.mem_filter.mp IK).1
  have Vz:det tells as S=false:=by have:=(List.mem_filter.mp IK).2;simpa using this
  have sS:S.Sublist W:=eU.mp ((xG S).mp hS)
  have rise:∀{T:List Int},T∈ps->dJ T:=fun h=>rW.sublist (eU.mp ((xG _).mp h))
  have Di:∀{T:List Int},T.Sublist W->T∈cX W:=fun h=>eU.mpr h
  have nin:∀{v:List Int},det tells as v=false->v∉ws:=fun hd hv=>by rw [kh (hw _ hv).1] at hd;cases hd
  have fin:∀v,det tells as v=false->v∈turn W tells as S->Good ps tells v->(turn W tells as S).length<=as.length+(W.length+1)->(∀a∈turn W tells as S,a.Sublist W)->(∀a∈turn W tells as S,a.Sublist W)/\∃ws:List (List Int),ws.Nodup/\(∀v∈ws,v∈turn W tells as S/\Good ps tells v)/\(turn W tells as S).length<=(W.length+1) * ws.length:=fun v h1 h2 h3 h4 h5=>by
   refine ⟨h5,v::ws,List.nodup_cons.mpr ⟨nin h1,nd⟩,fun u hu=>?_,?_⟩
   ·rcases List.mem_cons.mp hu with rfl | hu
    ·exact ⟨h2,h3⟩
    ·exact ⟨nQ (m6 (hw u hu).1),(hw u hu).2⟩
   ·rw [List.length_cons,Nat.mul_succ];omega
  cases eS:tells S with
  | false=>
   have et:turn W tells as S=eK tells as S:=if_neg (by rw [eS];decide)
   refine fin S Vz ?_ (.inl ⟨eS,fun T hT hp ne=>?_⟩) ?_ ?_
   ·rw [et];unfold eK;rw [if_neg (by rw [Vz];decide)];simp
   ·have dT:det tells as T=true:=by
     cases d:det tells as T with
     | true=>rfl
     | false=>
      have Vy:T∈ps.filter fun T=>!det tells as T:=List.mem_filter.mpr ⟨hT,by rw [d];rfl⟩
      have pf:=pw.sublist (List.filter_sublist (l:=ps) (p:=fun T=>!det tells as T))
      rw [RZ] at pf Vy
      rcases List.mem_cons.mp Vy with z | z
      ·exact absurd z ne
      ·have h1:=(List.pairwise_cons.mp pf).1 T z
       have h2:=FQ h1 (yc (rise hT) (rise hS) hp ne)
       rw [si] at h2;cases h2
    obtain ⟨a,ha,hc⟩:=List.any_eq_true.mp dT
    have aps:=Di (sub a ha)
    cases ea:tells a with
    | true=>
     rw [ea] at hc
     exact mono T ((xG T).mp hT) a aps (by simpa [cov] using hc) ea
    | false=>
     rw [ea] at hc
     have hV:aA a T=true:=by simpa [cov] using hc
     have:det tells as S=true:=List.any_eq_true.mpr ⟨a,ha,by rw [ea];simpa [cov] using eD hV hp⟩
     rw [Vz] at this;cases this
   ·rw [et];have:=uK tells as S;omega
   ·rw [et];exact uL sub sS
  | true=>
   have et:turn W tells as S=(eF tells (eK tells) W (bq W S) (S,eK tells (eK tells as S) S)).2:=if_pos eS
   have e2:eK tells (eK tells as S) S=eK tells as S:=if_pos (pH tells as S)
   rw [e2] at et
   have eG:=n6 tells (eK tells) W (bq W S) (S,eK tells as S)
   have sG:=n8 tells W (bq W S) S sS
   have yG:=tG (W:=W) (bq W S) S eS
   have SG:aA S (cq tells W (bq W S) S)=true:=aQ.mpr fun z hz=>gj (bq W S) S sS hz
   have dF:=tE (W:=W) (bq W S) (S,eK tells as S) (pH tells as S)
   have aF:=tF (tells:=tells) (bq W S) (S,eK tells as S) (uL sub sS)
   have lF:=tD tells W (bq W S) (S,eK tells as S)
   rw [eG] at dF
   rw [<-et] at dF aF lF
   have mx:∀T∈ps,aA (cq tells W (bq W S) S) T=true->T≠cq tells W (bq W S) S->tells T=false:=fun T hT hp ne=>by
    cases tT:tells T with
    | false=>rfl
    | true=>
     have sT:=eU.mp ((xG T).mp hT)
     exfalso
     refine ne (kc (rise hT) (rW.sublist sG) fun z=>⟨fun hz=>?_,fun hz=>aQ.mp hp z hz⟩)
     by_cases hzS:z∈S
     ·exact gj (bq W S) S sS hzS
     ·exact tH mono sT tT hz (bq W S) S sS (List.mem_filter.mpr ⟨sT.subset hz,by simpa using hzS⟩) fun y hy=>aQ.mp hp y hy
   refine fin (cq tells W (bq W S) S) ?_ ?_ (.inr ⟨yG,mx⟩) ?_ aF
   ·cases d:det tells as (cq tells W (bq W S) S) with
    | false=>rfl
    | true=>
     obtain ⟨a,ha,hc⟩:=List.any_eq_true.mp d
     cases ea:tells a with
     | true=>
      rw [ea] at hc
      have hV:aA (cq tells W (bq W S) S) a=true:=by simpa [cov] using hc
      have:det tells as S=true:=List.any_eq_true.mpr ⟨a,ha,by rw [ea];simpa [cov] using eD SG hV⟩
      rw [Vz] at this;cases this
     | false=>
      rw [ea] at hc
      have:=mono a (Di (sub a ha)) _ (Di sG) (by simpa [cov] using hc) yG
      rw [ea] at this;cases this
   ·obtain ⟨a,ha,hc⟩:=List.any_eq_true.mp dF
    have sa:=aF a ha
    cases ea:tells a with
    | true=>
     rw [ea] at hc
     have hV:aA (cq tells W (bq W S) S) a=true:=by simpa [cov] using hc
     by_cases ne:a=cq tells W (bq W S) S
     ·rw [<-ne];exact ha
     ·have:=mx a ((xG a).mpr (Di sa)) hV ne
      rw [ea] at this;cases this
    | false=>
     rw [ea] at hc
     have:=mono a (Di sa) _ (Di sG) (by simpa [cov] using hc) yG
     rw [ea] at this;cases this
   ·have h1:=uK tells as S
    have h2:(bq W S).length<=W.length:=List.length_filter_le _ _
    have lF':(turn W tells as S).length<=(eK tells as S).length+(bq W S).length:=lF
    omega
theorem few {ps:List (List Int)} {W:List Int} {tells:List Int->Bool} (rW:dJ W) (xG:∀T,T∈ps↔T∈cX W) (pw:ps.Pairwise fun a b=>bL a b=true) (mono:j4 (cX W) tells) {as clashes dj:List (List Int)} (tu:qF ps W tells as) (Ft:∀a∈as,a∈ps)
  (HB:∀x,x∈clashes↔x∈as.filter (fun a=>!tells a)/\∀y∈as.filter (fun a=>!tells a),aA y x=true->y=x) (Hz:∀x,x∈dj↔x∈as.filter tells/\∀y∈as.filter tells,aA x y=true->y=x):as.length<=(W.length+1) * (clashes.length+dj.length):=by
 obtain ⟨_,ws,nd,hw,le⟩:=Dt rW xG pw mono tu
 have h:ws.length<=(clashes++dj).length:=cU nd fun v hv=>by
  obtain ⟨va,g⟩:=hw v hv
  rcases g with ⟨tv,g⟩ | ⟨tv,g⟩
  ·refine List.mem_append_left _ ((HB v).mpr ⟨List.mem_filter.mpr ⟨va,by rw [tv];rfl⟩,fun y hy hp=>?_⟩)
   obtain ⟨ya,ty⟩:=List.mem_filter.mp hy
   by_cases ne:y=v
   ·exact ne
   ·rw [g y (Ft y ya) hp ne] at ty;cases ty
  ·refine List.mem_append_right _ ((Hz v).mpr ⟨List.mem_filter.mpr ⟨va,tv⟩,fun y hy hp=>?_⟩)
   obtain ⟨ya,ty⟩:=List.mem_filter.mp hy
   by_cases ne:y=v
   ·exact ne
   ·rw [g y (Ft y ya) hp ne] at ty;cases ty
 rw [List.length_append] at h
 exact Nat.le_trans le (Nat.mul_le_mul_left _ h)
local macro_rules | `(tactic| walk_at "rd") => `(tactic| walk_at "rc")
local macro_rules | `(tactic| walk_at "rl") => `(tactic| first | (refine dR fun R hR => ?_) | walk_at "ry" | (refine Nx.to (by assumption) _ _ ?_))
theorem Kh {g:Int->Int} (g0:∀z,0<=g z) {S T:List Int} (h:S.Sublist T):(S.map g).sum<=(T.map g).sum:=by
 induction h with
 | slnil=>exact Int.le_refl _
 | cons a _ ih=>rw [List.map_cons,List.sum_cons];have:=g0 a;omega
 | cons_cons a _ ih=>rw [List.map_cons,List.map_cons,List.sum_cons,List.sum_cons];omega
theorem Hg {S T:List Int} (rS:dJ S) (rT:dJ T) (h:aA S T=true):S.Sublist T:=by
 have e:T.filter (fun z=>decide (z∈S))=S:=kc (rT.sublist List.filter_sublist) rS fun z=>by
  rw [List.mem_filter,decide_eq_true_eq]
  exact ⟨fun h=>h.2,fun hz=>⟨aQ.mp h z hz,hz⟩⟩
 rw [<-e];exact List.filter_sublist
theorem z8 {H:Hp} {p:Addr} {x:List Int} {md:Md} (rx:dJ x) (m:kE H p x md):j4 (cX x) md.tells:=fun S hS T hT hp ht=>by
 cases md with
 | wt g most=>
  obtain ⟨d,ks,_,_,_,g0⟩:=m
  have:=Kh g0 (Hg (rx.sublist (gZ hS)) (rx.sublist (gZ hT)) hp)
  have Rg:=of_decide_eq_true ht
  exact decide_eq_true (by omega)
 | Oc ss=>
  obtain ⟨s,hs,e⟩:=List.any_eq_true.mp ht
  exact List.any_eq_true.mpr ⟨s,hs,aQ.mpr fun z hz=>aQ.mp e z (aQ.mp hp z hz)⟩
 | out ss=>
  have Rg:(!(ss.any fun s=>aA s T))=true:=ht
  show (!(ss.any fun s=>aA s S))=true
  cases e:ss.any fun s=>aA s S with
  | false=>rfl
  | true=>
   obtain ⟨s,hs,e⟩:=List.any_eq_true.mp e
   have e2:(ss.any fun s=>aA s T)=true:=List.any_eq_true.mpr ⟨s,hs,aQ.mpr fun z hz=>aQ.mp hp z (aQ.mp e z hz)⟩
   rw [e2] at Rg
   cases Rg
theorem qv {α:Type} (as:List α):∀i:List α,as.foldl (fun ts S=>ts++[S]) i=i++as:=by
 induction as with
 | nil=>intro i;rw [List.append_nil];rfl
 | cons a as ih=>intro i;rw [List.foldl_cons,ih,List.append_assoc];rfl
def zE (K:PySem.W.Frag) (pT pS:Addr):Sp:=fun vs H Q _=>∃(a:Addr) (ns:List Int),vs=[.ref a]/\mG K H a (List.map V.int ns)/\ns.length<=63/\H pT=some (.mD #[])/\H pS=some (.mD #[])/\pT≠pS/\∀H',Q (.bl true) H'
section
variable {P:Program} {w:World} {K:PySem.W.Frag} {mg:Str->Option Value} {base:Heap} {t:oX}
theorem Qz (T:Txt K mg t) {c pT c1 pS:Addr} (gO:t.Ba.code=.ref c) (hC:PySem.W.CodeHd base c pT) (Ry:t.iB.code=.ref c1) (hC1:PySem.W.CodeHd base c1 pS) (hB:BMain mg base):bO P w K mg base eL 20 t.JP t.Ba ["_law_script"] (zE K pT pS):=by
 have aW:=pC (P:=P) (w:=w) (base:=base) T
 have xD:=Lx (P:=P) (w:=w) (base:=base) T
 have qJ:=yh (P:=P) (w:=w) (base:=base) T
 have oR:=z5 (P:=P) (w:=w) (base:=base) T
 have vw:=Hl (P:=P) (w:=w) (base:=base) T
 have nB:=v5 (P:=P) (w:=w) (base:=base) T
 have Eb:=yg (P:=P) (w:=w) (base:=base) T Ry hC1 hB
 refine T.Wy.Ur iQ (fun vs H Q E h=>?_) (fun cC A outer s H vs Q E hcv hr h hc hf=>?_)
 ·obtain ⟨a,ns,rfl,_⟩:=h;rfl
 obtain ⟨a,ns,rfl,hS,h63,hT,SN,hTS,q⟩:=h
 have rA:cC=.ref c:=by rw [<-hcv];exact gO
 have hu:=kL hr
 have Mb:=hr.fY
 refine ⟨_,(by apply au;exact (aM hc iQ.nd hf 1 (by decide +kernel) (aD xD (hr.mono (by omega)) (cW hc (by decide +kernel)) T.wy T.oW.kp T.xu .nil bt (ae (av hc 0 (by decide +kernel)) ao)));apply au;exact (aM hc iQ.nd hf 2 (by decide +kernel) (aD qJ (hr.mono (by omega)) (cW hc (by decide +kernel)) T.qb T.j7.kp T.qD .nil bt (ae (av hc 1 (by decide +kernel)) (ae ai ao))));apply au;exact (aM hc iQ.nd hf 3 (by decide +kernel) (aD vw (hr.mono (by omega)) (cW hc (by decide +kernel)) T.uU T.nE.kp T.vn .nil bt (ae (av hc 1 (by decide +kernel)) (ae (av hc 2 (by decide +kernel)) ao))));apply au;exact (aM hc iQ.nd hf 4 (by decide +kernel) (dO ao));apply au;exact (Es (fr:=bx) hc iQ.nd hf 5 (by decide +kernel) rA hC hB rfl (by decide +kernel) (by decide +kernel) rfl rfl rfl);apply au;exact (aM hc iQ.nd hf 6 (by decide +kernel) (rL (xs:=[(3,"_law_model_here"),(4,"_law_notes")]) (cells:=cellsFrom (s.heap.objs.size+1) (ag jy).names []) (EH:=fun _=>E0) rfl Eb.toE (hr.mono (by omega)) (cW hc (by decide +kernel)) T.CJ T.tY.kp T.DX HN hf (Ig hc (by decide +kernel)) (ae (av hc 2 (by decide +kernel)) (ae (av hc 5 (by decide +kernel)) ao))));apply au;exact (cE (pL (xI (gI (cL (bA tO (cW hc (by decide +kernel)) T.z_isinstance nr (ae (av hc 6 (by decide +kernel)) (ae (vD (v:=V.ty "tuple") (cW hc (by decide +kernel)) T.z_tuple kl rfl) ao))))) (t5 (bK N4 (bA fU (cW hc (by decide +kernel)) T.z_len jS (ae (av hc 6 (by decide +kernel)) ao)) ai (dk _))))) (by exact az (aR gY)) bF);apply au;exact (dB PassesOwn.never rfl (fE (av hc 6 (by decide +kernel))) (nI hc iQ.nd hf 7 (by decide +kernel)) (by exact az (cE (gI (cL (bA tO (cW hc (by decide +kernel)) T.z_isinstance nr (ae (av hc 7 (by decide +kernel)) (ae (vD (v:=V.ty "list") (cW hc (by decide +kernel)) T.z_list JG rfl) ao))))) (by exact az (aR gY)) bF)));apply au;exact (dB PassesOwn.never rfl (dq (aV yf (bE o5 (av hc 6 (by decide +kernel)) ai (fun _ _=>rfl)) (bE o5 (av hc 6 (by decide +kernel)) ai (fun _ _=>rfl)))) (nI hc iQ.nd hf 8 (by decide +kernel)) (by exact az (cE (pL (xI (bK (sO hu) (av hc 8 (by decide +kernel)) (av hc 4 (by decide +kernel)) (by with_unfolding_all rfl)) (t5 (bK (sO hu) (av hc 8 (by decide +kernel)) (bE o5 (av hc 6 (by decide +kernel)) ai (fun _ _=>rfl)) (by with_unfolding_all rfl))))) (by exact az (aR gY)) bF)));exact az (aR (mO N6 (bA iD (cW hc (by decide +kernel)) T.z_len jS (ae (av hc 4 (by decide +kernel)) ao)) (aV jB (aV eO (bA fU (cW hc (by decide +kernel)) T.z_len jS (ae (av hc 2 (by decide +kernel)) ao)) ai) (aV eO (bA iD (cW hc (by decide +kernel)) T.z_len jS (ae (bE o5 (av hc 6 (by decide +kernel)) ai (fun _ _=>rfl)) ao)) (bA iD (cW hc (by decide +kernel)) T.z_len jS (ae (bE o5 (av hc 6 (by decide +kernel)) ai (fun _ _=>rfl)) ao)))) (dk _)))),?_⟩
 repeat (walk_at "rl")
 refine ⟨a,ns,rfl,hS,fun h H1 s1 h0 hd=>?_⟩
 repeat (walk_at "rl")
 refine ⟨h,_,rfl,6,rfl,by decide,hd,fun W x H4 d14 hW SM lx rise=>?_⟩
 have Iy:=(d14.fi hd).lN SM
 have ndx:x.Nodup:=rise.imp fun h=>Int.ne_of_lt h
 repeat (walk_at "rl")
 refine ⟨h,W,rfl,d14.fi hd,x,SM,by omega,ndx,fun M md H5 d5 hM md5=>?_⟩
 have d15:=d14.trans d5
 have hTh:pT≠h:=aj hT h0
 have hSh:pS≠h:=aj SN h0
 have hT5:=d15.keep _ _ hTh (s1 _ _ hT)
 have hS5:=d15.keep _ _ hSh (s1 _ _ SN)
 repeat (walk_at "rl")
 refine ⟨by decide,fun N hN=>?_⟩
 have P6:=aK hN (.lst [])
 have VF:upd H5 N (.lst []) N=some (.lst []):=ah
 generalize upd H5 N (.lst [])=H6 at P6 VF ⊢
 have Xr:=P6 _ _ hT5
 have hS6:=P6 _ _ hS5
 repeat (walk_at "rl")
 refine ⟨#[],Xr,trivial,rfl,fun cl f c' oc vE tq ctv doc tj nZ inj Xj Xl hfc nG hq=>?_⟩
 generalize Mv:PySem.W.fnMade (Str.ofString "_law_ask") _ _ _ _ cl doc _ c' ctv=fo
 have Ph:kX P w K mg base 8 f (FH f c' fo oc cl M N):=by rw [<-Mv];exact Nh T nG hq nZ inj
 have ffo:∃fd,fo.data=.func fd:=by rw [<-Mv];exact ⟨_,rfl⟩
 clear Mv hq nG inj
 generalize e7:made H6 pT _ c' oc f fo=H7
 have hfT:f≠pT:=(aj Xr Xj).symm
 have hcT:c'≠pT:=(aj Xr Xl).symm
 have XR:∀{b:Addr} {o:HO},H6 b=some o->b≠pT->H7 b=some o:=fun {b o} e nb=>by
  rw [<-e7];unfold made
  rw [aq (aj e Xj),aq (aj e Xl),aq nb];exact e
 have hf7:H7 f=some (cS fo):=by rw [<-e7];exact ah
 have hc7:H7 c'=some (cS oc):=by rw [<-e7];unfold made;rw [aq hfc.symm];exact ah
 clear e7
 have nT:∀{b:Addr} {o:HO},H6 b=some o->o≠.mD #[]->b≠pT:=fun e n=>aY e Xr n
 obtain ⟨fd,hfd⟩:=ffo
 have SX:H7 pS=some (.mD #[]):=XR hS6 hTS.symm
 have hN7:H7 N=some (.lst []):=XR VF (nT VF (by intro z;cases z))
 have Iz:H7 W=some (.tup (List.map V.int x)):=XR (P6 _ _ (d5.keep _ _ Iy SM)) (nT (P6 _ _ (d5.keep _ _ Iy SM)) (by intro z;cases z))
 obtain ⟨B,Xz⟩:∃B:Hp,∀b,B b=if b=N\/b=pS then none else H7 b:=⟨_,fun _=>rfl⟩
 have hBN:B N=none:=by rw [Xz];exact if_pos (.inl rfl)
 have hBS:B pS=none:=by rw [Xz];exact if_pos (.inr rfl)
 have toB:∀{b:Addr} {o:HO},H7 b=some o->b≠N->b≠pS->B b=some o:=fun {b o} e n1 n2=>by rw [Xz,if_neg (fun z=>z.elim n1 n2)];exact e
 have ofB:∀b o,B b=some o->H7 b=some o:=fun b o e=>by
  rw [Xz] at e
  by_cases z:b=N\/b=pS
  ·rw [if_pos z] at e;cases e
  ·rw [if_neg z] at e;exact e
 have Z9:kE B M x md:=md5.move fun b o e n _=>toB (XR (P6 _ _ e) (nT (P6 _ _ e) (n _))) (aj e hN) (aY e hS5 (n _))
 have hfB:B f=some (cS fo):=toB hf7 (aj VF Xj).symm (aj hS6 Xj).symm
 have hcB:B c'=some (cS oc):=toB hc7 (aj VF Xl).symm (aj hS6 Xl).symm
 obtain ⟨dom,lT⟩:∃dom:List Int->Prop,∀s,dom s↔s.Sublist x:=⟨_,fun _=>Iff.rfl⟩
 have aAU:∀T,dom T->T.length<=100/\∀z∈T,z∈x:=fun T hT=>⟨by have:=((lT T).mp hT).length_le;omega,fun z hz=>((lT T).mp hT).subset hz⟩
 repeat (walk_at "rl")
 refine ⟨fun q hq=>?_,fun C ca po=>?_⟩
 ·rcases List.mem_cons.mp hq with rfl | hq
  ·exact ⟨_,rfl⟩
  ·rw [List.mem_singleton.mp hq];exact ⟨_,rfl⟩
 have Jr:CellsOk C cl bx [.ref M,.ref N]:=fun j y hj=>by
  have one:∀(k:Nat) (y:Str) (v:Addr),(k,y)∈[(3,("_law_model_here" : Str)),(4,"_law_notes")]->([some (V.ref a),some (V.ref h),some (V.ref W),some (V.ref M),some (V.ref N),some (V.ref f),none,none,none]:St)[k]? = some (some (.ref v))->y∈bx->∃c o u v',cl.lookup y=some c/\C.lookup c=some o/\o.data=.cell (some u)/\some (V.ref v)=some v'/\RelV v' u:=fun k y v hk hv hy=>by
   obtain ⟨c1,o,u,v',h1,h2,h3,h4,h5⟩:=ca _ hk
   obtain ⟨c2,g1,g2⟩:=tj y hy
   have:c1=c2:=Option.some.inj (h1.symm.trans g1)
   subst this
   have VJ:([some (V.ref a),some (V.ref h),some (V.ref W),some (V.ref M),some (V.ref N),some (V.ref f),none,none,none]:St)[k]? = some (some v'):=h4
   rw [hv] at VJ
   cases VJ
   exact ⟨c1,o,u,_,g2,h2,h3,rfl,h5⟩
  match j,hj with
  | 0,hj=>cases hj;exact one 3 _ M (by simp) rfl (by decide +kernel)
  | 1,hj=>cases hj;exact one 4 _ N (by simp) rfl (by decide +kernel)
  | _+2,hj=>cases hj
 have ak:=Nn (P:=P) (w:=w) (base:=base) hfd Ph Jr aAU hfB hcB Z9 hBN
 have sC:bU H7 (dn C H7):=tX po
 have S6:WK B C N dom [] (dn C H7):=⟨fun b o e=>sC _ _ (ofB b o e),cB.added,⟨[],sC _ _ hN7,⟨rfl,fun _ _ _ z=>by cases z⟩⟩,fun s hs=>(nomatch hs)⟩
 refine ⟨W,f,rfl,_,_,_,_,_,_,dom,md.tells,[],x,#[],ak,S6,fun ts Ej=>?_,sC _ _ Iz,rise,by omega,fun T hT=>(lT T).mpr hT,z8 rise Z9,sC _ _ SX,trivial,rfl,?_,fun r H8 LC LP LA cs qs bs clashes dj as ps hr8 Ak sc RK sq Xw sb VG k8 HB Hz pwc pwp YX xG tu JM nda Ft=>?_⟩
 ·rw [qv];exact Ej
 ·rintro (z | ⟨o,z⟩ | ⟨o,z⟩)
  ·rw [z,hN7] at SX;cases SX
  ·rw [hBS] at z;cases z
  ·rw [po _ _ z] at SX;cases SX
 rw [qv,List.nil_append] at VG
 obtain ⟨_,pin,⟨Z1,hN8,sn8⟩,_⟩:=VG
 have out:∀{b:Addr} {o:HO},H8 b=some o->(∀o',o≠cS o')->aO C H8 b=some o:=fun e n=>by rw [aN (pin.out e n)];exact e
 have Xq:aO C H8 W=some (.tup (List.map V.int x)):=out (k8 W _ (fun z=>by have z':W=N:=z;rw [z',hN7] at Iz;cases Iz) (aY Iz SX (by intro z;cases z)) (sC _ _ Iz)) (by intro o z;cases z)
 have Om:=out hr8 (by intro o z;cases z)
 have MJ:=out Ak (by intro o z;cases z)
 have MF:=out RK (by intro o z;cases z)
 have RJ:=out Xw (by intro o z;cases z)
 have hN9:=out hN8 (by intro o z;cases z)
 have YJ:aG (aO C H8) cs clashes:=sc.mono fun b xs e=>out e (by intro o z;cases z)
 have Yi:aG (aO C H8) qs dj:=sq.mono fun b xs e=>out e (by intro o z;cases z)
 have TX:aG (aO C H8) bs as:=sb.mono fun b xs e=>out e (by intro o z;cases z)
 have Yl:aG (aO C H8) Z1 as:=sn8.mono fun b xs e=>out e (by intro o z;cases z)
 generalize aO C H8=H9 at Xq Om MJ MF RJ hN9 YJ Yi TX Yl ⊢
 clear hN8 sn8 sc sq sb Ak RK Xw hr8 out k8 S6 ak pin
 repeat (first | walk_at "rl" | simp only [Om])
 refine ⟨_,.tup Om,true,wC _ _,?_⟩
 rw [if_neg (by decide),if_neg (by simp)]
 repeat (first | walk_at "rl" | simp only [Om])
 refine ⟨⟨_,bR Om⟩,?_⟩
 obtain ⟨Pv,cO⟩:∃Pv:Nat->St->Hp->Prop,∀i σ' H',Pv i σ' H'↔∃z:Option V,σ'=[some (.ref a),some (.ref h),some (.ref W),some (.ref M),some (.ref N),some (.ref f),some (.ref r),z,none]/\H'=H9:=⟨_,fun _ _ _=>Iff.rfl⟩
 refine gp (xs:=[V.ref LC,V.ref LP,V.ref LA]) Pv ((cO _ _ _).mpr ⟨none,rfl,rfl⟩) (fun i σ' H' _ pv=>?_) (fun i z σ' H' hz pv=>?_) (fun σ' H' pv=>?_)
 ·obtain ⟨_,_,rfl⟩:=(cO _ _ _).mp pv
  exact Om
 ·obtain ⟨y,rfl,rfl⟩:=(cO _ _ _).mp pv
  have isl:∃b zs,z=.ref b/\H' b=some (.lst zs):=by
   match i,hz with
   | 0,hz=>cases hz;exact ⟨_,_,rfl,MJ⟩
   | 1,hz=>cases hz;exact ⟨_,_,rfl,MF⟩
   | 2,hz=>cases hz;exact ⟨_,_,rfl,RJ⟩
   | _+3,hz=>cases hz
  obtain ⟨b,zs,rfl,hb⟩:=isl
  repeat (walk_at "rl")
  refine ⟨_,.lst hb,true,wC _ _,?_⟩
  rw [if_neg (by decide)]
  exact (cO _ _ _).mpr ⟨_,rfl,rfl⟩
 obtain ⟨y,rfl,rfl⟩:=(cO _ _ _).mp pv
 clear cO pv Pv
 have L1:as.length<=64:=by
  have h1:=cU nda fun s hs=>(xG s).mp (Ft s hs)
  rw [j9] at h1
  have h2:2 ^ x.length<=2 ^ 6:=Nat.pow_le_pow_right (by decide) lx
  omega
 have ndl:∀{l:List (List Int)},l.Pairwise (fun a b=>bL a b=true)->l.Nodup:=fun h=>h.imp fun e z=>by rw [z,si] at e;cases e
 have lcl:clashes.length<=64:=Nat.le_trans (cU (ndl pwc) fun s hs=>(List.mem_filter.mp ((HB s).mp hs).1).1) L1
 have lpe:dj.length<=64:=Nat.le_trans (cU (ndl pwp) fun s hs=>(List.mem_filter.mp ((Hz s).mp hs).1).1) L1
 have lcs:=YJ.1
 have lqs:=Yi.1
 have lns:=Yl.1
 repeat (first | walk_at "rl" | simp only [Om])
 refine ⟨_,MJ,_,MF,by rw [List.length_map,List.length_map];exact Nat.le_of_lt (bY (by omega)),fun p hp=>?_⟩
 have xY:=aK hp (.lst (List.map V.ref cs++List.map V.ref qs))
 have Rp:upd H' p (.lst (List.map V.ref cs++List.map V.ref qs)) p=some (.lst (List.map V.ref (cs++qs))):=by rw [ah,List.map_append]
 have YH:=(YJ.app Yi).mono fun b xs e=>xY _ _ e
 have Rj:=xY _ _ Om
 have O3:=xY _ _ MJ
 have O2:=xY _ _ MF
 have O1:=xY _ _ RJ
 have RG:=xY _ _ hN9
 have Vx:=xY _ _ Xq
 have Ks:aG (upd H' p (.lst (List.map V.ref cs++List.map V.ref qs))) bs as:=TX.mono fun b xs e=>xY _ _ e
 have TF:aG (upd H' p (.lst (List.map V.ref cs++List.map V.ref qs))) Z1 as:=Yl.mono fun b xs e=>xY _ _ e
 generalize upd H' p (.lst (List.map V.ref cs++List.map V.ref qs))=Nz at YH Rp Rj O3 O2 O1 RG Vx Ks TF ⊢
 refine ⟨⟨_,bC Rp⟩,?_⟩
 obtain ⟨Pv,cO⟩:∃Pv:Nat->St->Hp->Prop,∀i σ' H',Pv i σ' H'↔∃z:Option V,σ'=[some (.ref a),some (.ref h),some (.ref W),some (.ref M),some (.ref N),some (.ref f),some (.ref r),y,z]/\H'=Nz:=⟨_,fun _ _ _=>Iff.rfl⟩
 refine eI (xs:=List.map V.ref (cs++qs)) Pv ((cO _ _ _).mpr ⟨none,rfl,rfl⟩) (fun i σ' H' _ pv=>?_) (fun i z σ' H' hz pv=>?_) (fun σ' H' pv=>?_)
 ·obtain ⟨_,_,rfl⟩:=(cO _ _ _).mp pv
  exact Rp
 ·obtain ⟨y,rfl,rfl⟩:=(cO _ _ _).mp pv
  obtain ⟨b,eb,rfl⟩:=fO hz
  have hi:i < (cs++qs).length:=(List.getElem?_eq_some_iff.mp eb).1
  have mE:i < (clashes++dj).length:=by have:=YH.1;omega
  have et:(clashes++dj)[i]? = some (clashes++dj)[i]:=List.getElem?_eq_getElem mE
  have hb:=YH.2 i b _ eb et
  have Io:(clashes++dj)[i]∈as:=by
   rcases List.mem_append.mp (List.getElem_mem mE) with z | z
   ·exact (List.mem_filter.mp ((HB _).mp z).1).1
   ·exact (List.mem_filter.mp ((Hz _).mp z).1).1
  generalize (clashes++dj)[i]=S at hb Io
  repeat (first | walk_at "rl" | simp only [Rj])
  refine ⟨S,hb,Z1,RG,as,TF,?_⟩
  rw [decide_eq_true Io,if_neg (by decide)]
  refine ⟨S,hb,bs,O1,as,Ks,?_⟩
  rw [decide_eq_true Io,if_neg (by decide)]
  exact (cO _ _ _).mpr ⟨_,rfl,rfl⟩
 obtain ⟨y',rfl,rfl⟩:=(cO _ _ _).mp pv
 clear cO pv Pv
 repeat (first | walk_at "rl" | simp only [Rj,Vx,RG,O3,O2])
 refine ⟨.inl ⟨by omega,by omega⟩,?_⟩
 have fw:=few rise xG YX (z8 rise Z9) tu Ft HB Hz
 rw [decide_eq_true (by
  rw [lns,lcs,lqs]
  have:((as.length:Nat):Int)<=(((x.length+1) * (clashes.length+dj.length):Nat):Int):=Int.ofNat_le.mpr fw
  rw [Int.natCast_mul,Int.natCast_add,Int.natCast_add] at this
  exact this)]
 exact q _
end
local macro_rules | `(tactic| walk_at "rd") => `(tactic| walk_at "rc")
local macro_rules | `(tactic| walk_at "rl") => `(tactic| first | (refine dR fun R hR => ?_) | walk_at "ry" | (refine Nx.to (by assumption) _ _ ?_))
theorem all_mk {l:PySem.W.OpenLaw} {w:World} {K:PySem.W.Frag} {h:Heap} {mg:Str->Option Value} {fa f0 f1 f2 f3 f4 f5 f6 f7 f8 f9 f10 f11 f12 f13 f14 f15 f16 f17 f18 f19 f20 f21 f22:Addr} (X:K.In h) (G:h.Ns mainGlobals mg) (hfa:mg "law" = some (.ref fa))
  {od0 an0 od1 an1 od2 an2 od3 an3 od4 an4 od5 an5 od6 an6 od7 an7 od8 an8 od9 an9 Zw aBw Zv aBv Zu aBu Zt aBt Zr aBs Zq aBr Zo aBq Zn aBp Zm aBo Zk aBn Zj aBm Zi aBl Zh Wt:Option Addr} {sl0 sl1 BW Yo sl4 sl5 sl6 sl7 sl8 sl9 YC YB Yz Yy Yx Yw Yv Yu Yt Ys Yr Yq Yp:Array (Option Value)} {oc0 kV0 dc0 pm0 cd0 ct0 oc1 kV1 dc1 pm1 cd1 ct1 oc2 kV2 dc2 pm2 cd2 ct2 oc3 kV3 dc3 pm3 cd3 ct3 oc4 kV4 dc4 pm4 cd4 ct4 oc5 kV5 dc5 pm5 cd5 ct5 oc6 kV6 dc6 pm6 cd6 ct6 oc7 kV7 dc7 pm7 cd7 ct7 oc8 kV8 dc8 pm8 cd8 ct8 oc9 kV9 dc9 pm9 cd9 ct9 ZX aAp aA6 Zc Wl aBk ZV aAo aA5 Zb Wk aBj ZR aAn aA4 Za aBi ZQ aAm aA3 Y9 Wj aBh ZP aAl aA2 Y8 Wi aBg ZM aAk aA1 Y7 Wh aBf ZL aAj aA0 Y6 Wg aBe ZK aAi aAZ Y5 Wf aBd ZJ aAh aAY Y4 Wd aBb ZF aAg aAX Y3 Wc aBa ZD aAf aAW Y2 Wb aA9 Zz aAe aAV Y1 Wa aA8 Zy UG V7 Ug V8:Value}
  {cC_law pT_law:Addr} (RQ:PySem.W.codeHdIn K cC_law pT_law=true)
  {cC_sounded pT_sounded:Addr} (yO:PySem.W.codeHdIn K cC_sounded pT_sounded=true)
  (a0:PySem.W.nsIn K mainGlobals "each_once_in_order" = some (some (.ref f0))) (l0:K.lookup f0=some ⟨oc0,od0,.func (PySem.W.fnOf "each_once_in_order" "each_once_in_order" (aP bG) (aJ bG) (ag bG) .none kV0 dc0 pm0 an0 cd0 ct0),sl0⟩) (c0:PySem.W.codeIn K cd0 "each_once_in_order" = true) (k0:PySem.W.keepIn K (.ref f0)=true)
  (a1:PySem.W.nsIn K mainGlobals "order_of" = some (some (.ref f1))) (l1:K.lookup f1=some ⟨oc1,od1,.func (PySem.W.fnOf "order_of" "order_of" (aP e8) (aJ e8) (ag e8) .none kV1 dc1 pm1 an1 cd1 ct1),sl1⟩) (c1:PySem.W.codeIn K cd1 "order_of" = true) (k1:PySem.W.keepIn K (.ref f1)=true)
  (a2:PySem.W.nsIn K mainGlobals "set_of" = some (some (.ref f2))) (l2:K.lookup f2=some ⟨oc2,od2,.func (PySem.W.fnOf "set_of" "set_of" (aP ik) (aJ ik) (ag ik) .none kV2 dc2 pm2 an2 cd2 ct2),BW⟩) (c2:PySem.W.codeIn K cd2 "set_of" = true) (k2:PySem.W.keepIn K (.ref f2)=true)
  (a3:PySem.W.nsIn K mainGlobals "is_part" = some (some (.ref f3))) (l3:K.lookup f3=some ⟨oc3,od3,.func (PySem.W.fnOf "is_part" "is_part" (aP fT) (aJ fT) (ag fT) .none kV3 dc3 pm3 an3 cd3 ct3),Yo⟩) (c3:PySem.W.codeIn K cd3 "is_part" = true) (k3:PySem.W.keepIn K (.ref f3)=true)
  (a4:PySem.W.nsIn K mainGlobals "in_order" = some (some (.ref f4))) (l4:K.lookup f4=some ⟨oc4,od4,.func (PySem.W.fnOf "in_order" "in_order" (aP fc) (aJ fc) (ag fc) .none kV4 dc4 pm4 an4 cd4 ct4),sl4⟩) (c4:PySem.W.codeIn K cd4 "in_order" = true) (k4:PySem.W.keepIn K (.ref f4)=true)
  (a5:PySem.W.nsIn K mainGlobals "least_of" = some (some (.ref f5))) (l5:K.lookup f5=some ⟨oc5,od5,.func (PySem.W.fnOf "least_of" "least_of" (aP e9) (aJ e9) (ag e9) .none kV5 dc5 pm5 an5 cd5 ct5),sl5⟩) (c5:PySem.W.codeIn K cd5 "least_of" = true) (k5:PySem.W.keepIn K (.ref f5)=true)
  (a6:PySem.W.nsIn K mainGlobals "greatest_of" = some (some (.ref f6))) (l6:K.lookup f6=some ⟨oc6,od6,.func (PySem.W.fnOf "greatest_of" "greatest_of" (aP df) (aJ df) (ag df) .none kV6 dc6 pm6 an6 cd6 ct6),sl6⟩) (c6:PySem.W.codeIn K cd6 "greatest_of" = true) (k6:PySem.W.keepIn K (.ref f6)=true)
  (a7:PySem.W.nsIn K mainGlobals "holds_one_of" = some (some (.ref f7))) (l7:K.lookup f7=some ⟨oc7,od7,.func (PySem.W.fnOf "holds_one_of" "holds_one_of" (aP cQ) (aJ cQ) (ag cQ) .none kV7 dc7 pm7 an7 cd7 ct7),sl7⟩) (c7:PySem.W.codeIn K cd7 "holds_one_of" = true) (k7:PySem.W.keepIn K (.ref f7)=true)
  (a8:PySem.W.nsIn K mainGlobals "lies_in_one_of" = some (some (.ref f8))) (l8:K.lookup f8=some ⟨oc8,od8,.func (PySem.W.fnOf "lies_in_one_of" "lies_in_one_of" (aP cu) (aJ cu) (ag cu) .none kV8 dc8 pm8 an8 cd8 ct8),sl8⟩) (c8:PySem.W.codeIn K cd8 "lies_in_one_of" = true) (k8:PySem.W.keepIn K (.ref f8)=true)
  (a9:PySem.W.nsIn K mainGlobals "rest_of" = some (some (.ref f9))) (l9:K.lookup f9=some ⟨oc9,od9,.func (PySem.W.fnOf "rest_of" "rest_of" (aP fS) (aJ fS) (ag fS) .none kV9 dc9 pm9 an9 cd9 ct9),sl9⟩) (c9:PySem.W.codeIn K cd9 "rest_of" = true) (k9:PySem.W.keepIn K (.ref f9)=true)
  (a10:PySem.W.nsIn K mainGlobals "parts_of" = some (some (.ref f10))) (l10:K.lookup f10=some ⟨ZX,Zw,.func (PySem.W.fnOf "parts_of" "parts_of" (aP eZ) (aJ eZ) (ag eZ) .none aAp aA6 Zc aBw Wl aBk),YC⟩) (c10:PySem.W.codeIn K Wl "parts_of" = true) (k10:PySem.W.keepIn K (.ref f10)=true)
  (a11:PySem.W.nsIn K mainGlobals "grown" = some (some (.ref f11))) (l11:K.lookup f11=some ⟨ZV,Zv,.func (PySem.W.fnOf "grown" "grown" (aP ka) (aJ ka) (ag ka) .none aAo aA5 Zb aBv Wk aBj),YB⟩) (c11:PySem.W.codeIn K Wk "grown" = true) (k11:PySem.W.keepIn K (.ref f11)=true)
  (a12:PySem.W.nsIn K mainGlobals "sounded" = some (some (.ref f12))) (l12:K.lookup f12=some ⟨ZR,Zu,.func (PySem.W.fnOf "sounded" "sounded" (aP bD) (aJ bD) (ag bD) .none aAn aA4 Za aBu (.ref cC_sounded) aBi),Yz⟩) (c12:PySem.W.codeIn K (.ref cC_sounded) "sounded" = true) (k12:PySem.W.keepIn K (.ref f12)=true)
  (a13:PySem.W.nsIn K mainGlobals "_law_hand" = some (some (.ref f13))) (l13:K.lookup f13=some ⟨ZQ,Zt,.func (PySem.W.fnOf "_law_hand" "_law_hand" (aP eB) (aJ eB) (ag eB) .none aAm aA3 Y9 aBt Wj aBh),Yy⟩) (c13:PySem.W.codeIn K Wj "_law_hand" = true) (k13:PySem.W.keepIn K (.ref f13)=true)
  (a14:PySem.W.nsIn K mainGlobals "_law_next" = some (some (.ref f14))) (l14:K.lookup f14=some ⟨ZP,Zr,.func (PySem.W.fnOf "_law_next" "_law_next" (aP er) (aJ er) (ag er) .none aAl aA2 Y8 aBs Wi aBg),Yx⟩) (c14:PySem.W.codeIn K Wi "_law_next" = true) (k14:PySem.W.keepIn K (.ref f14)=true)
  (a15:PySem.W.nsIn K mainGlobals "_law_take" = some (some (.ref f15))) (l15:K.lookup f15=some ⟨ZM,Zq,.func (PySem.W.fnOf "_law_take" "_law_take" (aP dY) (aJ dY) (ag dY) .none aAk aA1 Y7 aBr Wh aBf),Yw⟩) (c15:PySem.W.codeIn K Wh "_law_take" = true) (k15:PySem.W.keepIn K (.ref f15)=true)
  (a16:PySem.W.nsIn K mainGlobals "_law_draw" = some (some (.ref f16))) (l16:K.lookup f16=some ⟨ZL,Zo,.func (PySem.W.fnOf "_law_draw" "_law_draw" (aP eC) (aJ eC) (ag eC) .none aAj aA0 Y6 aBq Wg aBe),Yv⟩) (c16:PySem.W.codeIn K Wg "_law_draw" = true) (k16:PySem.W.keepIn K (.ref f16)=true)
  (a17:PySem.W.nsIn K mainGlobals "_law_is_within" = some (some (.ref f17))) (l17:K.lookup f17=some ⟨ZK,Zn,.func (PySem.W.fnOf "_law_is_within" "_law_is_within" (aP cv) (aJ cv) (ag cv) .none aAi aAZ Y5 aBp Wf aBd),Yu⟩) (c17:PySem.W.codeIn K Wf "_law_is_within" = true) (k17:PySem.W.keepIn K (.ref f17)=true)
  (a18:PySem.W.nsIn K mainGlobals "_law_members" = some (some (.ref f18))) (l18:K.lookup f18=some ⟨ZJ,Zm,.func (PySem.W.fnOf "_law_members" "_law_members" (aP cR) (aJ cR) (ag cR) .none aAh aAY Y4 aBo Wd aBb),Yt⟩) (c18:PySem.W.codeIn K Wd "_law_members" = true) (k18:PySem.W.keepIn K (.ref f18)=true)
  (a19:PySem.W.nsIn K mainGlobals "_law_some" = some (some (.ref f19))) (l19:K.lookup f19=some ⟨ZF,Zk,.func (PySem.W.fnOf "_law_some" "_law_some" (aP dZ) (aJ dZ) (ag dZ) .none aAg aAX Y3 aBn Wc aBa),Ys⟩) (c19:PySem.W.codeIn K Wc "_law_some" = true) (k19:PySem.W.keepIn K (.ref f19)=true)
  (a20:PySem.W.nsIn K mainGlobals "_law_model" = some (some (.ref f20))) (l20:K.lookup f20=some ⟨ZD,Zj,.func (PySem.W.fnOf "_law_model" "_law_model" (aP dG) (aJ dG) (ag dG) .none aAf aAW Y2 aBm Wb aA9),Yr⟩) (c20:PySem.W.codeIn K Wb "_law_model" = true) (k20:PySem.W.keepIn K (.ref f20)=true)
  (a21:PySem.W.nsIn K mainGlobals "_law_tells" = some (some (.ref f21))) (l21:K.lookup f21=some ⟨Zz,Zi,.func (PySem.W.fnOf "_law_tells" "_law_tells" (aP dE) (aJ dE) (ag dE) .none aAe aAV Y1 aBl Wa aA8),Yq⟩) (c21:PySem.W.codeIn K Wa "_law_tells" = true) (k21:PySem.W.keepIn K (.ref f21)=true)
  (a22:PySem.W.nsIn K mainGlobals "law" = some (some (.ref f22))) (l22:K.lookup f22=some ⟨Zy,Zh,.func (PySem.W.fnOf "law" "law" (aP jy) (aJ jy) (ag jy) .none UG V7 Ug Wt (.ref cC_law) V8),Yp⟩) (c22:PySem.W.codeIn K (.ref cC_law) "law" = true) (k22:PySem.W.keepIn K (.ref f22)=true)
  (z_abs:PySem.W.nsIn K mainGlobals "abs" = some none)
  (z_all:PySem.W.nsIn K mainGlobals "all" = some none)
  (z_any:PySem.W.nsIn K mainGlobals "any" = some none)
  (z_isinstance:PySem.W.nsIn K mainGlobals "isinstance" = some none)
  (z_len:PySem.W.nsIn K mainGlobals "len" = some none)
  (z_list:PySem.W.nsIn K mainGlobals "list" = some none)
  (z_range:PySem.W.nsIn K mainGlobals "range" = some none)
  (z_reversed:PySem.W.nsIn K mainGlobals "reversed" = some none)
  (z_set:PySem.W.nsIn K mainGlobals "set" = some none)
  (z_sorted:PySem.W.nsIn K mainGlobals "sorted" = some none)
  (z_sum:PySem.W.nsIn K mainGlobals "sum" = some none)
  (z_tuple:PySem.W.nsIn K mainGlobals "tuple" = some none)
  (cx7:PySem.W.specialIn K (.builtin "object.__class__") "__get__" = some (some (.builtin "getset_descriptor.__get__"))) (cx8:PySem.W.takesIn K (.builtin "object.__class__")=some true)
  {aI aS:Addr}
  {aZ:Addr} {wJ wQ:Option Addr} {wF:Array (Option Value)} {wK wM wN wI oM wO:Value}
  (am_TruceError:PySem.W.nsIn K mainGlobals "TruceError" = some (some (.ref aI))) (x1_TruceError:pM K aI=true) (x2_TruceError:PySem.W.hasDictIn K aI=true) (x3_TruceError:PySem.W.findIn K (.ref aI) "__setattr__" = some (some (.builtin "object.__setattr__"))) (x4_TruceError:PySem.W.findIn K (.ref aI) "__getattribute__" = some (some (.builtin "BaseException.__getattribute__"))) (x5_TruceError:PySem.W.findIn K (.ref aI) "__getattr__" = some none) (x6_TruceError:PySem.W.findIn K (.ref aI) "__class__" = some (some (.builtin "object.__class__"))) (x9_TruceError:PySem.W.mroIn K aI (.type "object")=some true)
  (am_NoPeace:PySem.W.nsIn K mainGlobals "NoPeace" = some (some (.ref aS))) (x1_NoPeace:pM K aS=true) (x2_NoPeace:PySem.W.hasDictIn K aS=true) (x3_NoPeace:PySem.W.findIn K (.ref aS) "__setattr__" = some (some (.builtin "object.__setattr__"))) (x4_NoPeace:PySem.W.findIn K (.ref aS) "__getattribute__" = some (some (.builtin "BaseException.__getattribute__"))) (x5_NoPeace:PySem.W.findIn K (.ref aS) "__getattr__" = some none) (x6_NoPeace:PySem.W.findIn K (.ref aS) "__class__" = some (some (.builtin "object.__class__"))) (x9_NoPeace:PySem.W.mroIn K aS (.type "object")=some true)
  (kc_TruceError:PySem.W.keepIn K (.ref aI)=true)
  (ii_TruceError:PySem.W.findIn K (.ref aI) "__init__" = some (some (.builtin "ValueError.__init__")))
  (rd_TruceError:PySem.W.readsIn K aI (.type "type")=true)
  (fc_TruceError:PySem.W.findCls K (.ref aI) (.type "type") "__init__" = some (.val (.builtin "ValueError.__init__")))
  (sg_TruceError:PySem.W.specialIn K (.ref aI) "__getattribute__" = some (some (.builtin "type.__getattribute__")))
  (kc_NoPeace:PySem.W.keepIn K (.ref aS)=true)
  (il_NoPeace:K.lookup aZ=some ⟨wK,wJ,.func (PySem.W.fnOf "__init__" "NoPeace.__init__" (aP bS) (aJ bS) (ag bS) .none wM wN wI wQ oM wO),wF⟩) (ic_NoPeace:PySem.W.codeIn K oM "NoPeace.__init__" = true) (ik_NoPeace:PySem.W.keepIn K (.ref aZ)=true)
  (ii_NoPeace:PySem.W.findIn K (.ref aS) "__init__" = some (some (.ref aZ)))
  (if_NoPeace:PySem.W.typeIn K (.ref aZ)=some (.type "function"))
  (tk_NoPeace:PySem.W.takerIn K aS "part" = some none)
  (nf_NoPeace:PySem.W.findIn K (.ref aS) "part" = some none)
  {ay:Addr} {bj:Addr} {bH:Addr} {bI:Addr}
  (pm_Sounding:PySem.W.nsIn K mainGlobals "Sounding" = some (some (.ref ay)))
  (p1_Sounding:PySem.W.plainGet K ay Str.empty=true)
  (p2_Sounding:PySem.W.hasDictIn K ay=true)
  (p3_Sounding:PySem.W.plainOver K ay=true)
  (p4_Sounding:PySem.W.findIn K (.ref ay) "__setattr__" = some (some (.builtin "object.__setattr__")))
  (pn_Sounding_ask:PySem.W.findIn K (.ref ay) "ask" = some none)
  (pn_Sounding_askings:PySem.W.findIn K (.ref ay) "askings" = some none)
  (pn_Sounding_known:PySem.W.findIn K (.ref ay) "known" = some none)
  (pn_Sounding_unknown:PySem.W.findIn K (.ref ay) "unknown" = some none)
  (q1_Sounding:PySem.W.makesIn K ay=true)
  (q2_Sounding:PySem.W.findIn K (.ref ay) "__init__" = some (some (.ref bj)))
  (q3_Sounding:PySem.W.isFn K (.ref bj)=true)
  (q4_Sounding:PySem.W.keepIn K (.ref ay)=true)
  {jj jo:Option Addr} {jh:Array (Option Value)} {jk jl jm ji eR jn:Value}
  (pl_Sounding___init__:K.lookup bj=some ⟨jk,jj,.func (PySem.W.fnOf "__init__" "Sounding.__init__" (aP bN) (aJ bN) (ag bN) .none jl jm ji jo eR jn),jh⟩)
  (pc_Sounding___init__:PySem.W.codeIn K eR "Sounding.__init__" = true)
  (pk_Sounding___init__:PySem.W.keepIn K (.ref bj)=true)
  (r1_Sounding_tells:PySem.W.findIn K (.ref ay) "tells" = some (some (.ref bH)))
  (r2_Sounding_tells:PySem.W.isFn K (.ref bH)=true)
  {lj lI:Option Addr} {kY:Array (Option Value)} {lu lA lD lg fW lG:Value}
  (pl_Sounding_tells:K.lookup bH=some ⟨lu,lj,.func (PySem.W.fnOf "tells" "Sounding.tells" (aP cw) (aJ cw) (ag cw) .none lA lD lg lI fW lG),kY⟩)
  (pc_Sounding_tells:PySem.W.codeIn K fW "Sounding.tells" = true)
  (pk_Sounding_tells:PySem.W.keepIn K (.ref bH)=true)
  (r1_Sounding_learn:PySem.W.findIn K (.ref ay) "learn" = some (some (.ref bI)))
  (r2_Sounding_learn:PySem.W.isFn K (.ref bI)=true)
  {lq lJ:Option Addr} {kZ:Array (Option Value)} {lz lB lE lh fX lH:Value}
  (pl_Sounding_learn:K.lookup bI=some ⟨lz,lq,.func (PySem.W.fnOf "learn" "Sounding.learn" (aP cx) (aJ cx) (ag cx) .none lB lE lh lJ fX lH),kZ⟩)
  (pc_Sounding_learn:PySem.W.codeIn K fX "Sounding.learn" = true)
  (pk_Sounding_learn:PySem.W.keepIn K (.ref bI)=true)
  : ∃fd:FuncData,(∀(s:Shared) (v:Value),BindsTo s fd ⟨[v],[]⟩ [("_law_script",v)])/\∀base:Heap,K.In base->base.Ns mainGlobals mg->BMain mg base->bO l.prog w K mg base eL 20 fa fd ["_law_script"] (zE K pT_law pT_sounded):=by
 have e:=hfa.symm.trans (PySem.W.mg_of X G a22)
 cases e
 have F0:=bT (st:=bG) l0 c0 k0
 have b0:=F0.binds (ps:=["tuples"]) fun _ _ _ _ _ _=>Hr fun _=>rfl
 have F1:=bT (st:=e8) l1 c1 k1
 have b1:=F1.binds (ps:=["one"]) fun _ _ _ _ _ _=>Hr fun _=>rfl
 have F2:=bT (st:=ik) l2 c2 k2
 have b2:=F2.binds (ps:=["numbers"]) fun _ _ _ _ _ _=>Hr fun _=>rfl
 have F3:=bT (st:=fT) l3 c3 k3
 have b3:=F3.binds (ps:=["one","other"]) fun _ _ _ _ _ _=>of2 fun _ _=>rfl
 have F4:=bT (st:=fc) l4 c4 k4
 have b4:=F4.binds (ps:=["family"]) fun _ _ _ _ _ _=>Hr fun _=>rfl
 have F5:=bT (st:=e9) l5 c5 k5
 have b5:=F5.binds (ps:=["family"]) fun _ _ _ _ _ _=>Hr fun _=>rfl
 have F6:=bT (st:=df) l6 c6 k6
 have b6:=F6.binds (ps:=["family"]) fun _ _ _ _ _ _=>Hr fun _=>rfl
 have F7:=bT (st:=cQ) l7 c7 k7
 have b7:=F7.binds (ps:=["part","family"]) fun _ _ _ _ _ _=>of2 fun _ _=>rfl
 have F8:=bT (st:=cu) l8 c8 k8
 have b8:=F8.binds (ps:=["part","family"]) fun _ _ _ _ _ _=>of2 fun _ _=>rfl
 have F9:=bT (st:=fS) l9 c9 k9
 have b9:=F9.binds (ps:=["whole","part"]) fun _ _ _ _ _ _=>of2 fun _ _=>rfl
 have F10:=bT (st:=eZ) l10 c10 k10
 have b10:=F10.binds (ps:=["whole"]) fun _ _ _ _ _ _=>Hr fun _=>rfl
 have F11:=bT (st:=ka) l11 c11 k11
 have b11:=F11.binds (ps:=["whole","ask","part"]) fun _ _ _ _ _ _=>Zg fun _ _ _=>rfl
 have F12:=bT (st:=bD) l12 c12 k12
 have b12:=F12.binds (ps:=["whole","ask"]) fun _ _ _ _ _ _=>of2 fun _ _=>rfl
 have F13:=bT (st:=eB) l13 c13 k13
 have b13:=F13.binds (ps:=["_law_script"]) fun _ _ _ _ _ _=>Hr fun _=>rfl
 have F14:=bT (st:=er) l14 c14 k14
 have b14:=F14.binds (ps:=["_law_hand_here"]) fun _ _ _ _ _ _=>Hr fun _=>rfl
 have F15:=bT (st:=dY) l15 c15 k15
 have b15:=F15.binds (ps:=["_law_hand_here"]) fun _ _ _ _ _ _=>Hr fun _=>rfl
 have F16:=bT (st:=eC) l16 c16 k16
 have b16:=F16.binds (ps:=["_law_hand_here","_law_many"]) fun _ _ _ _ _ _=>of2 fun _ _=>rfl
 have F17:=bT (st:=cv) l17 c17 k17
 have b17:=F17.binds (ps:=["_law_one","_law_other"]) fun _ _ _ _ _ _=>of2 fun _ _=>rfl
 have F18:=bT (st:=cR) l18 c18 k18
 have b18:=F18.binds (ps:=["_law_hand_here","_law_most"]) fun _ _ _ _ _ _=>of2 fun _ _=>rfl
 have F19:=bT (st:=dZ) l19 c19 k19
 have b19:=F19.binds (ps:=["_law_hand_here","_law_whole"]) fun _ _ _ _ _ _=>of2 fun _ _=>rfl
 have F20:=bT (st:=dG) l20 c20 k20
 have b20:=F20.binds (ps:=["_law_hand_here","_law_whole"]) fun _ _ _ _ _ _=>of2 fun _ _=>rfl
 have F21:=bT (st:=dE) l21 c21 k21
 have b21:=F21.binds (ps:=["_law_model_here","_law_part"]) fun _ _ _ _ _ _=>of2 fun _ _=>rfl
 have F22:=bT (st:=jy) l22 c22 k22
 have b22:=F22.binds (ps:=["_law_script"]) fun _ _ _ _ _ _=>Hr fun _=>rfl
 have qG:=bT (st:=bS) il_NoPeace ic_NoPeace ik_NoPeace
 have zj:=qG.binds (ps:=cg) fun _ _ _ _ _ _=>of2 fun _ _=>rfl
 have fK:=bT (st:=bN) pl_Sounding___init__ pc_Sounding___init__ pk_Sounding___init__
 have j3:=fK.binds (ps:=["self","ask","parts"]) fun _ _ _ _ _ _=>Zg fun _ _ _=>rfl
 have gU:=bT (st:=cw) pl_Sounding_tells pc_Sounding_tells pk_Sounding_tells
 have ny:=gU.binds (ps:=["self","part"]) fun _ _ _ _ _ _=>of2 fun _ _=>rfl
 have gW:=bT (st:=cx) pl_Sounding_learn pc_Sounding_learn pk_Sounding_learn
 have nA:=gW.binds (ps:=["self","part","peaceful"]) fun _ _ _ _ _ _=>Zg fun _ _ _=>rfl
 have T:Txt K mg ⟨_,_,_,_,_,_,_,_,_,_,_,_,_,_,_,_,_,_,_,_,_,_,_,_,_,_,_,_,_,_,_,_,_,_,_,_,_,_,_,_,_,_,_,_,_,_,_,_,_,_,_,_,_,_,_,_,_⟩:=⟨F0,b0,PySem.W.mg_of X G a0,F1,b1,PySem.W.mg_of X G a1,F2,b2,PySem.W.mg_of X G a2,F3,b3,PySem.W.mg_of X G a3,F4,b4,PySem.W.mg_of X G a4,F5,b5,PySem.W.mg_of X G a5,F6,b6,PySem.W.mg_of X G a6,F7,b7,PySem.W.mg_of X G a7,F8,b8,PySem.W.mg_of X G a8,F9,b9,PySem.W.mg_of X G a9,F10,b10,PySem.W.mg_of X G a10,F11,b11,PySem.W.mg_of X G a11,F12,b12,PySem.W.mg_of X G a12,F13,b13,PySem.W.mg_of X G a13,F14,b14,PySem.W.mg_of X G a14,F15,b15,PySem.W.mg_of X G a15,F16,b16,PySem.W.mg_of X G a16,F17,b17,PySem.W.mg_of X G a17,F18,b18,PySem.W.mg_of X G a18,F19,b19,PySem.W.mg_of X G a19,F20,b20,PySem.W.mg_of X G a20,F21,b21,PySem.W.mg_of X G a21,F22,b22,PySem.W.mg_of X G a22,PySem.W.mg_none_of X G z_abs,PySem.W.mg_none_of X G z_all,PySem.W.mg_none_of X G z_any,PySem.W.mg_none_of X G z_isinstance,PySem.W.mg_none_of X G z_len,PySem.W.mg_none_of X G z_list,PySem.W.mg_none_of X G z_range,PySem.W.mg_none_of X G z_reversed,PySem.W.mg_none_of X G z_set,PySem.W.mg_none_of X G z_sorted,PySem.W.mg_none_of X G z_sum,PySem.W.mg_none_of X G z_tuple,PySem.W.mg_of X G am_TruceError,⟨x1_TruceError,x2_TruceError,x3_TruceError,x4_TruceError,x5_TruceError,x6_TruceError,cx7,cx8,x9_TruceError⟩,kc_TruceError,ii_TruceError,rd_TruceError,fc_TruceError,sg_TruceError,PySem.W.mg_of X G am_NoPeace,⟨x1_NoPeace,x2_NoPeace,x3_NoPeace,x4_NoPeace,x5_NoPeace,x6_NoPeace,cx7,cx8,x9_NoPeace⟩,kc_NoPeace,qG,zj,ii_NoPeace,if_NoPeace,tk_NoPeace,nf_NoPeace,PySem.W.mg_of X G pm_Sounding,⟨p1_Sounding,p2_Sounding,p3_Sounding,p4_Sounding⟩,pn_Sounding_ask,pn_Sounding_askings,pn_Sounding_known,pn_Sounding_unknown,⟨q1_Sounding,q2_Sounding,q3_Sounding,q4_Sounding⟩,fK,j3,gU,ny,⟨r1_Sounding_tells,r2_Sounding_tells,pk_Sounding_tells⟩,gW,nA,⟨r1_Sounding_learn,r2_Sounding_learn,pk_Sounding_learn⟩⟩
 exact ⟨PySem.W.fnOf "law" "law" (aP jy) (aJ jy) (ag jy) .none UG V7 Ug Wt (.ref cC_law) V8,fun s v=>.of_eq rfl,fun base kb _ hB=>Qz (P:=l.prog) (w:=w) (base:=base) T rfl (PySem.W.codeHd_of_K kb RQ) rfl (PySem.W.codeHd_of_K kb yO) hB⟩
theorem walk {l:PySem.W.OpenLaw} {q:Program} {loose:List Str} {XP:(Str->Option Value)->Heap->Prop} {YP:World->Heap->Prop} {d:DefRec} {K:Params->PySem.W.Frag} {cC_law pT_law cC_sounded pT_sounded:Addr} (hn:l.most=some 63) (hNE:pT_law≠pT_sounded) (Vp:d.params.defaults=[])
  (hY:∀(w:World) (h:Heap),YP w h->(K w.params).In h/\∀q∈[(cC_law,pT_law),(cC_sounded,pT_sounded)],h.get? q.2=some (PySem.W.tabObj #[]))
  (Xy:∀w:World,∀q∈[(cC_law,pT_law),(cC_sounded,pT_sounded)],PySem.W.codeHdIn (K w.params) q.1 q.2=true/\(K w.params).lookup q.2=none)
  (F:∀(w:World) (mg:Str->Option Value) (fa:Addr) (h:Heap),(K w.params).In h->h.Ns mainGlobals mg->mg d.name=some (.ref fa)->
   ∃fd:FuncData,(∀(s:Shared) (u:Value),BindsTo s fd ⟨[u],[]⟩ [("_law_script",u)])/\∀base:Heap,(K w.params).In base->base.Ns mainGlobals mg->BMain mg base->bO l.prog w (K w.params) mg base eL 20 fa fd ["_law_script"] (zE (K w.params) pT_law pT_sounded)) :
  PySem.W.WalkO q loose XP YP l.row.toRowW d [] (fun f vs=>PySem.call f vs):=
 L2.Fb (n:=63) (k:=20) (x:="_law_script") (ts:=[(cC_law,pT_law),(cC_sounded,pT_sounded)]) (CX:=fun _=>eL) (sp:=fun w=>zE (K w.params) pT_law pT_sounded) hn (by decide) Vp ⟨rfl,by decide,by decide⟩ hY Xy F (fun _ _ a ns hl hT hS=>⟨a,ns,rfl,hS,hl,hT (cC_law,pT_law) (by simp),hT (cC_sounded,pT_sounded) (by simp),hNE,fun _=>rfl⟩) fun _ _ _ _ _ z=>z
def view:Program:={ PySem.Challenge.pw_truceroll_k56_whole_few_askings with main:={ PySem.Challenge.pw_truceroll_k56_whole_few_askings.main with body:=[top 1,top 2,top 4,top 5,top 7,top 8,top 9,top 10,top 11,top 12,top 13,top 14,top 15,top 17,top 19,top 20,top 22,top 23,top 24,top 25,top 26,top 27,top 28,top 29,top 30,top 31] } }
end My
open PySem PySem.W PyProof.Rows
local macro_rules | `(tactic| o_head $H:term) => `(tactic| (
  refine holds_open (q := My.view) (loose := []) (Xt := fun s => xlAt My.view [] s && recOk (RowW.records (OpenRow.toRowW PySem.Challenge.rw_truceroll_k56_whole_few_askings.row)) s) (XP := XL My.view []) (Yf := Hook.obs $H) (Ya := Hook.val $H) (YP := Hook.says $H) (N := 40000) ?hl (Hook.of $H) (Hook.keeps $H) (fun s e => xl_of s (Bool.and_eq_true_iff.mp e).1) XL.keeps (by rfl) (by rfl) (by rfl) (fun s e => recFacts_of (Bool.and_eq_true_iff.mp e).2) (by rfl) (by first | assumption | decide +kernel) (by decide +kernel) ⟨rfl, rfl, rfl, rfl, rfl, by decide +kernel⟩ ?hw ?hc
  case hl => intro w; kernel_rfl))
theorem PySem.Challenge.cw_truceroll_k56_whole_few_askings_holds : PySem.Challenge.rw_truceroll_k56_whole_few_askings.Holds := by
 w_on;o_law;k_head;(case hw=>w_witness2)
 k_fill
 refine My.walk (l:=PySem.Challenge.rw_truceroll_k56_whole_few_askings) (cC_law:=227) (pT_law:=223) (cC_sounded:=130) (pT_sounded:=128) rfl (by decide) rfl (fun w h Y=>⟨PySem.W.km_in_of Y,fun q hq=>PySem.W.km_tabs_of Y _ (by simp only [List.mem_cons,List.not_mem_nil,or_false] at hq ⊢;rcases hq with rfl | rfl <;> simp)⟩) (fun w q hq=>by simp only [List.mem_cons,List.not_mem_nil,or_false] at hq;rcases hq with rfl | rfl <;> exact ⟨by kernel_rfl,by kernel_rfl⟩) ?F
 case F=>
  intro w mg fa h KX G Vd
  refine' My.all_mk KX G Vd (by kernel_rfl) (by kernel_rfl) ?a0 ?l0 ?c0 ?k0 ?a1 ?l1 ?c1 ?k1 ?a2 ?l2 ?c2 ?k2 ?a3 ?l3 ?c3 ?k3 ?a4 ?l4 ?c4 ?k4 ?a5 ?l5 ?c5 ?k5 ?a6 ?l6 ?c6 ?k6 ?a7 ?l7 ?c7 ?k7 ?a8 ?l8 ?c8 ?k8 ?a9 ?l9 ?c9 ?k9 ?a10 ?l10 ?c10 ?k10 ?a11 ?l11 ?c11 ?k11 ?a12 ?l12 ?c12 ?k12 ?a13 ?l13 ?c13 ?k13 ?a14 ?l14 ?c14 ?k14 ?a15 ?l15 ?c15 ?k15 ?a16 ?l16 ?c16 ?k16 ?a17 ?l17 ?c17 ?k17 ?a18 ?l18 ?c18 ?k18 ?a19 ?l19 ?c19 ?k19 ?a20 ?l20 ?c20 ?k20 ?a21 ?l21 ?c21 ?k21 ?a22 ?l22 ?c22 ?k22 ?z_abs ?z_all ?z_any ?z_isinstance ?z_len ?z_list ?z_range ?z_reversed ?z_set ?z_sorted ?z_sum ?z_tuple ?cx7 ?cx8 ?am_TruceError ?x1_TruceError ?x2_TruceError ?x3_TruceError ?x4_TruceError ?x5_TruceError ?x6_TruceError ?x9_TruceError ?am_NoPeace ?x1_NoPeace ?x2_NoPeace ?x3_NoPeace ?x4_NoPeace ?x5_NoPeace ?x6_NoPeace ?x9_NoPeace ?kc_TruceError ?ii_TruceError ?rd_TruceError ?fc_TruceError ?sg_TruceError ?kc_NoPeace ?il_NoPeace ?ic_NoPeace ?ik_NoPeace ?ii_NoPeace ?if_NoPeace ?tk_NoPeace ?nf_NoPeace ?pm_Sounding ?p1_Sounding ?p2_Sounding ?p3_Sounding ?p4_Sounding ?pn_Sounding_ask ?pn_Sounding_askings ?pn_Sounding_known ?pn_Sounding_unknown ?q1_Sounding ?q2_Sounding ?q3_Sounding ?q4_Sounding ?pl_Sounding___init__ ?pc_Sounding___init__ ?pk_Sounding___init__ ?r1_Sounding_tells ?r2_Sounding_tells ?pl_Sounding_tells ?pc_Sounding_tells ?pk_Sounding_tells ?r1_Sounding_learn ?r2_Sounding_learn ?pl_Sounding_learn ?pc_Sounding_learn ?pk_Sounding_learn
  (case a0=>k_is)
  (case l0=>k_is)
  (case c0=>k_is)
  (case k0=>k_is)
  (case a1=>k_is)
  (case l1=>k_is)
  (case c1=>k_is)
  (case k1=>k_is)
  (case a2=>k_is)
  (case l2=>k_is)
  (case c2=>k_is)
  (case k2=>k_is)
  (case a3=>k_is)
  (case l3=>k_is)
  (case c3=>k_is)
  (case k3=>k_is)
  (case a4=>k_is)
  (case l4=>k_is)
  (case c4=>k_is)
  (case k4=>k_is)
  (case a5=>k_is)
  (case l5=>k_is)
  (case c5=>k_is)
  (case k5=>k_is)
  (case a6=>k_is)
  (case l6=>k_is)
  (case c6=>k_is)
  (case k6=>k_is)
  (case a7=>k_is)
  (case l7=>k_is)
  (case c7=>k_is)
  (case k7=>k_is)
  (case a8=>k_is)
  (case l8=>k_is)
  (case c8=>k_is)
  (case k8=>k_is)
  (case a9=>k_is)
  (case l9=>k_is)
  (case c9=>k_is)
  (case k9=>k_is)
  (case a10=>k_is)
  (case l10=>k_is)
  (case c10=>k_is)
  (case k10=>k_is)
  (case a11=>k_is)
  (case l11=>k_is)
  (case c11=>k_is)
  (case k11=>k_is)
  (case a12=>k_is)
  (case l12=>k_is)
  (case c12=>k_is)
  (case k12=>k_is)
  (case a13=>k_is)
  (case l13=>k_is)
  (case c13=>k_is)
  (case k13=>k_is)
  (case a14=>k_is)
  (case l14=>k_is)
  (case c14=>k_is)
  (case k14=>k_is)
  (case a15=>k_is)
  (case l15=>k_is)
  (case c15=>k_is)
  (case k15=>k_is)
  (case a16=>k_is)
  (case l16=>k_is)
  (case c16=>k_is)
  (case k16=>k_is)
  (case a17=>k_is)
  (case l17=>k_is)
  (case c17=>k_is)
  (case k17=>k_is)
  (case a18=>k_is)
  (case l18=>k_is)
  (case c18=>k_is)
  (case k18=>k_is)
  (case a19=>k_is)
  (case l19=>k_is)
  (case c19=>k_is)
  (case k19=>k_is)
  (case a20=>k_is)
  (case l20=>k_is)
  (case c20=>k_is)
  (case k20=>k_is)
  (case a21=>k_is)
  (case l21=>k_is)
  (case c21=>k_is)
  (case k21=>k_is)
  (case a22=>k_is)
  (case l22=>k_is)
  (case c22=>k_is)
  (case k22=>k_is)
  (case z_abs=>k_is)
  (case z_all=>k_is)
  (case z_any=>k_is)
  (case z_isinstance=>k_is)
  (case z_len=>k_is)
  (case z_list=>k_is)
  (case z_range=>k_is)
  (case z_reversed=>k_is)
  (case z_set=>k_is)
  (case z_sorted=>k_is)
  (case z_sum=>k_is)
  (case z_tuple=>k_is)
  (case cx7=>first | k_is | rfl)
  (case cx8=>first | k_is | rfl)
  (case am_TruceError=>first | k_is | rfl)
  (case x1_TruceError=>first | k_is | rfl)
  (case x2_TruceError=>first | k_is | rfl)
  (case x3_TruceError=>first | k_is | rfl)
  (case x4_TruceError=>first | k_is | rfl)
  (case x5_TruceError=>first | k_is | rfl)
  (case x6_TruceError=>first | k_is | rfl)
  (case x9_TruceError=>first | k_is | rfl)
  (case ii_TruceError=>first | k_is | rfl)
  (case am_NoPeace=>first | k_is | rfl)
  (case x1_NoPeace=>first | k_is | rfl)
  (case x2_NoPeace=>first | k_is | rfl)
  (case x3_NoPeace=>first | k_is | rfl)
  (case x4_NoPeace=>first | k_is | rfl)
  (case x5_NoPeace=>first | k_is | rfl)
  (case x6_NoPeace=>first | k_is | rfl)
  (case x9_NoPeace=>first | k_is | rfl)
  (case ii_NoPeace=>first | k_is | rfl)
  (case kc_TruceError=>first | k_is | rfl)
  (case rd_TruceError=>first | k_is | rfl)
  (case fc_TruceError=>first | k_is | rfl)
  (case sg_TruceError=>first | k_is | rfl)
  (case kc_NoPeace=>first | k_is | rfl)
  (case il_NoPeace=>first | k_is | rfl)
  (case ic_NoPeace=>first | k_is | rfl)
  (case ik_NoPeace=>first | k_is | rfl)
  (case if_NoPeace=>first | k_is | rfl)
  (case tk_NoPeace=>first | k_is | rfl)
  (case nf_NoPeace=>first | k_is | rfl)
  (case pm_Sounding=>first | k_is | rfl)
  (case p1_Sounding=>first | k_is | rfl)
  (case p2_Sounding=>first | k_is | rfl)
  (case p3_Sounding=>first | k_is | rfl)
  (case p4_Sounding=>first | k_is | rfl)
  (case pn_Sounding_ask=>first | k_is | rfl)
  (case pn_Sounding_askings=>first | k_is | rfl)
  (case pn_Sounding_known=>first | k_is | rfl)
  (case pn_Sounding_unknown=>first | k_is | rfl)
  (case q1_Sounding=>first | k_is | rfl)
  (case q2_Sounding=>first | k_is | rfl)
  (case q3_Sounding=>first | k_is | rfl)
  (case q4_Sounding=>first | k_is | rfl)
  (case pl_Sounding___init__=>first | k_is | rfl)
  (case pc_Sounding___init__=>first | k_is | rfl)
  (case pk_Sounding___init__=>first | k_is | rfl)
  (case r1_Sounding_tells=>first | k_is | rfl)
  (case r2_Sounding_tells=>first | k_is | rfl)
  (case pl_Sounding_tells=>first | k_is | rfl)
  (case pc_Sounding_tells=>first | k_is | rfl)
  (case pk_Sounding_tells=>first | k_is | rfl)
  (case r1_Sounding_learn=>first | k_is | rfl)
  (case r2_Sounding_learn=>first | k_is | rfl)
  (case pl_Sounding_learn=>first | k_is | rfl)
  (case pc_Sounding_learn=>first | k_is | rfl)
  (case pk_Sounding_learn=>first | k_is | rfl)
