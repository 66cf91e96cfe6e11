import PyProof.Rows.All
import Wide.All
import OpenK.AllK
import Wide.FinOn
import Lean
import PyProof.EqAt
import PyProof.EqKinds
import PyProof.TupleCall
import PySem.Challenge.RW_truceroll_k51_grown
set_option Elab.async false
set_option linter.all false
set_option maxRecDepth 100000
set_option maxHeartbeats 0
section
namespace L2
open PySem PySem.Spec PyProof.Rows
abbrev Key:=Sum Int Str
def keyIs:Key->Value->Bool
 | .inl k,v=>Value.isInt k v
 | .inr x,v=>Value.isStrOf x v
def keyH (w:World):Key->Int
 | .inl k=>hashInt k
 | .inr x=>hashStr w x
theorem keyIs_shape:∀{k:Key} {v:Value},keyIs k v=true->(∃i t,k=Sum.inl i/\v=Value.int i t)\/(∃x t,k=Sum.inr x/\v=Value.str x t)
 | .inl i,v,h=>by
  obtain ⟨t,e⟩:=Value.isInt_shape (k:=i) (v:=v) h
  exact .inl ⟨i,t,rfl,e⟩
 | .inr x,v,h=>by
  obtain ⟨t,e⟩:=Value.isStrOf_shape (x:=x) (v:=v) h
  exact .inr ⟨x,t,rfl,e⟩
theorem keyIs_int (i:Int) (t:Tok):keyIs (.inl i) (.int i t)=true:=by simp [keyIs,Value.isInt]
theorem keyIs_str (x:Str) (t:Tok):keyIs (.inr x) (.str x t)=true:=by simp [keyIs,Value.isStrOf]
theorem key_ll (a b:Int):decide ((Sum.inl a:Key)=Sum.inl b)=(a == b):=by
 by_cases e:a=b
 ·subst e;simp
 ·have h:¬(Sum.inl a:Key)=Sum.inl b:=fun q=>e (Sum.inl.inj q)
  rw [decide_eq_false h]
  exact (beq_eq_false_iff_ne.mpr e).symm
theorem key_rr (a b:Str):decide ((Sum.inr a:Key)=Sum.inr b)=decide (a=b):=by
 by_cases e:a=b
 ·subst e;simp
 ·have h:¬(Sum.inr a:Key)=Sum.inr b:=fun q=>e (Sum.inr.inj q)
  rw [decide_eq_false h,decide_eq_false e]
theorem key_lr (a:Int) (b:Str):decide ((Sum.inl a:Key)=Sum.inr b)=false:=decide_eq_false (fun q=>nomatch q)
theorem key_rl (a:Str) (b:Int):decide ((Sum.inr a:Key)=Sum.inl b)=false:=decide_eq_false (fun q=>nomatch q)
def mixKind (prog:Program) (w:World):PySem.KeyKind prog w Key where
 is:=keyIs
 hash:=keyH w
 inj:=fun v a b ha hb=>by
  rcases keyIs_shape ha with ⟨i,t,rfl,rfl⟩ | ⟨x,t,rfl,rfl⟩
  ·rcases keyIs_shape hb with ⟨j,u,rfl,e⟩ | ⟨y,u,rfl,e⟩
   ·injection e with e1 _;rw [e1]
   ·exact nomatch e
  ·rcases keyIs_shape hb with ⟨j,u,rfl,e⟩ | ⟨y,u,rfl,e⟩
   ·exact nomatch e
   ·injection e with e1 _;rw [e1]
 byValue:=fun k v h=>by
  rcases keyIs_shape h with ⟨i,t,rfl,rfl⟩ | ⟨x,t,rfl,rfl⟩ <;> rfl
 pyHash:=fun hv h=>by
  rcases keyIs_shape hv with ⟨i,t,rfl,rfl⟩ | ⟨x,t,rfl,rfl⟩
  ·exact wpAny_pyHash_int h
  ·exact wpAny_pyHash_str h
 eqBool:=fun hu hv h=>by
  rcases keyIs_shape hu with ⟨i,t,rfl,rfl⟩ | ⟨x,t,rfl,rfl⟩
  ·rcases keyIs_shape hv with ⟨j,u,rfl,rfl⟩ | ⟨y,u,rfl,rfl⟩
   ·rw [key_ll] at h;exact wpAny_eqBool_int h
   ·rw [key_lr] at h;exact SeqAt.EqAt.int_str i t y u _ _ _ _ h
  ·rcases keyIs_shape hv with ⟨j,u,rfl,rfl⟩ | ⟨y,u,rfl,rfl⟩
   ·rw [key_rl] at h;exact SeqAt.EqAt.str_int x t j u _ _ _ _ h
   ·rw [key_rr] at h;exact wpAny_eqBool_str h
 «strs»:=fun k x t v h=>by
  rcases keyIs_shape h with ⟨i,u,rfl,e⟩ | ⟨y,u,rfl,e⟩
  ·exact nomatch e
  ·injection e with e1 _
   subst e1
   cases v <;> rfl
theorem mixKind_int (prog:Program) (w:World) (i:Int) (t:Tok):(mixKind prog w).is (.inl i) (.int i t)=true:=keyIs_int i t
theorem mixKind_str (prog:Program) (w:World) (x:Str) (t:Tok):(mixKind prog w).is (.inr x) (.str x t)=true:=keyIs_str x t
end L2
namespace L2
open PySem PySem.Spec PyProof.Rows
inductive V where
 | non | bl (b:Bool) | int (i:Int) | str (x:Str) | byt (b:Array UInt8) | flt (b:UInt64) | ref (a:Addr) | ty (n:String)
 deriving DecidableEq
def RelV:V->Value->Prop
 | .non,u=>u=Value.none
 | .bl b,u=>u=Value.bool b
 | .int i,u=>∃t,u=Value.int i t
 | .str x,u=>∃t,u=Value.str x t
 | .byt b,u=>∃t,u=Value.bytes b t
 | .flt b,u=>∃t,u=Value.float b t
 | .ref a,u=>u=Value.ref a
 | .ty n,u=>u=Value.type n
abbrev Vals:List V->List Value->Prop:=Paired RelV
theorem Vals.length {xs:List V} {us:List Value} (r:Vals xs us):xs.length=us.length:=Paired.length r
theorem Vals.get:∀{xs:List V} {us:List Value} {i:Nat} {x:V},Vals xs us->xs[i]? = some x->∃u,us[i]? = some u/\RelV x u
 | _,_,_,_,.nil,e=>by simp at e
 | _,_,0,_,.cons r _,e=>by simp at e;subst e;exact ⟨_,rfl,r⟩
 | _,_,i+1,x,.cons _ t,e=>by
  obtain ⟨u,h1,h2⟩:=Vals.get (i:=i) (x:=x) t (by simpa using e)
  exact ⟨u,by simpa using h1,h2⟩
theorem Vals.set {x:V} {u:Value} (r:RelV x u):∀{xs:List V} {us:List Value} (i:Nat),Vals xs us->Vals (xs.set i x) (us.set i u)
 | _,_,_,.nil=>.nil
 | _,_,0,.cons _ t=>.cons r t
 | _,_,i+1,.cons q t=>.cons q (Vals.set r i t)
theorem Vals.append:∀{xs ys:List V} {us ws:List Value},Vals xs us->Vals ys ws->Vals (xs++ys) (us++ws)
 | _,_,_,_,.nil,s=>s
 | _,_,_,_,.cons r t,s=>.cons r (Vals.append t s)
theorem Vals.take:∀{xs:List V} {us:List Value} (n:Nat),Vals xs us->Vals (xs.take n) (us.take n)
 | _,_,0,_=>.nil
 | _,_,_+1,.nil=>.nil
 | _,_,n+1,.cons r t=>.cons r (Vals.take n t)
theorem Vals.drop:∀{xs:List V} {us:List Value} (n:Nat),Vals xs us->Vals (xs.drop n) (us.drop n)
 | _,_,0,r=>r
 | _,_,_+1,.nil=>.nil
 | _,_,n+1,.cons _ t=>Vals.drop n t
def RelO:Option V->Option Value->Prop
 | some v,some u=>RelV v u
 | none,none=>True
 | _,_=>False
def KV {κ:Type}:List (κ×V)->List (κ×Value)->Prop:=Paired fun (p:κ×V) (q:κ×Value)=>p.1=q.1/\RelV p.2 q.2
def kV:Key->V
 | .inl i=>.int i
 | .inr x=>.str x
inductive HO where
 | lst (xs:List V)
 | tup (xs:List V)
 | dK (kvs:List (Key×V)) | dT (kvs:List (List Key×V))
 | set (S:Int->Bool) (n:Nat)
 | ins (C dx:Addr) (fs:List (Str×V))
 | own (x:Addr)
 | xd (fs:List (Str×V))
 | met (f x:Addr)
 | rng (lo hi:Int)
 | frz (o:Obj) (u:HO)
 | tbl (ps:Array Value)
 | ext (φ:Heap->Prop)
abbrev Hp:=Addr->Option HO
def upd (H:Hp) (a:Addr) (o:HO):Hp:=fun b=>if b=a then some o else H b
theorem upd_same {H:Hp} {a:Addr} {o:HO}:upd H a o a=some o:=by unfold upd;rw [if_pos rfl]
theorem upd_ne {H:Hp} {a b:Addr} {o:HO} (h:b≠a):upd H a o b=H b:=by unfold upd;rw [if_neg h]
theorem upd_upd {H:Hp} {a:Addr} {o u:HO}:upd (upd H a o) a u=upd H a u:=by
 funext b;unfold upd;split <;> rfl
theorem ne_of {H:Hp} {a b:Addr} {o u:HO} (h:H a=some o) (h':H b=some u) (d:o≠u):a≠b:=by
 intro e;subst e;rw [h] at h';exact d (Option.some.inj h')
theorem ne_of_none {H:Hp} {a b:Addr} {o:HO} (h:H a=some o) (h':H b=none):a≠b:=by
 intro e;subst e;rw [h] at h';cases h'
section
variable (P:Program) (w:World)
def ObjOk (H:Hp) (h:Heap) (a:Addr):HO->Prop
 | .lst xs=>xs.length<=sizeLine/\∃(its:List Value) (n:Nat),Vals xs its/\h.get? a=some { cls:=.type "list",data:=.seq its.toArray n }
 | .tup xs=>xs.length<=sizeLine/\∃its:List Value,Vals xs its/\IsTup h a its.toArray
 | .dK kvs=>kvs.length<=sizeLine/\(a == sysModules)=false/\∃vs,KV kvs vs/\h.DictOf (mixKind P w) a vs
 | .dT kvs=>kvs.length<=sizeLine/\(a == sysModules)=false/\∃xs:List (List Key×Addr×Value),
   Paired (fun (p:List Key×V) (q:List Key×Addr×Value)=>p.1=q.1/\H q.2.1=some (.tup (p.1.map kV))/\RelV p.2 q.2.2) kvs xs/\
   ∃o es ep,h.get? a=some o/\o.ExactDict/\o.data=.dict es ep/\es.toList=xs.map (entryOfKey (tupleKind (mixKind P w)))/\(xs.map (·.1)).Nodup
 | .set S n=>h.SetOf (intKind P w) a S n
 | .ins C dx fs=>H dx=some (.own a)/\fs.length<=1000/\dx≠a/\h.get? a=some (PySem.W.instObj C dx)/\
   ∃mA,h.Ns1 dx mA/\(∀f,RelO (fs.lookup f) (mA f))/\PySem.Within mA (fs.map (·.1))
 | .own _=>∃o,h.get? a=some o
 | .xd fs=>∃mA,h.Ns1 a mA/\∀f,RelO (fs.lookup f) (mA f)
 | .rng lo hi=>∃t u v,h.get? a=some { cls:=.type "range",data:=.fields #[.int lo t,.int hi u,.int 1 v] }
 | .frz o u=>h.get? a=some o/\ObjOk H h a u
 | .tbl ps=>h.get? a=some { cls:=.none,data:=.fields ps }
 | .met f x=>h.get? a=some (PySem.W.methodObj (.ref f) (.ref x))
 | .ext φ=>φ h/\(∃o,h.get? a=some o)/\∀h1 h2:Heap,φ h1->(∀o,h1.get? a=some o->h2.get? a=some o)->φ h2
def HOk (H:Hp) (h:Heap):Prop:=∀a o,H a=some o->ObjOk P w H h a o
end
section
variable {P:Program} {w:World} {H H':Hp} {h h':Heap} {a:Addr} {o:HO}
theorem ObjOk.lt (x:ObjOk P w H h a o):a < h.objs.size:=by
 cases o with
 | lst xs=>obtain ⟨_,_,_,_,e⟩:=x;exact Heap.lt_size e
 | tup xs=>obtain ⟨_,_,_,p⟩:=x;exact p.lt
 | dK kvs=>obtain ⟨_,_,_,_,o,_,_,e,_⟩:=x;exact Heap.lt_size e
 | dT kvs=>obtain ⟨_,_,_,_,o,_,_,e,_⟩:=x;exact Heap.lt_size e
 | set S n=>obtain ⟨o,_,_,_,e,_⟩:=x;exact Heap.lt_size e
 | ins C dx fs=>obtain ⟨_,_,_,e,_⟩:=x;exact Heap.lt_size e
 | own y=>obtain ⟨_,e⟩:=x;exact Heap.lt_size e
 | xd fs=>obtain ⟨_,⟨_,_,_,e,_⟩,_⟩:=x;exact Heap.lt_size e
 | rng lo hi=>obtain ⟨_,_,_,e⟩:=x;exact Heap.lt_size e
 | frz ob u=>obtain ⟨e,_⟩:=x;exact Heap.lt_size e
 | tbl ps=>exact Heap.lt_size (show h.get? a=some _ from x)
 | met f y=>exact Heap.lt_size (show h.get? a=some _ from x)
 | ext φ=>obtain ⟨_,⟨_,e⟩,_⟩:=x;exact Heap.lt_size e
theorem Paired.mapP {α β:Type} {F G:α->β->Prop}:∀{l₁:List α} {l₂:List β},Paired F l₁ l₂->(∀a b,F a b->G a b)->Paired G l₁ l₂
 | _,_,.nil,_=>.nil
 | _,_,.cons r t,f=>.cons (f _ _ r) (Paired.mapP t f)
theorem ObjOk.stay (x:ObjOk P w H h a o) (k:∀b u,(b=a\/H b=some (.own a))->h.get? b=some u->h'.get? b=some u)
  (ho:∀b,H b=some (.own a)->H' b=some (.own a)) (ht:∀b xs,H b=some (.tup xs)->H' b=some (.tup xs)):ObjOk P w H' h' a o:=by
 induction o with
 | lst xs=>obtain ⟨z,its,n,r,e⟩:=x;exact ⟨z,its,n,r,k _ _ (.inl rfl) e⟩
 | tup xs=>obtain ⟨z,its,r,ob,e,c⟩:=x;exact ⟨z,its,r,ob,k _ _ (.inl rfl) e,c⟩
 | dK kvs=>obtain ⟨z,y,vs,r,ob,es,ep,e,c⟩:=x;exact ⟨z,y,vs,r,ob,es,ep,k _ _ (.inl rfl) e,c⟩
 | dT kvs=>
  obtain ⟨z,y,xs,r,ob,es,ep,e,c⟩:=x
  exact ⟨z,y,xs,Paired.mapP r fun p q z=>⟨z.1,ht _ _ z.2.1,z.2.2⟩,ob,es,ep,k _ _ (.inl rfl) e,c⟩
 | set S n=>obtain ⟨ob,es,ep,t,e,c⟩:=x;exact ⟨ob,es,ep,t,k _ _ (.inl rfl) e,c⟩
 | ins C dx fs=>
  obtain ⟨d,z,ne,e,mA,⟨od,es,ep,e2,c⟩,r⟩:=x
  exact ⟨ho _ d,z,ne,k _ _ (.inl rfl) e,mA,⟨od,es,ep,k _ _ (.inr d) e2,c⟩,r⟩
 | own y=>obtain ⟨ob,e⟩:=x;exact ⟨ob,k _ _ (.inl rfl) e⟩
 | xd fs=>obtain ⟨mA,⟨od,es,ep,e,c⟩,r⟩:=x;exact ⟨mA,⟨od,es,ep,k _ _ (.inl rfl) e,c⟩,r⟩
 | rng lo hi=>obtain ⟨t,u,v,e⟩:=x;exact ⟨t,u,v,k _ _ (.inl rfl) e⟩
 | frz ob u ih=>obtain ⟨e,q⟩:=x;exact ⟨k _ _ (.inl rfl) e,ih q⟩
 | tbl ps=>
  have e:h.get? a=some { cls:=.none,data:=.fields ps }:=x
  show h'.get? a=some { cls:=.none,data:=.fields ps }
  exact k a _ (.inl rfl) e
 | met f y=>
  have e:h.get? a=some (PySem.W.methodObj (.ref f) (.ref y)):=x
  show h'.get? a=some (PySem.W.methodObj (.ref f) (.ref y))
  exact k a _ (.inl rfl) e
 | ext φ=>obtain ⟨p,⟨o,e⟩,st⟩:=x;exact ⟨st _ _ p fun o q=>k _ _ (.inl rfl) q,⟨o,k _ _ (.inl rfl) e⟩,st⟩
theorem HOk.lt (x:HOk P w H h) (e:H a=some o):a < h.objs.size:=(x a o e).lt
theorem HOk.fresh (x:HOk P w H h) (e:h.objs.size<=a):H a=none:=by
 cases q:H a with
 | none=>rfl
 | some u=>exact absurd (Nat.lt_of_lt_of_le (x.lt q) e) (Nat.lt_irrefl _)
theorem HOk.kept (x:HOk P w H h) (k:∀b u,h.get? b=some u->h'.get? b=some u):HOk P w H h':=fun a o e=>
 (x a o e).stay (fun b u _ q=>k b u q) (fun _ q=>q) fun _ _ q=>q
theorem HOk.laid (x:HOk P w H h) (k:∀b u,h.get? b=some u->h'.get? b=some u) (hp:h.objs.size<=a) (new:ObjOk P w (upd H a o) h' a o):HOk P w (upd H a o) h':=fun b u e=>by
 have hn:=x.fresh hp
 by_cases hb:b=a
 ·subst hb;rw [upd_same] at e;cases e;exact new
 ·rw [upd_ne hb] at e
  exact (x b u e).stay (fun c v _ q=>k c v q) (fun c q=>by rw [upd_ne (ne_of_none q hn)];exact q) fun c xs q=>by rw [upd_ne (ne_of_none q hn)];exact q
end
def Rd (H:Hp) (a:Addr) (u:HO):Prop:=H a=some u\/∃o,H a=some (.frz o u)
theorem Rd.ok {P:Program} {w:World} {H:Hp} {h:Heap} {a:Addr} {u:HO} (r:Rd H a u) (x:HOk P w H h):ObjOk P w H h a u:=by
 rcases r with r | ⟨o,r⟩
 ·exact x a u r
 ·obtain ⟨_,q⟩:=x a _ r
  exact q
def Mut:Option HO->Prop
 | some (.lst _)=>True
 | some (.dK _)=>True
 | some (.dT _)=>True
 | some (.set _ _)=>True
 | some (.ins _ _ _)=>True
 | some (.ext _)=>True
 | _=>False
section
variable {P:Program} {w:World} {H:Hp} {h h':Heap} {x e:Addr} {o':HO}
theorem HOk.write (ok:HOk P w H h) (mu:Mut (H x)) (he:e=x\/H e=some (.own x)) (k:∀b u,b≠e->h.get? b=some u->h'.get? b=some u) (heo:∃u,h'.get? e=some u)
  (new:ObjOk P w (upd H x o') h' x o'):HOk P w (upd H x o') h':=fun b u q=>by
 have nown:∀c y,H c=some (.own y)->c≠x:=fun c y r z=>by subst z;rw [r] at mu;exact mu
 have ntup:∀c xs,H c=some (.tup xs)->c≠x:=fun c xs r z=>by subst z;rw [r] at mu;exact mu
 by_cases hb:b=x
 ·subst hb;rw [upd_same] at q;cases q;exact new
 ·rw [upd_ne hb] at q
  by_cases hbe:b=e
  ·have q':H b=some (.own x):=by
    rcases he with z | z
    ·exact absurd (hbe.trans z) hb
    ·rw [hbe];exact z
   rw [q] at q';cases q'
   obtain ⟨v,hv⟩:=heo
   exact ⟨v,by rw [hbe];exact hv⟩
  ·refine (ok b u q).stay (fun c v hc r=>k c v ?_ r) (fun c r=>by rw [upd_ne (nown c b r)];exact r) fun c xs r=>by rw [upd_ne (ntup c xs r)];exact r
   rcases hc with rfl | hc
   ·exact hbe
   ·rintro rfl
    rcases he with z | z
    ·exact nown c b hc z
    ·rw [hc] at z;cases z;exact hb rfl
end
structure Un (fs ex:List Addr) (H H':Hp) (h h':Heap):Prop where
 keep:∀b o,h.get? b=some o->H b=none->b∉fs->b∉ex->h'.get? b=some o
 slot:∀b o,h.get? b=some o->H b=none->b∈fs->b∉ex->∃sl,h'.get? b=some { o with slots:=sl }
 free:∀b o,h.get? b=some o->H b=none->b∉ex->H' b=none
 there:∀b o,h.get? b=some o->b∉ex->∃o',h'.get? b=some o'
 tups:∀b xs,H b=some (.tup xs)->H' b=some (.tup xs)
 frzs:∀b o u,H b=some (.frz o u)->H' b=some (.frz o u)
 tbls:∀b ps,H b=some (.tbl ps)->∃more,H' b=some (.tbl (ps++more))
section
variable {fs fs' ex ex':List Addr} {H H1 H2:Hp} {h h1 h2 h':Heap} {a x e:Addr} {o:HO}
theorem Un.any (u:Un fs ex H H1 h h1) {b:Addr} {ob:Obj} (q:h.get? b=some ob) (n:H b=none) (hx:b∉ex):∃sl,h1.get? b=some { ob with slots:=sl }:=by
 by_cases hb:b∈fs
 ·exact u.slot b ob q n hb hx
 ·exact ⟨ob.slots,u.keep b ob q n hb hx⟩
theorem Un.kept (k:∀b u,h.get? b=some u->h'.get? b=some u):Un fs ex H H h h':=
 ⟨fun b ob q _ _ _=>k b ob q,fun b ob q _ _ _=>⟨ob.slots,k b ob q⟩,fun _ _ _ n _=>n,fun b ob q _=>⟨ob,k b ob q⟩,fun _ _ q=>q,fun _ _ _ q=>q,fun _ ps q=>⟨#[],by rw [q];simp⟩⟩
theorem Un.refl:Un fs ex H H h h:=Un.kept fun _ _ q=>q
theorem Un.laid (k:∀b u,h.get? b=some u->h'.get? b=some u) (hp:h.objs.size<=a) (hn:H a=none):Un fs ex H (upd H a o) h h' where
 keep:=fun b u q _ _ _=>k b u q
 slot:=fun b u q _ _ _=>⟨u.slots,k b u q⟩
 free:=fun b u q n _=>by rw [upd_ne (Nat.ne_of_lt (Nat.lt_of_lt_of_le (Heap.lt_size q) hp))];exact n
 there:=fun b u q _=>⟨u,k b u q⟩
 tups:=fun b xs q=>by rw [upd_ne (ne_of_none q hn)];exact q
 frzs:=fun b u xs q=>by rw [upd_ne (ne_of_none q hn)];exact q
 tbls:=fun b ps q=>⟨#[],by rw [upd_ne (ne_of_none q hn),q];simp⟩
theorem Un.write (mu:Mut (H x)) (he:e=x\/H e=some (.own x)) (k:∀b u,b≠e->h.get? b=some u->h'.get? b=some u) (heo:∃u,h'.get? e=some u):Un fs ex H (upd H x o) h h':=by
 have hx:∀b,H b=none->b≠x:=fun b n z=>by subst z;rw [n] at mu;exact mu
 have hb:∀b,H b=none->b≠e:=fun b n z=>by
  subst z
  rcases he with r | r
  ·exact hx b n r
  ·rw [n] at r;cases r
 have hm:∀b u,H b=some u->¬Mut (some u)->b≠x:=fun b u q nm z=>by subst z;rw [q] at mu;exact nm mu
 refine ⟨fun b u q n _ _=>k b u (hb b n) q,fun b u q n _ _=>⟨u.slots,k b u (hb b n) q⟩,fun b u q n _=>by rw [upd_ne (hx b n)];exact n,fun b u q _=>?_,
  fun b xs q=>by rw [upd_ne (hm b _ q fun z=>z)];exact q,fun b u xs q=>by rw [upd_ne (hm b _ q fun z=>z)];exact q,fun b ps q=>⟨#[],by rw [upd_ne (hm b _ q fun z=>z),q];simp⟩⟩
 by_cases hbe:b=e
 ·subst hbe;exact heo
 ·exact ⟨u,k b u hbe q⟩
end
def trk (h:Heap) (H:Hp):List Addr:=(List.range h.objs.size).filter fun a=>(H a).isSome
def hidT (h:Heap) (H:Hp):Heap:=PySem.W.hideAll h (trk h H)
theorem hidT_size (h:Heap) (H:Hp):(hidT h H).objs.size=h.objs.size:=PySem.W.hideAll_size _ _
theorem hidT_get {h:Heap} {H:Hp} {b:Addr} {o:Obj} (e:h.get? b=some o) (n:H b=none):(hidT h H).get? b=some o:=
 PySem.W.hideAll_get _ e fun hm=>by
  have q:(H b).isSome=true:=(List.mem_filter.mp hm).2
  rw [n] at q;simp at q
theorem of_hidT {h:Heap} {H:Hp} {b:Addr} {o:Obj} (e:(hidT h H).get? b=some o):h.get? b=some o/\H b=none:=by
 have e':h.get? b=some o:=PySem.W.of_hideAll (trk h H) e
 refine ⟨e',?_⟩
 cases q:H b with
 | none=>rfl
 | some x=>
  have hm:b∈trk h H:=List.mem_filter.mpr ⟨List.mem_range.mpr (Heap.lt_size e'),by simp [q]⟩
  have z:(hidT h H).get? b=none:=PySem.W.hideAll_none (trk h H) hm
  rw [z] at e;cases e
def allNews (g h:Heap) (L:Addr):List (Addr×Obj):=(List.range h.objs.size).filterMap fun a=>if a=L\/(g.get? a).isSome=true then none else (h.get? a).map fun o=>(a,o)
def rest (g h:Heap) (L d:Addr):List (Addr×Obj):=(allNews g h L).filter fun p=>decide (p.1≠d)
end L2
namespace L2
open PySem PySem.Spec PyProof.Rows
structure Mod (K:PySem.W.Frag) (mg:Str->Option Value) (base:Heap):Prop where
 kin:K.In base
 glob:base.Ns mainGlobals mg
 blt:∃mb,base.Ns builtinsNs mb/\∀x:Str,x≠"__name__"->mb x=bootBuiltins x
 nolimit:base.NoLimit
structure Cx where
 prog:Program
 w:World
 K:PySem.W.Frag
 mg:Str->Option Value
 base:Heap
 A:Around
 N:List Str
 s₀:Shared
 H₀:Hp
 env:Env
 outer:List Env
 stack:List Env
 ex:List Addr
 fn:Str->Bool
 calm:Bool
 pn:List (Addr×Obj)
 xe:Value->Shared->Prop
def frs (l:List Env):List Addr:=l.filterMap (·.frame)
abbrev Cx.fs (X:Cx):List Addr:=frs X.outer
def Vis (sc:Scope) (x:Str):Prop:=sc.names.lookup x=some .local\/sc.names.lookup x=some .cell\/sc.names.lookup x=some .free
def Loc (sc:Scope) (x:Str):Prop:=sc.names.lookup x=some .local\/sc.names.lookup x=some .cell
def Look (env:Env) (h:Heap) (m:Str->Option Value) (x:Str) (u:Value):Prop:=
 (env.kindOf x=some .local/\m x=some u)\/((env.kindOf x=some .cell\/env.kindOf x=some .free)/\∃c,env.cells.lookup x=some c/\h.IsCell c (some u))
structure Cx.Ok (X:Cx):Prop where
 mod:Mod X.K X.mg X.base
 kind:X.env.scope.kind=.function
 glob:X.env.globals=mainGlobals
 blt:X.env.builtins=builtinsNs
 above:X.s₀.heap.objs.size<=X.env.locals
 inj:∀x y c,X.env.cells.lookup x=some c->X.env.cells.lookup y=some c->x=y
 has:∀x,(X.env.kindOf x=some .cell\/X.env.kindOf x=some .free)->∃c,X.env.cells.lookup x=some c
 cab:∀x c,X.fn x=true->X.env.cells.lookup x=some c->X.s₀.heap.objs.size<=c
 hd:X.calm=true->X.A.handled=none
 frames:X.A.frames=some X.stack
 stk:X.stack=X.outer\/(X.stack=X.env::X.outer/\X.env.frame=some X.env.locals)
 exf:∀b∈X.ex,b≠X.env.locals/\∀x c,X.env.cells.lookup x=some c->c≠b
 bs:∀b o,X.base.get? b=some o->X.s₀.heap.get? b=some o/\X.H₀ b=none
 bsz:X.base.objs.size<=X.s₀.heap.objs.size
 noex:∀b o,X.base.get? b=some o->b∉X.ex
 exfs:∀b∈X.ex,b∉X.fs
 funs:X.s₀.heap.FunFrames X.base X.outer
 frf:∀b∈X.fs,X.H₀ b=none
structure Inv (X:Cx) (pins:List (Addr×Obj)) (σ:List (Option V)) (H:Hp) (s:Shared):Prop where
 ok:X.Ok
 os:s.os=X.s₀.os
 bare:AllBare s.gens
 base:Un X.fs X.ex X.H₀ H X.s₀.heap s.heap
 loc:∃m,s.heap.Ns X.env.locals m/\∀(i:Nat) (x:Str) (v:V),X.N[i]? = some x->σ[i]? = some (some v)->Vis X.env.scope x->∃u,RelV v u/\Look X.env s.heap m x u
 cell:∀x c,X.env.cells.lookup x=some c->∃v,s.heap.IsCell c v
 free:H X.env.locals=none
 freeC:∀x c,X.env.cells.lookup x=some c->H c=none
 pin:∀p∈X.pn++pins,s.heap.get? p.1=some p.2/\H p.1=none/\p.1≠X.env.locals/\p.1∉X.fs/\∀v,p.2.data≠.cell v
 hok:HOk X.prog X.w H s.heap
 len:σ.length=X.N.length
section
variable {X:Cx} {pins:List (Addr×Obj)} {σ:List (Option V)} {H H':Hp} {s:Shared} {h':Heap}
theorem Cx.Ok.nofr (ok:X.Ok) {b:Addr} {o:Obj} (e:X.base.get? b=some o):b∉X.fs:=fun hb=>by
 have:=(ok.funs.mem hb).1
 rw [e] at this;cases this
theorem Inv.bs (I:Inv X pins σ H s):∀b o,X.base.get? b=some o->s.heap.get? b=some o/\H b=none:=fun b o e=>
 ⟨I.base.keep b o (I.ok.bs b o e).1 (I.ok.bs b o e).2 (I.ok.nofr e) (I.ok.noex b o e),I.base.free b o (I.ok.bs b o e).1 (I.ok.bs b o e).2 (I.ok.noex b o e)⟩
theorem Inv.bk (I:Inv X pins σ H s):∀b o,X.base.get? b=some o->s.heap.get? b=some o:=fun b o e=>(I.bs b o e).1
theorem Inv.mod (I:Inv X pins σ H s):Mod X.K X.mg X.base:=I.ok.mod
theorem Inv.kIn (I:Inv X pins σ H s):X.K.In s.heap:=I.ok.mod.kin.keeps I.bk
theorem Inv.lt (I:Inv X pins σ H s):X.env.locals < s.heap.objs.size:=let ⟨_,hn,_⟩:=I.loc;hn.lt
theorem Inv.sz (I:Inv X pins σ H s):X.s₀.heap.objs.size<=s.heap.objs.size:=Nat.le_trans I.ok.above (Nat.le_of_lt I.lt)
theorem Inv.nofs (I:Inv X pins σ H s) {a:Addr} (h:s.heap.objs.size<=a):a∉X.fs:=fun hb=>by
 obtain ⟨_,o,ho,_⟩:=I.ok.funs.mem hb
 exact absurd (Nat.lt_of_lt_of_le (Heap.lt_size ho) (Nat.le_trans I.sz h)) (Nat.lt_irrefl _)
theorem Inv.cne (I:Inv X pins σ H s):∀x c,X.env.cells.lookup x=some c->c≠X.env.locals:=fun x c e z=>by
 obtain ⟨v,o,ho,hd⟩:=I.cell x c e
 obtain ⟨m,⟨o',es,ep,ho',hd',_⟩,_⟩:=I.loc
 rw [z,ho'] at ho;cases ho;rw [hd'] at hd;cases hd
theorem Inv.funs (I:Inv X pins σ H s):s.heap.FunFrames X.base X.outer:=by
 have all:∀(l:List Env),(∀b∈frs l,b∈X.fs)->X.s₀.heap.FunFrames X.base l->s.heap.FunFrames X.base l:=by
  intro l
  induction l with
  | nil=>intro _ _;trivial
  | cons env r ih=>
   intro hs hl
   obtain ⟨hk,⟨L,o,hf,hn,ho,hd⟩,hr⟩:=hl
   have hL:L∈X.fs:=hs L (by unfold frs;rw [List.filterMap_cons,hf];exact List.mem_cons_self)
   obtain ⟨sl,e⟩:=I.base.slot L o ho (I.ok.frf L hL) hL fun z=>I.ok.exfs L z hL
   exact ⟨hk,⟨L,_,hf,hn,e,hd⟩,ih (fun b hb=>hs b (by unfold frs;rw [List.filterMap_cons,hf];exact List.mem_cons_of_mem _ hb)) hr⟩
 exact all X.outer (fun _ hb=>hb) I.ok.funs
theorem Inv.stack (I:Inv X pins σ H s):s.heap.FunFrames X.base X.stack:=by
 rcases I.ok.stk with e | ⟨e,hf⟩
 ·rw [e];exact I.funs
 ·rw [e]
  obtain ⟨m,hn,_⟩:=I.loc
  refine .cons (by rw [I.ok.kind];decide) hf hn ?_ I.funs
  exact Heap.get?_none_of_le (Nat.le_trans I.ok.bsz I.ok.above)
theorem Inv.stkSub (I:Inv X pins σ H s):∀b∈frs X.stack,b∈X.env.locals::X.fs:=fun b hb=>by
 rcases I.ok.stk with e | ⟨e,hf⟩
 ·rw [e] at hb;exact List.mem_cons_of_mem _ hb
 ·rw [e] at hb
  unfold frs at hb
  rw [List.filterMap_cons,hf] at hb
  exact hb
theorem Inv.stkFree (I:Inv X pins σ H s):∀b∈frs X.stack,H b=none:=fun b hb=>by
 rcases List.mem_cons.mp (I.stkSub b hb) with e | hb
 ·rw [e];exact I.free
 ·obtain ⟨_,o,ho,_⟩:=I.ok.funs.mem hb
  exact I.base.free b o ho (I.ok.frf b hb) fun z=>I.ok.exfs b z hb
theorem Inv.step {g':Array GenState} {t':Nat} {d':Drawn} {ch:List Addr} (I:Inv X pins σ H s)
  (hch:∀b∈ch,(b∈X.ex\/X.s₀.heap.objs.size<=b)/\b≠X.env.locals/\(∀x c,X.env.cells.lookup x=some c->c≠b)/\∀p∈X.pn++pins,p.1≠b)
  (keep:∀b o,b≠X.env.locals->b∉X.fs->b∉ch->s.heap.get? b=some o->H b=none->h'.get? b=some o)
  (slot:∀b o,b≠X.env.locals->b∈X.fs->b∉ch->s.heap.get? b=some o->H b=none->∃sl,h'.get? b=some { o with slots:=sl }) (free:∀b o,b∉ch->s.heap.get? b=some o->H b=none->H' b=none)
  (there:∀b o,b∉ch->s.heap.get? b=some o->∃o',h'.get? b=some o')
  (tups:∀b xs,H b=some (.tup xs)->H' b=some (.tup xs)) (frzs:∀b o u,H b=some (.frz o u)->H' b=some (.frz o u)) (tbls:∀b ps,H b=some (.tbl ps)->∃more,H' b=some (.tbl (ps++more)))
  (ns:∀m,s.heap.Ns X.env.locals m->h'.Ns X.env.locals m) (hok:HOk X.prog X.w H' h') (hg:AllBare g') :
  Inv X pins σ H' { s with heap:=h',gens:=g',drawn:=d',toks:=t' }:=by
 have neL:∀b o,X.s₀.heap.get? b=some o->b≠X.env.locals:=fun b o e=>Nat.ne_of_lt (Nat.lt_of_lt_of_le (Heap.lt_size e) I.ok.above)
 have neC:∀b o,X.s₀.heap.get? b=some o->b∉X.ex->b∉ch:=fun b o e hx hb=>by
  rcases (hch b hb).1 with z | z
  ·exact hx z
  ·exact absurd (Nat.lt_of_lt_of_le (Heap.lt_size e) z) (Nat.lt_irrefl _)
 have cellK:∀x c,X.env.cells.lookup x=some c->∀v,s.heap.IsCell c v->h'.IsCell c v:=fun x c e v ⟨o,ho,hd⟩=>by
  have nch:c∉ch:=fun z=>(hch c z).2.2.1 x c e rfl
  by_cases hc:c∈X.fs
  ·obtain ⟨sl,q⟩:=slot c o (I.cne x c e) hc nch ho (I.freeC x c e)
   exact ⟨_,q,hd⟩
  ·exact ⟨o,keep c o (I.cne x c e) hc nch ho (I.freeC x c e),hd⟩
 refine ⟨I.ok,I.os,hg,⟨fun b o e n hb hx=>?_,fun b o e n hb hx=>?_,fun b o e n hx=>?_,fun b o e hx=>?_,fun b xs e=>tups b xs (I.base.tups b xs e),fun b o xs e=>frzs b o xs (I.base.frzs b o xs e),fun b ps e=>?_⟩,?_,fun x c e=>?_,?_,fun x c e=>?_,fun p hp=>?_,hok,I.len⟩
 ·exact keep b o (neL b o e) hb (neC b o e hx) (I.base.keep b o e n hb hx) (I.base.free b o e n hx)
 ·obtain ⟨sl,e1⟩:=I.base.slot b o e n hb hx
  obtain ⟨sl',e2⟩:=slot b _ (neL b o e) hb (neC b o e hx) e1 (I.base.free b o e n hx)
  exact ⟨sl',e2⟩
 ·obtain ⟨o',e1⟩:=I.base.there b o e hx
  exact free b o' (neC b o e hx) e1 (I.base.free b o e n hx)
 ·obtain ⟨o',e1⟩:=I.base.there b o e hx
  exact there b o' (neC b o e hx) e1
 ·obtain ⟨m1,e1⟩:=I.base.tbls b ps e
  obtain ⟨m2,e2⟩:=tbls b _ e1
  exact ⟨m1++m2,by rw [e2,Array.append_assoc]⟩
 ·obtain ⟨m,hn,hl⟩:=I.loc
  refine ⟨m,ns m hn,fun i x v e1 e2 e3=>?_⟩
  obtain ⟨u,r,l⟩:=hl i x v e1 e2 e3
  refine ⟨u,r,?_⟩
  rcases l with l | ⟨k,c,e,z⟩
  ·exact .inl l
  ·exact .inr ⟨k,c,e,cellK x c e _ z⟩
 ·obtain ⟨v,z⟩:=I.cell x c e
  exact ⟨v,cellK x c e v z⟩
 ·obtain ⟨m,⟨o,_,_,ho,_⟩,_⟩:=I.loc
  exact free _ o (fun z=>(hch _ z).2.1 rfl) ho I.free
 ·obtain ⟨v,o,ho,hd⟩:=I.cell x c e
  exact free c o (fun z=>(hch c z).2.2.1 x c e rfl) ho (I.freeC x c e)
 ·obtain ⟨e,n,ne,nf,d⟩:=I.pin p hp
  have nch:p.1∉ch:=fun z=>(hch p.1 z).2.2.2 p hp rfl
  exact ⟨keep p.1 p.2 ne nf nch e n,free p.1 p.2 nch e n,ne,nf,d⟩
theorem Inv.un {t':Nat} (I:Inv X pins σ H s) (u:Un X.fs [] H H' s.heap h') (hok:HOk X.prog X.w H' h'):Inv X pins σ H' { s with heap:=h',toks:=t' }:=by
 obtain ⟨m,⟨o,es,ep,ho,r⟩,_⟩:=id I.loc
 obtain ⟨sl,hL⟩:=u.any ho I.free (by simp)
 exact I.step (g':=s.gens) (d':=s.drawn) (ch:=[]) (fun _ z=>nomatch z) (fun b o _ hb _ e n=>u.keep b o e n hb (by simp)) (fun b o _ hb _ e n=>u.slot b o e n hb (by simp)) (fun b o _ e n=>u.free b o e n (by simp)) (fun b o _ e=>u.there b o e (by simp)) u.tups u.frzs u.tbls (fun m' hm=>by
  obtain ⟨o',es',ep',ho',r'⟩:=hm
  rw [ho] at ho';cases ho'
  exact ⟨_,es',ep',hL,r'⟩) hok I.bare
theorem Inv.call {g':Array GenState} {t':Nat} {d':Drawn} {ch:List Addr} (I:Inv X pins σ H s) (u:Un (frs X.stack) ch H H' s.heap h') (hok:HOk X.prog X.w H' h') (hg:AllBare g')
  (hch:∀b∈ch,(b∈X.ex\/X.s₀.heap.objs.size<=b)/\b≠X.env.locals/\(∀x c,X.env.cells.lookup x=some c->c≠b)/\∀p∈X.pn++pins,p.1≠b) :
  Inv X pins σ H' { s with heap:=h',gens:=g',drawn:=d',toks:=t' }:=by
 obtain ⟨m,⟨o,es,ep,ho,r⟩,_⟩:=id I.loc
 obtain ⟨sl,hL⟩:=u.any ho I.free fun z=>(hch _ z).2.1 rfl
 exact I.step (ch:=ch) hch (fun b o hL hb hc e n=>u.keep b o e n (fun z=>(List.mem_cons.mp (I.stkSub b z)).elim hL hb) hc) (fun b o _ _ hc e n=>u.any e n hc) (fun b o hc e n=>u.free b o e n hc) (fun b o hc e=>u.there b o e hc) u.tups u.frzs u.tbls (fun m' hm=>by
  obtain ⟨o',es',ep',ho',r'⟩:=hm
  rw [ho] at ho';cases ho'
  exact ⟨_,es',ep',hL,r'⟩) hok hg
theorem Inv.turned {t':Nat} {it:Addr} (I:Inv X pins σ H s) (k:∀b o,b≠it->s.heap.get? b=some o->h'.get? b=some o) (hn:H it=none) (hL:it≠X.env.locals)
  (h1:it∈X.ex\/X.s₀.heap.objs.size<=it) (h2:∀x c,X.env.cells.lookup x=some c->c≠it) (h3:∀p∈X.pn++pins,p.1≠it):Inv X pins σ H { s with heap:=h',toks:=t' }:=by
 have nit:∀b u,H b=some u->b≠it:=fun b u e z=>by rw [z,hn] at e;cases e
 refine I.step (g':=s.gens) (d':=s.drawn) (ch:=[it]) (fun b hb=>?_) (fun b o _ _ hc e _=>k b o (fun z=>hc (by simp [z])) e) (fun b o _ _ hc e _=>⟨o.slots,k b o (fun z=>hc (by simp [z])) e⟩) (fun _ _ _ _ n=>n)
  (fun b o hc e=>⟨o,k b o (fun z=>hc (by simp [z])) e⟩) (fun _ _ e=>e) (fun _ _ _ e=>e) (fun b ps e=>⟨#[],by rw [e];simp⟩) (fun m hm=>?_) (fun b u e=>?_) I.bare
 ·have e:b=it:=by simpa using hb
  subst e
  exact ⟨h1,hL,h2,h3⟩
 ·obtain ⟨o,es,ep,ho,r⟩:=hm
  exact ⟨o,es,ep,k _ o (Ne.symm hL) ho,r⟩
 ·refine (I.hok b u e).stay (fun c v hc q=>k c v ?_ q) (fun _ q=>q) fun _ _ q=>q
  rcases hc with z | z
  ·rw [z];exact nit b u e
  ·exact nit c _ z
theorem Inv.tok (I:Inv X pins σ H s) (t:Nat):Inv X pins σ H { s with toks:=t }:=I.un (h':=s.heap) (t':=t) Un.refl I.hok
theorem Inv.kept {t':Nat} (I:Inv X pins σ H s) (k:∀b u,s.heap.get? b=some u->h'.get? b=some u):Inv X pins σ H { s with heap:=h',toks:=t' }:=I.un (Un.kept k) (I.hok.kept k)
theorem Inv.laid {a:Addr} {o:HO} {t':Nat} (I:Inv X pins σ H s) (k:∀b u,s.heap.get? b=some u->h'.get? b=some u) (hp:s.heap.objs.size<=a) (new:ObjOk X.prog X.w (upd H a o) h' a o) :
  Inv X pins σ (upd H a o) { s with heap:=h',toks:=t' }:=I.un (Un.laid k hp (I.hok.fresh hp)) (I.hok.laid k hp new)
theorem Inv.write {x e:Addr} {o:HO} {t':Nat} (I:Inv X pins σ H s) (mu:Mut (H x)) (he:e=x\/H e=some (.own x)) (k:∀b u,b≠e->s.heap.get? b=some u->h'.get? b=some u) (heo:∃u,h'.get? e=some u)
  (new:ObjOk X.prog X.w (upd H x o) h' x o):Inv X pins σ (upd H x o) { s with heap:=h',toks:=t' }:=I.un (Un.write mu he k heo) (I.hok.write mu he k heo new)
theorem Inv.pins_of {pins':List (Addr×Obj)} (I:Inv X pins σ H s) (h:∀p∈pins',s.heap.get? p.1=some p.2/\H p.1=none/\p.1≠X.env.locals/\p.1∉X.fs/\∀v,p.2.data≠.cell v):Inv X pins' σ H s:=
 ⟨I.ok,I.os,I.bare,I.base,I.loc,I.cell,I.free,I.freeC,fun p hp=>(List.mem_append.mp hp).elim (fun z=>I.pin p (List.mem_append_left _ z)) (h p),I.hok,I.len⟩
theorem nodup_ix {N:List Str} (hN:N.Nodup) {i j:Nat} {x:Str} (a:N[i]? = some x) (b:N[j]? = some x):i=j:=by
 obtain ⟨h1,e1⟩:=List.getElem?_eq_some_iff.mp a
 obtain ⟨h2,e2⟩:=List.getElem?_eq_some_iff.mp b
 exact (List.getElem_inj hN).mp (e1.trans e2.symm)
theorem store_ok2 {M:Model} {A:Around} {E:Value->Shared->Prop} {i:Nat} {x:Str} {v:V} {u:Value} {Q:Unit->Shared->Prop} (I:Inv X pins σ H s) (hN:X.N.Nodup) (hi:X.N[i]? = some x) (hx:Loc X.env.scope x) (r:RelV v u)
  (h:∀s',Inv X pins (σ.set i (some v)) H s'->(∃a,Heap.SameBut a s.heap s'.heap/\(a=X.env.locals\/X.env.cells.lookup x=some a))->Q () s') (hf:X.fn x=true\/X.env.scope.names.lookup x=some .local:=by first | exact .inl rfl | exact .inr rfl | assumption):wpAny M A (storeName X.env x u) Q E s:=by
 obtain ⟨m,hn,hl⟩:=id I.loc
 have hcls:(X.env.scope.kind == .class || (X.env.scope.kind == .module && X.env.locals != X.env.globals))=false:=by rw [I.ok.kind];rfl
 have hiσ:i < σ.length:=by rw [I.len];exact (List.getElem?_eq_some_iff.mp hi).1
 have cne:=I.cne
 have tracked:∀{a:Addr} {h':Heap},(∃o,s.heap.get? a=some o/\H a=none)->Heap.SameBut a s.heap h'->HOk X.prog X.w H h':=fun {a h'} ha hs b ob e=>by
  obtain ⟨_,_,hfree⟩:=ha
  refine (I.hok b ob e).stay (fun c w' hc q=>(hs.2 c ?_).trans q) (fun _ q=>q) fun _ _ q=>q
  rintro rfl
  rcases hc with rfl | hc
  ·rw [hfree] at e;cases e
  ·rw [hfree] at hc;cases hc
 rcases hx with hk | hk
 ·refine wpAny_storeName_local hk hn (fun h' hn' hs=>?_) hcls
  obtain ⟨oL,_,_,hoL,_⟩:=id hn
  refine h _ ⟨I.ok,I.os,I.bare,⟨fun b o e n hb hx=>?_,fun b o e n hb hx=>?_,I.base.free,fun b o e hx=>?_,I.base.tups,I.base.frzs,I.base.tbls⟩,⟨_,hn',fun j y v' e1 e2 e3=>?_⟩,fun y c e=>?_,I.free,I.freeC,fun p hp=>?_,tracked ⟨oL,hoL,I.free⟩ hs,by simpa using I.len⟩ ⟨_,hs,.inl rfl⟩
  ·exact (hs.2 b (Nat.ne_of_lt (Nat.lt_of_lt_of_le (Heap.lt_size e) I.ok.above))).trans (I.base.keep b o e n hb hx)
  ·obtain ⟨sl,e1⟩:=I.base.slot b o e n hb hx
   exact ⟨sl,(hs.2 b (Nat.ne_of_lt (Nat.lt_of_lt_of_le (Heap.lt_size e) I.ok.above))).trans e1⟩
  ·obtain ⟨o',e1⟩:=I.base.there b o e hx
   exact ⟨o',(hs.2 b (Nat.ne_of_lt (Nat.lt_of_lt_of_le (Heap.lt_size e) I.ok.above))).trans e1⟩
  ·by_cases hj:j=i
   ·subst hj
    rw [hi] at e1;cases e1
    rw [List.getElem?_set_self hiσ] at e2
    cases e2
    exact ⟨u,r,.inl ⟨hk,by simp⟩⟩
   ·rw [List.getElem?_set_ne (Ne.symm hj)] at e2
    obtain ⟨u',r',q⟩:=hl j y v' e1 e2 e3
    refine ⟨u',r',?_⟩
    rcases q with ⟨k,e⟩ | ⟨k,c,e,z⟩
    ·refine .inl ⟨k,?_⟩
     have:y≠x:=fun e=>hj (nodup_ix hN e1 (e ▸ hi))
     simp [this,e]
    ·exact .inr ⟨k,c,e,z.sameBut hs (cne y c e)⟩
  ·obtain ⟨w',z⟩:=I.cell y c e
   exact ⟨w',z.sameBut hs (cne y c e)⟩
  ·obtain ⟨e,n,ne,nf,d⟩:=I.pin p hp
   exact ⟨(hs.2 p.1 ne).trans e,n,ne,nf,d⟩
 ·have hfn:X.fn x=true:=by
   rcases hf with z | z
   ·exact z
   ·rw [z] at hk;cases hk
  obtain ⟨c,hc⟩:=I.ok.has x (.inl hk)
  obtain ⟨w',z⟩:=I.cell x c hc
  refine wpAny_storeName_cell I.ok.kind hk hc z (fun h' hc' hs=>?_)
  obtain ⟨oc,hoc,hocd⟩:=id z
  refine h { s with heap:=h' } ⟨I.ok,I.os,I.bare,⟨fun b o e n hb hx=>?_,fun b o e n hb hx=>?_,I.base.free,fun b o e hx=>?_,I.base.tups,I.base.frzs,I.base.tbls⟩,⟨m,hn.sameBut hs (Ne.symm (cne x c hc)),fun j y v' e1 e2 e3=>?_⟩,fun y c' e=>?_,I.free,I.freeC,fun p hp=>?_,tracked ⟨oc,hoc,I.freeC x c hc⟩ hs,by simpa using I.len⟩ ⟨c,hs,.inr hc⟩
  ·exact (hs.2 b (Nat.ne_of_lt (Nat.lt_of_lt_of_le (Heap.lt_size e) (I.ok.cab x c hfn hc)))).trans (I.base.keep b o e n hb hx)
  ·obtain ⟨sl,e1⟩:=I.base.slot b o e n hb hx
   exact ⟨sl,(hs.2 b (Nat.ne_of_lt (Nat.lt_of_lt_of_le (Heap.lt_size e) (I.ok.cab x c hfn hc)))).trans e1⟩
  ·obtain ⟨o',e1⟩:=I.base.there b o e hx
   exact ⟨o',(hs.2 b (Nat.ne_of_lt (Nat.lt_of_lt_of_le (Heap.lt_size e) (I.ok.cab x c hfn hc)))).trans e1⟩
  ·by_cases hj:j=i
   ·subst hj
    rw [hi] at e1;cases e1
    rw [List.getElem?_set_self hiσ] at e2
    cases e2
    exact ⟨u,r,.inr ⟨.inl hk,c,hc,hc'⟩⟩
   ·rw [List.getElem?_set_ne (Ne.symm hj)] at e2
    obtain ⟨u',r',q⟩:=hl j y v' e1 e2 e3
    refine ⟨u',r',?_⟩
    rcases q with q | ⟨k,c',e,z'⟩
    ·exact .inl q
    ·refine .inr ⟨k,c',e,z'.sameBut hs ?_⟩
     rintro rfl
     exact hj (nodup_ix hN e1 (I.ok.inj _ _ _ e hc ▸ hi))
  ·by_cases hcc:c'=c
   ·subst hcc;exact ⟨_,hc'⟩
   ·obtain ⟨w2,z2⟩:=I.cell y c' e
    exact ⟨w2,z2.sameBut hs hcc⟩
  ·obtain ⟨e,n,ne,nf,d⟩:=I.pin p hp
   refine ⟨(hs.2 p.1 ?_).trans e,n,ne,nf,d⟩
   intro q
   rw [q,hoc] at e
   have q':oc=p.2:=Option.some.inj e
   exact d w' (by rw [<-q'];exact hocd)
theorem store_ok {M:Model} {A:Around} {E:Value->Shared->Prop} {i:Nat} {x:Str} {v:V} {u:Value} {Q:Unit->Shared->Prop} (I:Inv X pins σ H s) (hN:X.N.Nodup) (hi:X.N[i]? = some x) (hx:Loc X.env.scope x) (r:RelV v u)
  (h:∀s',Inv X pins (σ.set i (some v)) H s'->Q () s') (hf:X.fn x=true\/X.env.scope.names.lookup x=some .local:=by first | exact .inl rfl | exact .inr rfl | assumption):wpAny M A (storeName X.env x u) Q E s:=
 store_ok2 I hN hi hx r (fun s' I' _=>h s' I') hf
theorem Inv.call' {s':Shared} {ch:List Addr} (I:Inv X pins σ H s) (ho:s'.os=s.os) (u:Un (frs X.stack) ch H H' s.heap s'.heap) (hok:HOk X.prog X.w H' s'.heap) (hg:AllBare s'.gens)
  (hch:∀b∈ch,(b∈X.ex\/X.s₀.heap.objs.size<=b)/\b≠X.env.locals/\(∀x c,X.env.cells.lookup x=some c->c≠b)/\∀p∈X.pn++pins,p.1≠b):Inv X pins σ H' s':=by
 obtain ⟨h',g',d',t',o'⟩:=s'
 have e:o'=s.os:=ho
 subst e
 exact I.call (g':=g') (t':=t') (d':=d') u hok hg hch
end
abbrev XK:=Value->Option Addr->Hp->Prop
abbrev St:=List (Option V)
abbrev VK:=V->Hp->Prop
abbrev TE:=St->Hp->VK->Prop
abbrev TT:=St->Hp->(Bool->Hp->Prop)->Prop
abbrev TA:=St->Hp->(List V->Hp->Prop)->Prop
structure Ends where
 nx:St->Hp->Prop
 rt:VK
 bk:St->Hp->Prop:=fun _ _=>False
 ct:St->Hp->Prop:=fun _ _=>False
abbrev TS:=Ends->St->Hp->Prop
def EP (X:Cx) (pins:List (Addr×Obj)) (σ:St) (Q:VK) (u:Value) (s':Shared):Prop:=∃v H',Inv X pins σ H' s'/\RelV v u/\Q v H'
def TP (X:Cx) (pins:List (Addr×Obj)) (σ:St) (Q:Bool->Hp->Prop) (b:Bool) (s':Shared):Prop:=∃H',Inv X pins σ H' s'/\Q b H'
def AP (X:Cx) (pins:List (Addr×Obj)) (σ:St) (Q:List V->Hp->Prop) (us:List Value) (s':Shared):Prop:=∃vs H',Inv X pins σ H' s'/\Vals vs us/\Q vs H'
def SP (X:Cx) (pins:List (Addr×Obj)) (D:Ends) (f:Flow) (s':Shared):Prop:=
 match f with
 | .next=>∃σ' H',Inv X pins σ' H' s'/\D.nx σ' H'
 | .brk=>∃σ' H',Inv X pins σ' H' s'/\D.bk σ' H'
 | .cont=>∃σ' H',Inv X pins σ' H' s'/\D.ct σ' H'
 | .ret u=>∃v σ' H',Inv X pins σ' H' s'/\RelV v u/\D.rt v H'
def PE (X:Cx) (e:Expr) (t:TE):Prop:=
 ∀(pins:List (Addr×Obj)) (s:Shared) (σ:St) (H:Hp) (Q:VK),Inv X pins σ H s->t σ H Q->wpAny (model X.prog X.w) X.A (eval e X.env) (EP X pins σ Q) X.xe s
def PT (X:Cx) (e:Expr) (t:TT):Prop:=
 ∀(pins:List (Addr×Obj)) (s:Shared) (σ:St) (H:Hp) (Q:Bool->Hp->Prop),Inv X pins σ H s->t σ H Q->wpAny (model X.prog X.w) X.A (isTrue e X.env (eval e X.env)) (TP X pins σ Q) X.xe s
def PW (X:Cx) (e:Expr) (t:TT):Prop:=
 ∀(whole:Sem Value) (pins:List (Addr×Obj)) (s:Shared) (σ:St) (H:Hp) (Q:Bool->Hp->Prop),Inv X pins σ H s->t σ H Q->wpAny (model X.prog X.w) X.A (isTrue e X.env whole) (TP X pins σ Q) X.xe s
theorem PW.pt {X:Cx} {e:Expr} {t:TT} (h:PW X e t):PT X e t:=h _
def PA (X:Cx) (es:List Expr) (t:TA):Prop:=
 ∀(pos:Pos) (pins:List (Addr×Obj)) (s:Shared) (σ:St) (H:Hp) (Q:List V->Hp->Prop),Inv X pins σ H s->t σ H Q->wpAny (model X.prog X.w) X.A (spliced (backTo pos (starEach es X.env))) (AP X pins σ Q) X.xe s
def PS (X:Cx) (st:Stmt) (t:TS):Prop:=
 ∀(pins:List (Addr×Obj)) (s:Shared) (σ:St) (H:Hp) (D:Ends),Inv X pins σ H s->t D σ H->wpAny (model X.prog X.w) X.A (exec st X.env) (SP X pins D) X.xe s
def PSs (X:Cx) (st:List Stmt) (t:TS):Prop:=
 ∀(pins:List (Addr×Obj)) (s:Shared) (σ:St) (H:Hp) (D:Ends),Inv X pins σ H s->t D σ H->wpAny (model X.prog X.w) X.A (execs st X.env) (SP X pins D) X.xe s
theorem thn {α:Type} {t:Sem α} {Q Q':α->Shared->Prop} {M:Model} {A:Around} {E:Value->Shared->Prop} {s:Shared} (h:wpAny M A t Q E s) (hQ:∀a s,Q a s->Q' a s):wpAny M A t Q' E s:=wpAny_mono h hQ fun _ _ x=>x
end L2
namespace L2
open PySem PySem.Spec PyProof.Rows
section
variable {X:Cx}
theorem bin {a b:Expr} {ta tb:TE} (ha:PE X a ta) (hb:PE X b tb) {pins:List (Addr×Obj)} {s:Shared} {σ:St} {H:Hp} {R:V->V->Hp->Prop} (I:Inv X pins σ H s) (h:ta σ H fun x H1=>tb σ H1 fun y H2=>R x y H2)
  {α:Type} {Q:α->Shared->Prop} {f:Value->Value->Sem α}
  (hf:∀v u s2 x y H2,Inv X pins σ H2 s2->RelV x v->RelV y u->R x y H2->wpAny (model X.prog X.w) X.A (f v u) Q X.xe s2) :
  wpAny (model X.prog X.w) X.A (eval a X.env) (fun v s₁=>wpAny (model X.prog X.w) X.A (eval b X.env) (fun u s₂=>wpAny (model X.prog X.w) X.A (f v u) Q X.xe s₂) X.xe s₁) X.xe s:=by
 refine thn (ha pins s σ H _ I h) fun v s1 ⟨x,H1,I1,r1,q1⟩=>?_
 refine thn (hb pins s1 σ H1 _ I1 q1) fun u s2 ⟨y,H2,I2,r2,q2⟩=>?_
 exact hf v u s2 x y H2 I2 r1 r2 q2
def tVar (i:Nat):TE:=fun σ H Q=>∃v,σ[i]? = some (some v)/\Q v H
def tC (v:V):TE:=fun _ H Q=>Q v H
theorem pe_var {i:Nat} {x:Str} {pos:Pos} (hN:X.N[i]? = some x) (hv:Vis X.env.scope x) (hd:(x == ("__debug__" : Str))=false:=by decide) (hcd:(x == ("__classdict__" : Str))=false:=by decide):PE X (.Name x pos) (tVar i):=by
 intro pins s σ H Q I h
 obtain ⟨v,e,h⟩:=h
 obtain ⟨m,hn,hl⟩:=I.loc
 obtain ⟨u,r,l⟩:=hl i x v hN e hv
 have fin:EP X pins σ Q u s:=⟨v,H,I,r,h⟩
 rcases l with ⟨hk,hm⟩ | ⟨hk,c,hc,hcell⟩
 ·exact wpAny_Name (wpAny_loadName_local I.ok.kind hk hn hm fin) hd
 ·rcases hk with hk | hk
  ·exact wpAny_Name (wpAny_loadName_cell I.ok.kind hk hc hcell fin) hd
  ·exact wpAny_Name (wpAny_loadName_free I.ok.kind hk hc hcell fin hcd) hd
theorem pe_int {i j pos}:PE X (.Constant (.int i) j pos) (tC (.int i)):=fun _ _ _ H _ I h=>wpAny_Constant_int ⟨.int i,H,I.tok _,⟨_,rfl⟩,h⟩
theorem pe_bl {b j pos}:PE X (.Constant (.bool b) j pos) (tC (.bl b)):=fun _ _ _ H _ I h=>Constant_bool ⟨.bl b,H,I,rfl,h⟩
theorem pe_non {j pos}:PE X (.Constant .none j pos) (tC .non):=fun _ _ _ H _ I h=>Constant_none ⟨.non,H,I,rfl,h⟩
theorem pe_str {x j pos}:PE X (.Constant (.str x) j pos) (tC (.str x)):=fun _ _ _ H _ I h=>Calls.Constant_str ⟨.str x,H,I.tok _,⟨_,rfl⟩,h⟩
def Gl (X:Cx) (x:Str):Prop:=X.env.kindOf x=some .globalImplicit
theorem ld_glob {E:Value->Shared->Prop} {pins:List (Addr×Obj)} {s:Shared} {σ:St} {H:Hp} {x:Str} {u:Value} {pos:Pos} {Q:Value->Shared->Prop} (I:Inv X pins σ H s) (hg:Gl X x) (hm:X.mg x=some u) (h:Q u s)
  (hd:(x == ("__debug__" : Str))=false:=by decide):wpAny (model X.prog X.w) X.A (eval (.Name x pos) X.env) Q E s:=
 Calls.Name_function_global I.ok.kind hg (Calls.loadGlobal_global (by rw [I.ok.glob];exact I.mod.glob.keeps I.bk) hm h) hd
theorem ld_blt {E:Value->Shared->Prop} {pins:List (Addr×Obj)} {s:Shared} {σ:St} {H:Hp} {x:Str} {u:Value} {pos:Pos} {Q:Value->Shared->Prop} (I:Inv X pins σ H s) (hg:Gl X x) (hm:X.mg x=none) (hv:bootBuiltins x=some u) (h:Q u s)
  (hn:x≠"__name__":=by decide) (hd:(x == ("__debug__" : Str))=false:=by decide):wpAny (model X.prog X.w) X.A (eval (.Name x pos) X.env) Q E s:=by
 obtain ⟨mb,h1,h2⟩:=I.mod.blt
 exact Calls.Name_function_global I.ok.kind hg (Calls.loadGlobal_builtin (by rw [I.ok.glob];exact I.mod.glob.keeps I.bk) hm (by rw [I.ok.blt];exact h1.keeps I.bk) ((h2 x hn).trans hv) h) hd
theorem pe_bltn {x:Str} {v:V} {u:Value} {pos:Pos} (hg:Gl X x) (hm:X.mg x=none) (hv:bootBuiltins x=some u) (r:RelV v u) (hn:x≠"__name__":=by decide) (hd:(x == ("__debug__" : Str))=false:=by decide):PE X (.Name x pos) (tC v):=
 fun _ _ _ H _ I h=>ld_blt I hg hm hv ⟨v,H,I,r,h⟩ hn hd
variable {a b:Expr} {ta tb:TE} {pos:Pos}
def PC (X:Cx) (op:CmpOp) (a b:Expr) (t:TE):Prop:=
 ∀(pins:List (Addr×Obj)) (s:Shared) (σ:St) (H:Hp) (Q:VK),Inv X pins σ H s->t σ H Q->
  wpAny (model X.prog X.w) X.A (eval a X.env) (fun v s₁=>wpAny (model X.prog X.w) X.A (eval b X.env) (fun u s₂=>wpAny (model X.prog X.w) X.A (compareOp op v u) (EP X pins σ Q) X.xe s₂) X.xe s₁) X.xe s
theorem nobehind (b:Expr) {op:CmpOp} (h:op≠.In) (h2:op≠.NotIn):behindInMarks op b=false:=by
 have e1:(op == CmpOp.In)=false:=by cases op <;> first | rfl | exact absurd rfl h
 have e2:(op == CmpOp.NotIn)=false:=by cases op <;> first | rfl | exact absurd rfl h2
 cases b <;> simp [behindInMarks,e1,e2]
def tB (t:TE):TT:=fun σ H Q=>t σ H fun x H1=>∃c,x=.bl c/\Q c H1
theorem pt_cmp {op:CmpOp} {t:TE} (h:PC X op a b t) (h1:behindInMarks op b=false:=by first | exact nobehind _ (by decide) (by decide) | rfl):PT X (.Compare a [op] [b] pos) (tB t):=by
 intro pins s σ H Q I hw
 refine wpAny_isTrue_Compare1 (thn (h pins s σ H _ I hw) fun v s1 h1=>thn h1 fun u s2 h2=>thn h2 fun c s3 ⟨x,H1,I1,r1,q1⟩=>?_) h1
 obtain ⟨d,rfl,q⟩:=q1
 cases r1
 exact wpAny_truthy_bool ⟨H1,I1,q⟩
theorem pt_val {e:Expr} {t:TE} (h:PE X e t) (he:∀whole,isTrue e X.env whole=(do let v <-whole;standAt e.pos;holding [v] (truthy v)):=by intro _;rfl):PT X e (tB t):=by
 intro pins s σ H Q I hw
 refine isTrue_plain (thn (h pins s σ H _ I hw) fun v s1 ⟨x,H1,I1,r1,q1⟩=>?_) (he _)
 obtain ⟨d,rfl,q⟩:=q1
 cases r1
 exact wpAny_truthy_bool ⟨H1,I1,q⟩
variable {tA tB':TT} {rest:List Expr}
def tAnd (t u:TT):TT:=fun σ H Q=>t σ H fun c H1=>if c=true then u σ H1 Q else Q false H1
def tOr (t u:TT):TT:=fun σ H Q=>t σ H fun c H1=>if c=true then Q true H1 else u σ H1 Q
def tNot (t:TT):TT:=fun σ H Q=>t σ H fun c H1=>Q (!c) H1
theorem pw_and1 (ha:PT X a tA):PW X (.BoolOp .And [a] pos) tA:=by
 intro wh pins s σ H Q I h
 refine isTrue_and (thn (ha pins s σ H Q I h) fun c s1 e=>?_)
 cases c with
 | true=>exact isTrue_and_nil e
 | false=>exact e
theorem pw_or1 (ha:PT X a tA):PW X (.BoolOp .Or [a] pos) tA:=by
 intro wh pins s σ H Q I h
 refine isTrue_or (thn (ha pins s σ H Q I h) fun c s1 e=>?_)
 cases c with
 | false=>exact isTrue_or_nil e
 | true=>exact e
theorem pw_and (ha:PT X a tA) (hb:PW X (.BoolOp .And (b::rest) pos) tB'):PW X (.BoolOp .And (a::b::rest) pos) (tAnd tA tB'):=by
 intro wh pins s σ H Q I h
 refine isTrue_and (thn (ha pins s σ H _ I h) fun c s1 ⟨H1,I1,q1⟩=>?_)
 cases c with
 | true=>exact hb wh pins s1 σ H1 Q I1 q1
 | false=>exact ⟨H1,I1,q1⟩
theorem pw_or (ha:PT X a tA) (hb:PW X (.BoolOp .Or (b::rest) pos) tB'):PW X (.BoolOp .Or (a::b::rest) pos) (tOr tA tB'):=by
 intro wh pins s σ H Q I h
 refine isTrue_or (thn (ha pins s σ H _ I h) fun c s1 ⟨H1,I1,q1⟩=>?_)
 cases c with
 | true=>exact ⟨H1,I1,q1⟩
 | false=>exact hb wh pins s1 σ H1 Q I1 q1
theorem pt_not (ha:PT X a tA):PT X (.UnaryOp .Not a pos) (tNot tA):=by
 intro pins s σ H Q I h
 exact isTrue_not (ha pins s σ H (fun c H1=>Q (!c) H1) I h)
def tAndV (ta tb:TE):TE:=fun σ H Q=>ta σ H fun x H1=>∃c,x=.bl c/\if c=true then tb σ H1 Q else Q (.bl false) H1
def tOrV (ta tb:TE):TE:=fun σ H Q=>ta σ H fun x H1=>∃c,x=.bl c/\if c=true then Q (.bl true) H1 else tb σ H1 Q
def tNotV (ta:TE):TE:=fun σ H Q=>ta σ H fun x H1=>∃c,x=.bl c/\Q (.bl (!c)) H1
theorem pe_one {op} {t:TE} (h:PE X a t):PE X (.BoolOp op [a] pos) t:=fun pins s σ H Q I hw=>BoolOp_one (h pins s σ H Q I hw)
theorem pe_and (ha:PE X a ta) (hb:PE X (.BoolOp .And (b::rest) pos) tb):PE X (.BoolOp .And (a::b::rest) pos) (tAndV ta tb):=by
 intro pins s σ H Q I h
 refine BoolOp_and (thn (ha pins s σ H _ I h) fun v s1 ⟨x,H1,I1,r1,q1⟩=>?_)
 obtain ⟨c,rfl,q1⟩:=q1
 cases r1
 refine wpAny_truthy_bool ?_
 cases c with
 | true=>exact hb pins s1 σ H1 Q I1 q1
 | false=>exact ⟨.bl false,H1,I1,rfl,q1⟩
theorem pe_not (ha:PE X a ta):PE X (.UnaryOp .Not a pos) (tNotV ta):=by
 intro pins s σ H Q I h
 refine UnaryOp_ (thn (ha pins s σ H _ I h) fun v s1 ⟨x,H1,I1,r1,q1⟩=>?_)
 obtain ⟨c,rfl,q1⟩:=q1
 cases r1
 exact not_of (wpAny_truthy_bool ⟨.bl (!c),H1,I1,rfl,q1⟩)
def tIf (t:TT) (ta tb:TE):TE:=fun σ H Q=>t σ H fun c H1=>if c=true then ta σ H1 Q else tb σ H1 Q
end
end L2
namespace L2
open PySem PySem.Spec PyProof.Rows
def SqL (K:PySem.W.Frag) (H:Hp) (a:Addr) (xs:List V):Prop:=
 Rd H a (.lst xs)\/
  ∃(o:Obj) (its:Array Value) (n:Nat),K.lookup a=some o/\o.cls=.type "list"/\o.dict=none/\o.data=.seq its n/\its.size<=sizeLine/\Vals xs its.toList
def SqT (K:PySem.W.Frag) (H:Hp) (a:Addr) (xs:List V):Prop:=
 Rd H a (.tup xs)\/
  ∃(o:Obj) (its:Array Value) (n:Nat),K.lookup a=some o/\o.cls=.type "tuple"/\o.data=.seq its n/\its.size<=sizeLine/\Vals xs its.toList
def absV:Value->Option V
 | .none=>some .non
 | .bool b=>some (.bl b)
 | .int i _=>some (.int i)
 | .str x _=>some (.str x)
 | .bytes b _=>some (.byt b)
 | .float b _=>some (.flt b)
 | .ref a=>some (.ref a)
 | .type n=>some (.ty n)
 | _=>none
theorem RelV.abs {x:V} {u:Value} (r:RelV x u):absV u=some x:=by
 cases x with
 | non=>cases r;rfl
 | bl _=>cases r;rfl
 | int _=>obtain ⟨t,rfl⟩:=r;rfl
 | str _=>obtain ⟨t,rfl⟩:=r;rfl
 | byt _=>obtain ⟨t,rfl⟩:=r;rfl
 | flt _=>obtain ⟨t,rfl⟩:=r;rfl
 | ref _=>cases r;rfl
 | ty _=>cases r;rfl
theorem RelV.inj {x y:V} {u:Value} (r:RelV x u) (q:RelV y u):x=y:=Option.some.inj (r.abs.symm.trans q.abs)
theorem Vals.inj:∀{xs ys:List V} {us:List Value},Vals xs us->Vals ys us->xs=ys
 | _,_,_,.nil,.nil=>rfl
 | _,_,_,.cons r t,.cons r' t'=>by rw [r.inj r',Vals.inj t t']
section
variable {X:Cx} {pins:List (Addr×Obj)} {σ:St} {H:Hp} {s:Shared} {a:Addr} {xs ys:List V}
theorem SqL.of {K:PySem.W.Frag} (h:H a=some (.lst xs)):SqL K H a xs:=.inl (.inl h)
theorem SqT.of {K:PySem.W.Frag} (h:H a=some (.tup xs)):SqT K H a xs:=.inl (.inl h)
theorem Inv.list (I:Inv X pins σ H s) (h:SqL X.K H a xs):∃its:List Value,Vals xs its/\PlainL s.heap a its.toArray/\xs.length<=sizeLine:=by
 rcases h with h | ⟨o,its,n,hk,hc,hd,hs,hz,r⟩
 ·obtain ⟨z,its,n,r,e⟩:=h.ok I.hok
  exact ⟨its,r,⟨_,n,e,rfl,rfl,rfl⟩,z⟩
 ·refine ⟨its.toList,r,⟨o,n,I.kIn a o hk,hc,hd,by simpa using hs⟩,?_⟩
  have e:=r.length
  simp only [Array.length_toList] at e
  lia
theorem Inv.tuple (I:Inv X pins σ H s) (h:SqT X.K H a xs):∃its:List Value,Vals xs its/\IsTup s.heap a its.toArray/\xs.length<=sizeLine:=by
 rcases h with h | ⟨o,its,n,hk,hc,hs,hz,r⟩
 ·obtain ⟨z,its,r,p⟩:=h.ok I.hok
  exact ⟨its,r,p,z⟩
 ·refine ⟨its.toList,r,⟨o,I.kIn a o hk,hc,n,by simpa using hs⟩,?_⟩
  have e:=r.length
  simp only [Array.length_toList] at e
  lia
theorem Inv.list_inj (I:Inv X pins σ H s) (h:SqL X.K H a xs) (h':SqL X.K H a ys):xs=ys:=by
 obtain ⟨its,r,⟨o,n,e,_,_,d⟩,_⟩:=I.list h
 obtain ⟨its',r',⟨o',n',e',_,_,d'⟩,_⟩:=I.list h'
 rw [e] at e';cases e'
 rw [d] at d'
 injection d' with d1 _
 have:its=its':=by simpa using congrArg Array.toList d1
 subst this
 exact r.inj r'
theorem Inv.tuple_inj (I:Inv X pins σ H s) (h:SqT X.K H a xs) (h':SqT X.K H a ys):xs=ys:=by
 obtain ⟨its,r,⟨o,e,_,n,d⟩,_⟩:=I.tuple h
 obtain ⟨its',r',⟨o',e',_,n',d'⟩,_⟩:=I.tuple h'
 rw [e] at e';cases e'
 rw [d] at d'
 injection d' with d1 _
 have:its=its':=by simpa using congrArg Array.toList d1
 subst this
 exact r.inj r'
end
abbrev Cx.wish (X:Cx) (E:Value->Shared->Prop):Cx:={ X with xe:=E }
abbrev Cx.nox (X:Cx):Cx:=X.wish fun _ _=>False
theorem Cx.Ok.wish {X:Cx} (ok:X.Ok) (E:Value->Shared->Prop):(X.wish E).Ok:=
 ⟨ok.mod,ok.kind,ok.glob,ok.blt,ok.above,ok.inj,ok.has,ok.cab,ok.hd,ok.frames,ok.stk,ok.exf,ok.bs,ok.bsz,ok.noex,ok.exfs,ok.funs,ok.frf⟩
theorem Cx.Ok.unwish {X:Cx} {E:Value->Shared->Prop} (ok:(X.wish E).Ok):X.Ok:=
 ⟨ok.mod,ok.kind,ok.glob,ok.blt,ok.above,ok.inj,ok.has,ok.cab,ok.hd,ok.frames,ok.stk,ok.exf,ok.bs,ok.bsz,ok.noex,ok.exfs,ok.funs,ok.frf⟩
section
variable {X:Cx} {pins:List (Addr×Obj)} {σ:St} {H:Hp} {s:Shared} {E:Value->Shared->Prop}
theorem Inv.wish (I:Inv X pins σ H s) (E:Value->Shared->Prop):Inv (X.wish E) pins σ H s:=⟨I.ok.wish E,I.os,I.bare,I.base,I.loc,I.cell,I.free,I.freeC,I.pin,I.hok,I.len⟩
theorem Inv.unwish (I:Inv (X.wish E) pins σ H s):Inv X pins σ H s:=⟨I.ok.unwish,I.os,I.bare,I.base,I.loc,I.cell,I.free,I.freeC,I.pin,I.hok,I.len⟩
theorem SP.unwish {D:Ends} {f:Flow} {s':Shared} (h:SP (X.wish E) pins D f s'):SP X pins D f s':=by
 cases f with
 | next=>obtain ⟨σ',H',I,q⟩:=h;exact ⟨σ',H',I.unwish,q⟩
 | brk=>obtain ⟨σ',H',I,q⟩:=h;exact ⟨σ',H',I.unwish,q⟩
 | cont=>obtain ⟨σ',H',I,q⟩:=h;exact ⟨σ',H',I.unwish,q⟩
 | ret u=>obtain ⟨v,σ',H',I,r,q⟩:=h;exact ⟨v,σ',H',I.unwish,r,q⟩
theorem PSs.nox {st:List Stmt} {t:TS} (h:PSs X.nox st t):PSs X st t:=fun pins s σ H D I hw=>
 wpAny_mono (h pins s σ H D (I.wish _) hw) (fun _ _ q=>q.unwish) fun _ _ z=>False.elim z
end
section
variable {X:Cx} {st:Stmt} {rest:List Stmt} {t u:TS} {e:Expr} {te:TE} {pos:Pos}
def tNext:TS:=fun D σ H=>D.nx σ H
def tSeq (t u:TS):TS:=fun D σ H=>t { D with nx:=u D } σ H
theorem pss_nil:PSs X [] tNext:=fun _ _ σ H _ I h=>wpAny_execs_nil ⟨σ,H,I,h⟩
theorem pss_cons (h1:PS X st t) (h2:PSs X rest u):PSs X (st::rest) (tSeq t u):=by
 intro pins s σ H D I h
 refine wpAny_execs_cons (thn (h1 pins s σ H { D with nx:=u D } I h) fun f s1 q=>?_)
 cases f with
 | next=>
  obtain ⟨σ',H',I',q⟩:=q
  exact h2 pins s1 σ' H' D I' q
 | ret v=>exact q
 | brk=>exact q
 | cont=>exact q
theorem pss_one (h1:PS X st t):PSs X [st] t:=by
 intro pins s σ H D I h
 refine wpAny_execs_cons (thn (h1 pins s σ H D I h) fun f s1 q=>?_)
 cases f with
 | next=>exact wpAny_execs_nil q
 | ret v=>exact q
 | brk=>exact q
 | cont=>exact q
theorem Inv.quiet {pins:List (Addr×Obj)} {σ:St} {H:Hp} {s:Shared} (I:Inv X pins σ H s):interactive X.env=false:=by simp [interactive,I.ok.kind]
def tDrop (te:TE):TS:=fun D σ H=>te σ H fun _ H1=>D.nx σ H1
theorem ps_expr (he:PE X e te) (hs:swapsWith e none pos.line X.env=pure false:=by rfl):PS X (.Expr e pos) (tDrop te):=by
 intro pins s σ H D I h
 exact wpAny_Expr_any (thn (he pins s σ H _ I h) fun v s1 ⟨x,H1,I1,r1,q1⟩=>⟨σ,H1,I1,q1⟩) I.quiet hs
def tRet (te:TE):TS:=fun D σ H=>te σ H D.rt
theorem ps_ret (he:PE X e te):PS X (.Return (some e) pos) (tRet te):=by
 intro pins s σ H D I h
 exact wpAny_Return_some (thn (he pins s σ H _ I h) fun v s1 ⟨x,H1,I1,r1,q1⟩=>⟨x,σ,H1,I1,r1,q1⟩)
def tRetN:TS:=fun D _ H=>D.rt .non H
def tIfS (c:TT) (t u:TS):TS:=fun D σ H=>c σ H fun b H1=>if b=true then t D σ H1 else u D σ H1
theorem ps_if {c:Expr} {a b:List Stmt} {tc:TT} (hc:PT X c tc) (ha:PSs X a t) (hb:PSs X b u):PS X (.If c a b pos) (tIfS tc t u):=by
 intro pins s σ H D I h
 refine wpAny_If (thn (hc pins s σ H _ I h) fun d s1 ⟨H1,I1,q1⟩=>?_)
 cases d with
 | true=>exact ha pins s1 σ H1 D I1 q1
 | false=>exact hb pins s1 σ H1 D I1 q1
def tNever:TS:=fun _ _ _=>False
end
abbrev TG:=V->St->Hp->(St->Hp->Prop)->Prop
abbrev TGs:=List V->St->Hp->(St->Hp->Prop)->Prop
def PG (X:Cx) (target:Expr) (t:TG):Prop:=
 ∀(pins:List (Addr×Obj)) (s:Shared) (σ:St) (H:Hp) (v:V) (u:Value) (Q:St->Hp->Prop),Inv X pins σ H s->RelV v u->t v σ H Q->
  wpAny (model X.prog X.w) X.A (assign target X.env u) (fun _ s'=>∃σ' H',Inv X pins σ' H' s'/\Q σ' H') X.xe s
abbrev TSet:=V->V->V->Hp->(Hp->Prop)->Prop
def PSet (X:Cx) (t:TSet):Prop:=
 ∀(pins:List (Addr×Obj)) (s:Shared) (σ:St) (H:Hp) (o i v:V) (ov iv u:Value) (Q:Hp->Prop),Inv X pins σ H s->RelV o ov->RelV i iv->RelV v u->t o i v H Q->
  wpAny (model X.prog X.w) X.A (setItem ov iv u) (fun _ s'=>∃H',Inv X pins σ H' s'/\Q H') X.xe s
abbrev TIp:=V->V->Hp->VK->Prop
def PIp (X:Cx) (op:Operator) (t:TIp):Prop:=
 ∀(pins:List (Addr×Obj)) (s:Shared) (σ:St) (H:Hp) (x y:V) (v u:Value) (Q:VK),Inv X pins σ H s->RelV x v->RelV y u->t x y H Q->
  wpAny (model X.prog X.w) X.A (inplaceOp op v u) (EP X pins σ Q) X.xe s
section
variable {X:Cx} {pos:Pos}
def gName (i:Nat):TG:=fun v σ H Q=>Q (σ.set i (some v)) H
theorem pg_name {i:Nat} {x:Str} (hN:X.N.Nodup) (hi:X.N[i]? = some x) (hx:Loc X.env.scope x) (hf:X.fn x=true\/X.env.scope.names.lookup x=some .local:=by first | exact .inl rfl | exact .inr rfl | assumption):PG X (.Name x pos) (gName i):=by
 intro pins s σ H v u Q I r h
 exact wpAny_assign_Name (store_ok I hN hi hx r (fun s' I'=>⟨_,H,I',h⟩) hf)
def gNil:TGs:=fun vs σ H Q=>vs=[]/\Q σ H
def gCons (t:TG) (u:TGs):TGs:=fun vs σ H Q=>∃v r,vs=v::r/\t v σ H fun σ' H'=>u r σ' H' Q
def gTup (K:PySem.W.Frag) (n:Nat) (t:TGs):TG:=fun v σ H Q=>∃a xs,v=.ref a/\SqT K H a xs/\xs.length=n/\t xs σ H Q
def gSub (to ti:TE) (t:TSet):TG:=fun v σ H Q=>to σ H fun o H1=>ti σ H1 fun i H2=>t o i v H2 fun H3=>Q σ H3
theorem pg_sub {o i:Expr} {to ti:TE} {t:TSet} (ho:PE X o to) (hi:PE X i ti) (hs:PSet X t)
  (ha:∀v,assign (.Subscript o i pos) X.env v=(do
   let ov <-holding [v] (eval o X.env)
   let iv <-holding [v,ov] (eval i X.env)
   standAt pos
   holding [v,ov,iv] (setItem ov iv v)
   release [v,ov,iv] []):=by intro _;rfl):PG X (.Subscript o i pos) (gSub to ti t):=by
 intro pins s σ H v u Q I r h
 rw [ha]
 refine wpAny_bind (wpAny_holding (thn (ho pins s σ H _ I h) fun ov s1 ⟨x,H1,I1,r1,q1⟩=>?_))
 refine wpAny_bind (wpAny_holding (thn (hi pins s1 σ H1 _ I1 q1) fun iv s2 ⟨y,H2,I2,r2,q2⟩=>?_))
 refine wpAny_bind (wpAny_standAt (wpAny_bind (wpAny_holding (thn (hs pins s2 σ H2 x y v ov iv u _ I2 r1 r2 r q2) fun _ s3 ⟨H3,I3,q3⟩=>?_))))
 exact wpAny_release ⟨σ,H3,I3,q3⟩
def tAsg (te:TE) (g:TG):TS:=fun D σ H=>te σ H fun x H1=>g x σ H1 D.nx
theorem ps_asg {tg e:Expr} {te:TE} {g:TG} (he:PE X e te) (hg:PG X tg g) (hs:swapsWithSole [tg] e pos.line X.env=pure false:=by rfl) (hw:swappedStores [tg] e X.env=pure none:=by rfl)
  (h1:(assignEach [tg] X.env).map (·.2)=[assign tg X.env]:=by rfl):PS X (.Assign [tg] e pos) (tAsg te g):=by
 intro pins s σ H D I h
 refine wpAny_Assign_stores (thn (he pins s σ H _ I h) fun v s1 ⟨x,H1,I1,r1,q1⟩=>?_) hs hw
 rw [h1]
 exact thn (hg pins s1 σ H1 x v _ I1 r1 q1) fun _ s2 q=>q
theorem ps_set {i:Nat} {x:Str} {e:Expr} {te:TE} {pos':Pos} (hN:X.N.Nodup) (hi:X.N[i]? = some x) (hx:Loc X.env.scope x) (he:PE X e te) (hs:swapsWith e (some (.Name x pos')) pos.line X.env=pure false:=by rfl) (hf:X.fn x=true\/X.env.scope.names.lookup x=some .local:=by first | exact .inl rfl | exact .inr rfl | assumption) :
  PS X (.Assign [.Name x pos'] e pos) (tAsg te (gName i)):=by
 intro pins s σ H D I h
 refine wpAny_Assign_Name (thn (he pins s σ H _ I h) fun v s1 ⟨y,H1,I1,r1,q1⟩=>?_) hs
 exact store_ok I1 hN hi hx r1 (fun s2 I2=>⟨_,H1,I2,q1⟩) hf
def tPar (i j:Nat) (ta:TA):TS:=fun D σ H=>ta σ H fun vs H1=>∃v w,vs=[v,w]/\D.nx ((σ.set i (some v)).set j (some w)) H1
def tAug (i:Nat) (te:TE) (ti:TIp):TS:=fun D σ H=>∃x,σ[i]? = some (some x)/\te σ H fun y H1=>ti x y H1 fun z H2=>D.nx (σ.set i (some z)) H2
theorem ps_aug {i:Nat} {x:Str} {e:Expr} {te:TE} {op:Operator} {ti:TIp} {pos':Pos} (hN:X.N.Nodup) (hi:X.N[i]? = some x) (hx:Loc X.env.scope x) (he:PE X e te) (ho:PIp X op ti) (hf:X.fn x=true\/X.env.scope.names.lookup x=some .local:=by first | exact .inl rfl | exact .inr rfl | assumption) :
  PS X (.AugAssign (.Name x pos') op e pos) (tAug i te ti):=by
 intro pins s σ H D I h
 obtain ⟨v,e1,h⟩:=h
 obtain ⟨m,hn,hl⟩:=I.loc
 have vis:Vis X.env.scope x:=by rcases hx with k | k;exact .inl k;exact .inr (.inl k)
 obtain ⟨u,r,l⟩:=hl i x v hi e1 vis
 refine wpAny_AugAssign_Name ?_
 have go:wpAny (model X.prog X.w) X.A (eval e X.env) (fun w s₂=>wpAny (model X.prog X.w) X.A (inplaceOp op u w) (fun r s₃=>wpAny (model X.prog X.w) X.A (storeName X.env x r) (fun _=>SP X pins D .next) X.xe s₃) X.xe s₂) X.xe s:=by
  refine thn (he pins s σ H _ I h) fun w s1 ⟨y,H1,I1,r1,q1⟩=>?_
  refine thn (ho pins s1 σ H1 v y u w _ I1 r r1 q1) fun z s2 ⟨zv,H2,I2,r2,q2⟩=>?_
  exact store_ok I2 hN hi hx r2 (fun s3 I3=>⟨_,H2,I3,q2⟩) hf
 rcases l with ⟨hk,hm⟩ | ⟨hk,c,hc,hcell⟩
 ·exact wpAny_loadName_local I.ok.kind hk hn hm go
 ·rcases hk with hk | hk
  ·exact wpAny_loadName_cell I.ok.kind hk hc hcell go
  ·rcases hx with k | k
   ·have:X.env.scope.names.lookup x=some .free:=hk
    rw [k] at this;cases this
   ·have:X.env.scope.names.lookup x=some .free:=hk
    rw [k] at this;cases this
def tAugS (to ti te:TE) (tget:V->V->Hp->VK->Prop) (tip:TIp) (tset:TSet):TS:=fun D σ H=>to σ H fun o H1=>ti σ H1 fun i H2=>tget o i H2 fun x H3=>te σ H3 fun y H4=>tip x y H4 fun z H5=>tset o i z H5 fun H6=>D.nx σ H6
def PGet (X:Cx) (t:V->V->Hp->VK->Prop):Prop:=
 ∀(pins:List (Addr×Obj)) (s:Shared) (σ:St) (H:Hp) (o i:V) (ov iv:Value) (Q:VK),Inv X pins σ H s->RelV o ov->RelV i iv->t o i H Q->
  wpAny (model X.prog X.w) X.A (getItem ov iv) (EP X pins σ Q) X.xe s
theorem ps_augS {o i e:Expr} {to ti te:TE} {tget:V->V->Hp->VK->Prop} {tip:TIp} {tset:TSet} {op:Operator} {tpos:Pos} (ho:PE X o to) (hi:PE X i ti) (hg:PGet X tget) (he:PE X e te) (hp:PIp X op tip) (hs:PSet X tset)
  (ha:∀ov iv new,augStore i ov iv new=(do holding [new,ov,iv] (setItem ov iv new);release [new,ov,iv] [];pure .next):=by intros;rfl):PS X (.AugAssign (.Subscript o i tpos) op e pos) (tAugS to ti te tget tip tset):=by
 intro pins s σ H D I h
 refine wpAny_AugAssign_SubscriptAny (thn (ho pins s σ H _ I h) fun ov s1 ⟨x1,H1,I1,r1,q1⟩=>?_) ha
 refine thn (hi pins s1 σ H1 _ I1 q1) fun iv s2 ⟨x2,H2,I2,r2,q2⟩=>?_
 refine thn (hg pins s2 σ H2 x1 x2 ov iv _ I2 r1 r2 q2) fun old s3 ⟨x3,H3,I3,r3,q3⟩=>?_
 refine thn (he pins s3 σ H3 _ I3 q3) fun v s4 ⟨x4,H4,I4,r4,q4⟩=>?_
 refine thn (hp pins s4 σ H4 x3 x4 old v _ I4 r3 r4 q4) fun new s5 ⟨x5,H5,I5,r5,q5⟩=>?_
 exact thn (hs pins s5 σ H5 x1 x2 x5 ov iv new _ I5 r1 r2 r5 q5) fun _ s6 ⟨H6,I6,q6⟩=>⟨σ,H6,I6,q6⟩
def ipI (f:Int->Int->Int):TIp:=fun x y H Q=>∃i j,x=.int i/\y=.int j/\Q (.int (f i j)) H
theorem ip_add:PIp X .Add (ipI fun i j=>i+j):=by
 intro pins s σ H x y v u Q I r1 r2 h
 obtain ⟨i,j,e1,e2,q⟩:=h
 subst e1;subst e2
 obtain ⟨t,rfl⟩:=r1
 obtain ⟨t',rfl⟩:=r2
 exact iadd_int ⟨.int _,H,I.tok _,⟨_,rfl⟩,q⟩
theorem ip_sub:PIp X .Sub (ipI fun i j=>i - j):=by
 intro pins s σ H x y v u Q I r1 r2 h
 obtain ⟨i,j,e1,e2,q⟩:=h
 subst e1;subst e2
 obtain ⟨t,rfl⟩:=r1
 obtain ⟨t',rfl⟩:=r2
 exact isub_int ⟨.int _,H,I.tok _,⟨_,rfl⟩,q⟩
end
section
variable {X:Cx} {pos:Pos}
def tWhile (c:TT) (tb:TS):TS:=fun D σ H=>∃W:Nat->St->Hp->Prop,(∃m,W m σ H)/\∀m σ H,W m σ H->
 c σ H fun b H1=>if b=true then ∃N:St->Hp->Prop,(∀σ' H',N σ' H'->∃m',m' < m/\W m' σ' H')/\tb { D with nx:=N,ct:=N,bk:=D.nx } σ H1 else D.nx σ H1
theorem ps_while {c:Expr} {body:List Stmt} {tc:TT} {tb:TS} (hp:PassesOwn (model X.prog X.w) X.A X.env X.xe) (hc:PT X c tc) (hb:PSs X body tb):PS X (.While c body [] pos) (tWhile tc tb):=by
 intro pins s σ H D I h
 obtain ⟨W,⟨m0,w0⟩,turn⟩:=h
 refine wpAny_While (codeAny_whileLoop (fun n s'=>∃σ' H',Inv X pins σ' H' s'/\W n σ' H') ?_ m0 ⟨σ,H,I,w0⟩)
 rintro n s1 ⟨σ1,H1,I1,w1⟩
 refine wpAny_passesOwn hp (thn (hc pins s1 σ1 H1 _ I1 (turn n σ1 H1 w1)) fun b s2 ⟨H2,I2,q2⟩=>?_)
 cases b with
 | true=>
  obtain ⟨N,hN,q2⟩:=q2
  rw [if_pos rfl]
  refine wpAny_passesOwn hp (thn (hb pins s2 σ1 H2 _ I2 q2) fun f s3 q3=>?_)
  cases f with
  | next=>
   obtain ⟨σ3,H3,I3,n3⟩:=q3
   obtain ⟨m',hm,w3⟩:=hN σ3 H3 n3
   exact ⟨m',hm,σ3,H3,I3,w3⟩
  | cont=>
   obtain ⟨σ3,H3,I3,n3⟩:=q3
   obtain ⟨m',hm,w3⟩:=hN σ3 H3 n3
   exact ⟨m',hm,σ3,H3,I3,w3⟩
  | brk=>exact q3
  | ret v=>exact q3
 | false=>
  rw [if_neg Bool.false_ne_true]
  exact wpAny_execs_nil ⟨σ1,H2,I2,q2⟩
end
structure It where
 go:Nat->Hp->Prop
 yld:Nat->Hp->V->Hp->Prop
 stop:Nat->Hp->Prop
def FpOk (X:Cx) (pins:List (Addr×Obj)) (H:Hp) (b:Addr):Prop:=
 H b=none/\b≠X.env.locals/\b∉X.fs/\(b∈X.ex\/X.s₀.heap.objs.size<=b)/\(∀x c,X.env.cells.lookup x=some c->c≠b)/\∀p∈X.pn++pins,p.1≠b
theorem Inv.fpOk {X:Cx} {pins:List (Addr×Obj)} {σ:St} {H H':Hp} {s:Shared} {b:Addr} (I:Inv X pins σ H s) (hb:s.heap.objs.size<=b) (hn:H' b=none):FpOk X pins H' b:=by
 refine ⟨hn,Nat.ne_of_gt (Nat.lt_of_lt_of_le I.lt hb),I.nofs hb,.inr (Nat.le_trans I.sz hb),fun x c e z=>?_,fun p hp z=>?_⟩
 ·obtain ⟨v,q⟩:=I.cell x c e
  exact absurd (Nat.lt_of_lt_of_le q.lt (by rw [z];exact hb)) (Nat.lt_irrefl _)
 ·exact absurd (Nat.lt_of_lt_of_le (Heap.lt_size (I.pin p hp).1) (by rw [z];exact hb)) (Nat.lt_irrefl _)
structure Turn (P:Program) (w:World) (K:PySem.W.Frag) (tg:Expr) (J:It) (fp:List Addr) (it:Addr) (tn:Nat->Heap->Prop):Prop where
 mem:it∈fp
 obj:∀i h,tn i h->∀b∈fp,∃o,h.get? b=some o/\∀v,o.data≠.cell v
 keep:∀i h h',tn i h->(∀b∈fp,∀o,h.get? b=some o->h'.get? b=some o)->tn i h'
 item:∀(X:Cx),X.prog=P->X.w=w->X.K=K->X.calm=true->∀(i:Nat) (pins:List (Addr×Obj)) (s:Shared) (σ:St) (H:Hp) (E:Value->Shared->Prop),Inv X pins σ H s->(∀b∈fp,FpOk X pins H b)->tn i s.heap->J.go i H->
  wpAny (model P w) X.A (pyNext (.ref it)) (fun r s1=>∃u,r=some u/\
   wpAny (model P w) X.A (letOwnedTupleGo tg (.ref it) u) (fun _ s2=>∃x H',Inv X pins σ H' s2/\RelV x u/\J.yld i H x H'/\tn (i+1) s2.heap/\∀b∈fp,H' b=none) E s1) E s
 done:∀(X:Cx),X.prog=P->X.w=w->X.K=K->X.calm=true->∀(i:Nat) (pins:List (Addr×Obj)) (s:Shared) (σ:St) (H:Hp) (E:Value->Shared->Prop),Inv X pins σ H s->(∀b∈fp,FpOk X pins H b)->tn i s.heap->J.stop i H->
  wpAny (model P w) X.A (pyNext (.ref it)) (fun r s1=>r=none/\Inv X pins σ H s1) E s
 self:∀(A:Around) (i:Nat) (s:Shared) (Q:Value->Shared->Prop) (E:Value->Shared->Prop),tn i s.heap->Q (.ref it) s->wpAny (model P w) A (pyIter (.ref it)) Q E s
abbrev TI:=St->Hp->(It->Hp->Prop)->Prop
def PIE (X:Cx) (pins:List (Addr×Obj)) (σ:St) (tg:Expr) (R:It->Hp->Prop) (itv:Value) (s2:Shared):Prop:=
 ∃(it:Addr) (fp:List Addr) (tn:Nat->Heap->Prop) (J:It) (H':Hp),itv=.ref it/\Inv X pins σ H' s2/\Turn X.prog X.w X.K tg J fp it tn/\tn 0 s2.heap/\(∀b∈fp,FpOk X pins H' b)/\R J H'
def PI (X:Cx) (tg iter:Expr) (wi:TI):Prop:=
 ∀(pins:List (Addr×Obj)) (s:Shared) (σ:St) (H:Hp) (R:It->Hp->Prop),Inv X pins σ H s->wi σ H R->
  wpAny (model X.prog X.w) X.A (eval iter X.env) (fun v s1=>wpAny (model X.prog X.w) X.A (pyIter v) (PIE X pins σ tg R) X.xe s1) X.xe s
theorem go_of {M : Model} {A : Around} {E : Value → Shared → Prop} {s : Shared} {tg : Expr} {it : Addr} {u : Value} {o : Obj} {n : String} {vs : Array Value} {Q : Unit → Shared → Prop} (ho : s.heap.get? it = some o) (hc : o.cls = .type n) (hd : o.data = .fields vs)
    (hn : ["enumerate", "zip", "dict_itemiterator", "dict_reverseitemiterator", "odict_iterator", "itertools.zip_longest", "itertools.pairwise"].contains n = false) (hQ : Q () s) : wpAny M A (letOwnedTupleGo tg (.ref it) u) Q E s := by
  unfold letOwnedTupleGo
  cases tg <;> first
    | exact wpAny_pure hQ
    | (cases u <;> first
        | exact wpAny_pure hQ
        | (refine wpAny_bind (wpAny_load ho ?_)
           rw [hc, hd]
           show wpAny M A (if (["enumerate", "zip", "dict_itemiterator", "dict_reverseitemiterator", "odict_iterator", "itertools.zip_longest", "itertools.pairwise"].contains n && vs[0]? == some (rawInt _)) = true then _ else _) Q E s
           rw [if_neg (by intro h; rw [hn, Bool.false_and] at h; cases h)]
           exact wpAny_pure hQ))
def Itl (K:PySem.W.Frag) (a:Addr):It:=
 ⟨fun i H=>∃xs x,SqL K H a xs/\xs[i]? = some x,fun i H x H'=>H'=H/\∀xs,SqL K H a xs->xs[i]? = some x,fun i H=>∃xs,SqL K H a xs/\xs.length<=i⟩
def Itt (K:PySem.W.Frag) (a:Addr):It:=
 ⟨fun i H=>∃xs x,SqT K H a xs/\xs[i]? = some x,fun i H x H'=>H'=H/\∀xs,SqT K H a xs->xs[i]? = some x,fun i H=>∃xs,SqT K H a xs/\xs.length<=i⟩
def Itr (lo:Int) (n:Nat):It:=⟨fun i _=>i < n,fun i H x H'=>H'=H/\x=.int (lo+i),fun i _=>n<=i⟩
theorem turn_list {P:Program} {w:World} {K:PySem.W.Frag} {tg:Expr} (a it:Addr):Turn P w K tg (Itl K a) [it] it (fun i h=>h.IsListIter it a i) where
 mem:=by simp
 obj:=fun i h st b hb=>by
  have e:b=it:=by simpa using hb
  subst e
  obtain ⟨o,e,c,d⟩:=st
  exact ⟨o,e,fun v z=>by rw [d] at z;cases z⟩
 keep:=fun i h h' st k=>st.at fun o e=>k it (by simp) o e
 item:=by
  intro X hP hw hK hc i pins s σ H E I hf st hg
  subst hP hw hK
  obtain ⟨xs,x,hq,hx⟩:=hg
  obtain ⟨its,rv,p,hz⟩:=I.list hq
  obtain ⟨u,hu,ru⟩:=rv.get hx
  obtain ⟨f0,f1,f2,f3,f4,f5⟩:=hf it (by simp)
  refine wpAny_pyNext_list_item st p.isList (x:=u) (by simpa using hu) fun h' st' sb=>?_
  have I1:Inv X pins σ H { s with heap:=h' }:=I.turned (t':=s.toks) (fun b o hb e=>(sb.2 b hb).trans e) f0 f1 f3 f4 f5
  obtain ⟨o,e,c,d⟩:=id st'
  exact ⟨u,rfl,go_of (s:={ s with heap:=h' }) e c d (by decide) ⟨x,H,I1,ru,⟨rfl,fun ys hy=>by rw [I.list_inj hy hq];exact hx⟩,st',fun b hb=>(hf b hb).1⟩⟩
 done:=by
  intro X hP hw hK hc i pins s σ H E I hf st hg
  subst hP hw hK
  obtain ⟨xs,hq,hx⟩:=hg
  obtain ⟨its,rv,p,hz⟩:=I.list hq
  obtain ⟨f0,f1,f2,f3,f4,f5⟩:=hf it (by simp)
  have hl:=rv.length
  exact wpAny_pyNext_list_end (I.ok.hd hc) st p.isList (by simp;lia) fun h' eb=>⟨rfl,I.turned (t':=s.toks) (fun b o hb e=>eb b o hb e) f0 f1 f3 f4 f5⟩
 self:=fun _ _ _ _ _ st h=>wpAny_pyIter_listiter st h
theorem turn_tuple {P:Program} {w:World} {K:PySem.W.Frag} {tg:Expr} (a it:Addr):Turn P w K tg (Itt K a) [it] it (fun i h=>h.IsTupleIter it a i) where
 mem:=by simp
 obj:=fun i h st b hb=>by
  have e:b=it:=by simpa using hb
  subst e
  obtain ⟨o,e,c,d⟩:=st
  exact ⟨o,e,fun v z=>by rw [d] at z;cases z⟩
 keep:=fun i h h' st k=>st.at fun o e=>k it (by simp) o e
 item:=by
  intro X hP hw hK hc i pins s σ H E I hf st hg
  subst hP hw hK
  obtain ⟨xs,x,hq,hx⟩:=hg
  obtain ⟨its,rv,p,hz⟩:=I.tuple hq
  obtain ⟨u,hu,ru⟩:=rv.get hx
  obtain ⟨f0,f1,f2,f3,f4,f5⟩:=hf it (by simp)
  refine wpAny_pyNext_tuple_item st (show s.heap.IsTuple a its.toArray from p) (x:=u) (by simpa using hu) fun h' st' sb=>?_
  have I1:Inv X pins σ H { s with heap:=h' }:=I.turned (t':=s.toks) (fun b o hb e=>(sb.2 b hb).trans e) f0 f1 f3 f4 f5
  obtain ⟨o,e,c,d⟩:=id st'
  exact ⟨u,rfl,go_of (s:={ s with heap:=h' }) e c d (by decide) ⟨x,H,I1,ru,⟨rfl,fun ys hy=>by rw [I.tuple_inj hy hq];exact hx⟩,st',fun b hb=>(hf b hb).1⟩⟩
 done:=by
  intro X hP hw hK hc i pins s σ H E I hf st hg
  subst hP hw hK
  obtain ⟨xs,hq,hx⟩:=hg
  obtain ⟨its,rv,p,hz⟩:=I.tuple hq
  obtain ⟨f0,f1,f2,f3,f4,f5⟩:=hf it (by simp)
  have hl:=rv.length
  exact wpAny_pyNext_tuple_end (I.ok.hd hc) st (show s.heap.IsTuple a its.toArray from p) (by simp;lia) fun h' eb=>⟨rfl,I.turned (t':=s.toks) (fun b o hb e=>eb b o hb e) f0 f1 f3 f4 f5⟩
 self:=fun _ _ _ _ _ st h=>wpAny_pyIter_tupleiter st h
theorem turn_range {P:Program} {w:World} {K:PySem.W.Frag} {tg:Expr} (it:Addr) (lo:Int) (n:Nat):Turn P w K tg (Itr lo n) [it] it (fun i h=>IsRangeIter h it (lo+(i:Nat) * 1) ((n:Int) - (i:Nat)) 1) where
 mem:=by simp
 obj:=fun i h st b hb=>by
  have e:b=it:=by simpa using hb
  subst e
  exact ⟨_,st,fun v z=>by
   have z':Data.fields _=Data.cell v:=z
   cases z'⟩
 keep:=fun i h h' st k=>k it (by simp) _ st
 item:=by
  intro X hP hw hK hc i pins s σ H E I hf st hg
  subst hP hw hK
  obtain ⟨f0,f1,f2,f3,f4,f5⟩:=hf it (by simp)
  have W:=Walks.range (prog:=X.prog) (w:=X.w) (I.ok.hd hc) it lo 1 n
  refine W.item i s _ _ hg st fun v h' tk hv st' kk=>?_
  obtain ⟨t,rfl⟩:=hv
  have I1:Inv X pins σ H { s with heap:=h',toks:=tk }:=I.turned (fun b o hb e=>kk b o (by simpa using hb) e) f0 f1 f3 f4 f5
  refine ⟨_,rfl,go_of (s:={ s with heap:=h',toks:=tk }) (n:="range_iterator") st' rfl rfl (by decide) ⟨.int (lo+i),H,I1,⟨t,?_⟩,⟨rfl,rfl⟩,st',fun b hb=>(hf b hb).1⟩⟩
  rw [Int.mul_one]
 done:=by
  intro X hP hw hK hc i pins s σ H E I hf st hg
  subst hP hw hK
  obtain ⟨f0,f1,f2,f3,f4,f5⟩:=hf it (by simp)
  exact wpAny_pyNext_range_end (I.ok.hd hc) st (by have:n<=i:=hg;lia) fun h' eb=>⟨rfl,I.turned (t':=s.toks) (fun b o hb e=>eb b o hb e) f0 f1 f3 f4 f5⟩
 self:=fun _ _ _ _ _ st h=>wpAny_pyIter_rangeiter st h
end L2
namespace L2
open PySem PySem.Spec PyProof.Rows
section
variable {X:Cx} {tg:Expr}
def iList (K:PySem.W.Frag) (tl:TE):TI:=fun σ H R=>tl σ H fun x H1=>∃a,x=.ref a/\(∃xs,SqL K H1 a xs)/\R (Itl K a) H1
def iTup (K:PySem.W.Frag) (tl:TE):TI:=fun σ H R=>tl σ H fun x H1=>∃a,x=.ref a/\(∃xs,SqT K H1 a xs)/\R (Itt K a) H1
theorem pi_list {l:Expr} {tl:TE} (hl:PE X l tl):PI X tg l (iList X.K tl):=by
 intro pins s σ H R I h
 refine thn (hl pins s σ H _ I h) fun v s1 ⟨x,H1,I1,r1,q1⟩=>?_
 obtain ⟨a,e,⟨xs,hq⟩,q⟩:=q1
 subst e
 cases r1
 obtain ⟨its,rv,p,hz⟩:=I1.list hq
 refine wpAny_pyIter_list p.isList ?_
 refine ⟨s1.heap.objs.size,[s1.heap.objs.size],_,_,H1,rfl,I1.kept (t':=s1.toks) fun b o e=>Heap.get?_push_of_some _ e,turn_list a _,⟨_,Heap.get?_push_size _ rfl,rfl,rfl⟩,fun b hb=>?_,q⟩
 have e:b=s1.heap.objs.size:=by simpa using hb
 subst e
 exact I1.fpOk (Nat.le_refl _) (I1.hok.fresh (Nat.le_refl _))
theorem pi_tup {l:Expr} {tl:TE} (hl:PE X l tl):PI X tg l (iTup X.K tl):=by
 intro pins s σ H R I h
 refine thn (hl pins s σ H _ I h) fun v s1 ⟨x,H1,I1,r1,q1⟩=>?_
 obtain ⟨a,e,⟨xs,hq⟩,q⟩:=q1
 subst e
 cases r1
 obtain ⟨its,rv,p,hz⟩:=I1.tuple hq
 refine wpAny_pyIter_tuple (show s1.heap.IsTuple a its.toArray from p) ?_
 refine ⟨s1.heap.objs.size,[s1.heap.objs.size],_,_,H1,rfl,I1.kept (t':=s1.toks) fun b o e=>Heap.get?_push_of_some _ e,turn_tuple a _,⟨_,Heap.get?_push_size _ rfl,rfl,rfl⟩,fun b hb=>?_,q⟩
 have e:b=s1.heap.objs.size:=by simpa using hb
 subst e
 exact I1.fpOk (Nat.le_refl _) (I1.hok.fresh (Nat.le_refl _))
theorem range_it {pins:List (Addr×Obj)} {σ:St} {H:Hp} {s:Shared} {R:It->Hp->Prop} {E:Value->Shared->Prop} {lo hi:Int} {t u v:Tok} {tk:Nat} (I:Inv X pins σ H s) (h1 : -(2 ^ 62)<=lo) (h2:lo < 2 ^ 62) (h3 : -(2 ^ 62)<=hi) (h4:hi < 2 ^ 62)
  (q:R (Itr lo (hi - lo).toNat) H):wpAny (model X.prog X.w) X.A (pyIter (.ref s.heap.objs.size)) (PIE X pins σ tg R) E { s with heap:=s.heap.push { cls:=.type "range",data:=.fields #[.int lo t,.int hi u,.int 1 v] },toks:=tk }:=by
 refine wpAny_pyIter_range (IsRange.new ..) (small_one h1 h2 h3 h4) ?_
 have I1:Inv X pins σ H { s with heap:=s.heap.push { cls:=.type "range",data:=.fields #[.int lo t,.int hi u,.int 1 v] },toks:=tk }:=I.kept fun b o e=>Heap.get?_push_of_some _ e
 refine ⟨(s.heap.push { cls:=.type "range",data:=.fields #[.int lo t,.int hi u,.int 1 v] }).objs.size,[(s.heap.push { cls:=.type "range",data:=.fields #[.int lo t,.int hi u,.int 1 v] }).objs.size],_,_,H,rfl,
  I1.kept (t':=tk) fun b o e=>Heap.get?_push_of_some _ e,turn_range _ lo (hi - lo).toNat,?_,fun b hb=>?_,q⟩
 ·have e1:lo+((0:Nat):Int) * 1=lo:=by simp
  have e2:(((hi - lo).toNat:Nat):Int) - ((0:Nat):Int)=Builtin.Range.rangeSize lo hi 1:=by rw [rangeSize_one];split <;> lia
  show IsRangeIter _ _ (lo+((0:Nat):Int) * 1) ((((hi - lo).toNat:Nat):Int) - ((0:Nat):Int)) 1
  rw [e1,e2]
  exact Heap.get?_push_size _ rfl
 ·have e:b=(s.heap.push { cls:=.type "range",data:=.fields #[.int lo t,.int hi u,.int 1 v] }).objs.size:=by simpa using hb
  subst e
  exact I1.fpOk (Nat.le_refl _) (I1.hok.fresh (Nat.le_refl _))
def iRng1 (ta:TA):TI:=fun σ H R=>ta σ H fun vs H1=>∃j:Int,vs=[.int j]/\-(2 ^ 62)<=j/\j < 2 ^ 62/\R (Itr 0 j.toNat) H1
def iRng2 (ta:TA):TI:=fun σ H R=>ta σ H fun vs H1=>∃i j:Int,vs=[.int i,.int j]/\(-(2 ^ 62)<=i/\i < 2 ^ 62/\-(2 ^ 62)<=j/\j < 2 ^ 62)/\R (Itr i (j - i).toNat) H1
theorem pi_range1 {a:Expr} {ta:TA} {p pos:Pos} (hg:Gl X "range") (hm:X.mg "range" = none) (ha:PA X [a] ta) (hs:starEach [a] X.env=[(false,eval a X.env)]:=by rfl):PI X tg (.Call (.Name "range" p) [a] [] pos) (iRng1 ta):=by
 intro pins s σ H R I h
 refine Call_ (ld_blt I hg hm boot_range (PyProof.Rows.callWith_type1 (thn (ha pos pins s σ H _ I h) fun us s1 ⟨vs,H1,I1,r1,q1⟩=>?_) hs rfl))
 obtain ⟨j,e,q1,q2,q⟩:=q1
 subst e
 cases r1 with
 | cons r rr=>
  cases rr
  obtain ⟨t,rfl⟩:=r
  exact call_range_1 (range_it I1 (by lia) (by lia) q1 q2 (by simpa using q))
def tFor (wi:TI) (g:TG) (tb:TS):TS:=fun D σ H=>wi σ H fun J H1=>∃W:Nat->Nat->St->Hp->Prop,(∃m,W 0 m σ H1)/\∀i m σ H,W i m σ H->
 (J.stop i H/\D.nx σ H)\/(J.go i H/\∃N:St->Hp->Prop,(∀σ' H',N σ' H'->∃m',m' < m/\W (i+1) m' σ' H')/\∀x H',J.yld i H x H'->g x σ H' fun σ2 H2=>tb { D with nx:=N,ct:=N,bk:=D.nx } σ2 H2)
def pinsAt (fp:List Addr) (h:Heap):List (Addr×Obj):=fp.filterMap fun b=>(h.get? b).map fun o=>(b,o)
theorem mem_pinsAt {fp:List Addr} {h:Heap} {b:Addr} {o:Obj} (hb:b∈fp) (e:h.get? b=some o):(b,o)∈pinsAt fp h:=List.mem_filterMap.mpr ⟨b,hb,by rw [e];rfl⟩
theorem of_pinsAt {fp:List Addr} {h:Heap} {p:Addr×Obj} (hp:p∈pinsAt fp h):p.1∈fp/\h.get? p.1=some p.2:=by
 obtain ⟨b,hb,e⟩:=List.mem_filterMap.mp hp
 cases q:h.get? b with
 | none=>rw [q] at e;cases e
 | some o=>
  rw [q] at e
  have e':(b,o)=p:=Option.some.inj e
  subst e'
  exact ⟨hb,q⟩
theorem Inv.pinned {pins:List (Addr×Obj)} {σ:St} {H:Hp} {s:Shared} {fp:List Addr} (I:Inv X pins σ H s) (hf:∀b∈fp,FpOk X pins H b) (ho:∀b∈fp,∃o,s.heap.get? b=some o/\∀v,o.data≠.cell v):Inv X (pins++pinsAt fp s.heap) σ H s:=
 I.pins_of fun p hp=>(List.mem_append.mp hp).elim (fun z=>I.pin p (List.mem_append_right _ z)) fun z=>by
  obtain ⟨hb,e⟩:=of_pinsAt z
  obtain ⟨f0,f1,f2,_⟩:=hf p.1 hb
  obtain ⟨o,e',d⟩:=ho p.1 hb
  rw [e] at e';cases e'
  exact ⟨e,f0,f1,f2,d⟩
theorem Inv.unpinned {pins pl:List (Addr×Obj)} {σ:St} {H:Hp} {s:Shared} (I:Inv X (pins++pl) σ H s):Inv X pins σ H s:=I.pins_of fun p hp=>I.pin p (List.mem_append_right _ (List.mem_append_left _ hp))
theorem ps_for {iter:Expr} {body:List Stmt} {wi:TI} {g:TG} {tb:TS} {pos:Pos} (hp:PassesOwn (model X.prog X.w) X.A X.env X.xe) (hc:X.calm=true) (hi:PI X tg iter wi) (hg:PG X tg g) (hb:PSs X body tb)
  (hs:∀x,foldedSetIterable iter X.env x=pure x:=by intro _;rfl):PS X (.For tg iter body [] pos) (tFor wi g tb):=by
 intro pins s σ H D I h
 refine wpAny_For (thn (hi pins s σ H _ I h) fun v s1 h1=>thn h1 fun itv s2 h2=>?_) hs
 obtain ⟨it,fp,tn,J,H2,e,I2,T,st2,f2,W,⟨m0,w0⟩,turn⟩:=h2
 subst e
 have stat:∀{H':Hp},(∀b∈fp,H' b=none)->∀b∈fp,FpOk X pins H' b:=fun hn b hb=>⟨hn b hb,(f2 b hb).2⟩
 refine codeAny_forLoop_any (fun n s'=>∃i σ' H',Inv X pins σ' H' s'/\tn i s'.heap/\(∀b∈fp,H' b=none)/\W i n σ' H') ?_ m0 ⟨0,σ,H2,I2,st2,fun b hb=>(f2 b hb).1,w0⟩
 rintro n s3 ⟨i,σ3,H3,I3,st3,fr3,w3⟩
 rcases turn i n σ3 H3 w3 with ⟨stop,qn⟩ | ⟨go,N,hN,step⟩
 ·refine wpAny_passesOwn hp (thn (T.done X rfl rfl rfl hc i pins s3 σ3 H3 X.xe I3 (stat fr3) st3 stop) fun r s4 ⟨hr,I4⟩=>?_)
  subst hr
  exact wpAny_execs_nil ⟨σ3,H3,I4,qn⟩
 ·refine wpAny_passesOwn hp (thn (T.item X rfl rfl rfl hc i pins s3 σ3 H3 X.xe I3 (stat fr3) st3 go) fun r s4 ⟨u,hr,h4⟩=>?_)
  subst hr
  refine wpAny_passesOwn hp (thn h4 fun _ s5 ⟨x,H5,I5,r5,y5,st5,fr5⟩=>?_)
  have I5':=I5.pinned (stat fr5) (T.obj _ _ st5)
  refine wpAny_passesOwn hp (thn (hg _ s5 σ3 H5 x u _ I5' r5 (step x H5 y5)) fun _ s6 ⟨σ6,H6,I6,q6⟩=>?_)
  refine wpAny_passesOwn hp (thn (hb _ s6 σ6 H6 _ I6 q6) fun f s7 q7=>?_)
  have again:∀{σ7:St} {H7:Hp},Inv X (pins++pinsAt fp s5.heap) σ7 H7 s7->N σ7 H7->∃m,m < n/\∃i σ' H',Inv X pins σ' H' s7/\tn i s7.heap/\(∀b∈fp,H' b=none)/\W i m σ' H':=fun {σ7 H7} I7 n7=>by
   obtain ⟨m',hm,w7⟩:=hN σ7 H7 n7
   refine ⟨m',hm,i+1,σ7,H7,I7.unpinned,T.keep _ _ _ st5 fun b hb o e=>(I7.pin (b,o) (List.mem_append_right _ (List.mem_append_right _ (mem_pinsAt hb e)))).1,fun b hb=>?_,w7⟩
   obtain ⟨o,e,d⟩:=T.obj _ _ st5 b hb
   exact (I7.pin (b,o) (List.mem_append_right _ (List.mem_append_right _ (mem_pinsAt hb e)))).2.1
  cases f with
  | next=>obtain ⟨σ7,H7,I7,n7⟩:=q7;exact again I7 n7
  | cont=>obtain ⟨σ7,H7,I7,n7⟩:=q7;exact again I7 n7
  | brk=>obtain ⟨σ7,H7,I7,q7⟩:=q7;exact ⟨σ7,H7,I7.unpinned,q7⟩
  | ret v=>obtain ⟨x7,σ7,H7,I7,r7,q7⟩:=q7;exact ⟨x7,σ7,H7,I7.unpinned,r7,q7⟩
end
theorem for_list {K:PySem.W.Frag} {a:Addr} {xs:List V} {g:TG} {tb:TS} {D:Ends} {σ:St} {H:Hp} (Pv:Nat->St->Hp->Prop) (h0:Pv 0 σ H) (hl:∀i σ H,i<=xs.length->Pv i σ H->SqL K H a xs)
  (hs:∀i x σ H,xs[i]? = some x->Pv i σ H->g x σ H fun σ2 H2=>tb { D with nx:=Pv (i+1),ct:=Pv (i+1),bk:=D.nx } σ2 H2) (hd:∀σ H,Pv xs.length σ H->D.nx σ H) :
  ∃W:Nat->Nat->St->Hp->Prop,(∃m,W 0 m σ H)/\∀i m σ H,W i m σ H->
   ((Itl K a).stop i H/\D.nx σ H)\/((Itl K a).go i H/\∃N:St->Hp->Prop,(∀σ' H',N σ' H'->∃m',m' < m/\W (i+1) m' σ' H')/\∀x H',(Itl K a).yld i H x H'->g x σ H' fun σ2 H2=>tb { D with nx:=N,ct:=N,bk:=D.nx } σ2 H2):=by
 refine ⟨fun i m σ H=>m=xs.length - i/\i<=xs.length/\Pv i σ H,⟨xs.length,by simp,Nat.zero_le _,h0⟩,?_⟩
 rintro i m σ H ⟨rfl,hi,p⟩
 have q:=hl i σ H hi p
 by_cases hlt:i < xs.length
 ·refine .inr ⟨⟨xs,xs[i],q,by simp [hlt]⟩,Pv (i+1),fun σ' H' p'=>⟨xs.length - (i+1),by lia,rfl,hlt,p'⟩,fun x H' y=>?_⟩
  obtain ⟨e,y⟩:=y
  subst e
  exact hs i x σ _ (y xs q) p
 ·have e:i=xs.length:=by lia
  subst e
  exact .inl ⟨⟨xs,q,Nat.le_refl _⟩,hd σ H p⟩
theorem for_tup {K:PySem.W.Frag} {a:Addr} {xs:List V} {g:TG} {tb:TS} {D:Ends} {σ:St} {H:Hp} (Pv:Nat->St->Hp->Prop) (h0:Pv 0 σ H) (hl:∀i σ H,i<=xs.length->Pv i σ H->SqT K H a xs)
  (hs:∀i x σ H,xs[i]? = some x->Pv i σ H->g x σ H fun σ2 H2=>tb { D with nx:=Pv (i+1),ct:=Pv (i+1),bk:=D.nx } σ2 H2) (hd:∀σ H,Pv xs.length σ H->D.nx σ H) :
  ∃W:Nat->Nat->St->Hp->Prop,(∃m,W 0 m σ H)/\∀i m σ H,W i m σ H->
   ((Itt K a).stop i H/\D.nx σ H)\/((Itt K a).go i H/\∃N:St->Hp->Prop,(∀σ' H',N σ' H'->∃m',m' < m/\W (i+1) m' σ' H')/\∀x H',(Itt K a).yld i H x H'->g x σ H' fun σ2 H2=>tb { D with nx:=N,ct:=N,bk:=D.nx } σ2 H2):=by
 refine ⟨fun i m σ H=>m=xs.length - i/\i<=xs.length/\Pv i σ H,⟨xs.length,by simp,Nat.zero_le _,h0⟩,?_⟩
 rintro i m σ H ⟨rfl,hi,p⟩
 have q:=hl i σ H hi p
 by_cases hlt:i < xs.length
 ·refine .inr ⟨⟨xs,xs[i],q,by simp [hlt]⟩,Pv (i+1),fun σ' H' p'=>⟨xs.length - (i+1),by lia,rfl,hlt,p'⟩,fun x H' y=>?_⟩
  obtain ⟨e,y⟩:=y
  subst e
  exact hs i x σ _ (y xs q) p
 ·have e:i=xs.length:=by lia
  subst e
  exact .inl ⟨⟨xs,q,Nat.le_refl _⟩,hd σ H p⟩
theorem for_range {lo:Int} {n:Nat} {g:TG} {tb:TS} {D:Ends} {σ:St} {H:Hp} (Pv:Nat->St->Hp->Prop) (h0:Pv 0 σ H)
  (hs:∀i σ H,i < n->Pv i σ H->g (.int (lo+i)) σ H fun σ2 H2=>tb { D with nx:=Pv (i+1),ct:=Pv (i+1),bk:=D.nx } σ2 H2) (hd:∀σ H,Pv n σ H->D.nx σ H) :
  ∃W:Nat->Nat->St->Hp->Prop,(∃m,W 0 m σ H)/\∀i m σ H,W i m σ H->
   ((Itr lo n).stop i H/\D.nx σ H)\/((Itr lo n).go i H/\∃N:St->Hp->Prop,(∀σ' H',N σ' H'->∃m',m' < m/\W (i+1) m' σ' H')/\∀x H',(Itr lo n).yld i H x H'->g x σ H' fun σ2 H2=>tb { D with nx:=N,ct:=N,bk:=D.nx } σ2 H2):=by
 refine ⟨fun i m σ H=>m=n - i/\i<=n/\Pv i σ H,⟨n,by simp,Nat.zero_le _,h0⟩,?_⟩
 rintro i m σ H ⟨rfl,hi,p⟩
 by_cases hlt:i < n
 ·refine .inr ⟨hlt,Pv (i+1),fun σ' H' p'=>⟨n - (i+1),by lia,rfl,hlt,p'⟩,fun x H' y=>?_⟩
  obtain ⟨e,y⟩:=y
  subst e y
  exact hs i σ _ hlt p
 ·have e:i=n:=by lia
  subst e
  exact .inl ⟨Nat.le_refl _,hd σ H p⟩
end L2
namespace L2
open PySem PySem.Spec PyProof.Rows
abbrev R2:=V->V->Hp->VK->Prop
def OpR (X:Cx) (f:Value->Value->Sem Value) (r:R2):Prop:=
 ∀(pins:List (Addr×Obj)) (s:Shared) (σ:St) (H:Hp) (x y:V) (v u:Value) (Q:VK),Inv X pins σ H s->RelV x v->RelV y u->r x y H Q->
  wpAny (model X.prog X.w) X.A (f v u) (EP X pins σ Q) X.xe s
def CallR (X:Cx) (f:Value) (r:List V->Hp->VK->Prop):Prop:=
 ∀(pins:List (Addr×Obj)) (s:Shared) (σ:St) (H:Hp) (xs:List V) (us:List Value) (Q:VK),Inv X pins σ H s->Vals xs us->r xs H Q->
  wpAny (model X.prog X.w) X.A (call f us) (EP X pins σ Q) X.xe s
def tOp (r:R2) (ta tb:TE):TE:=fun σ H Q=>ta σ H fun x H1=>tb σ H1 fun y H2=>r x y H2 Q
def tUn (r:V->Hp->VK->Prop) (ta:TE):TE:=fun σ H Q=>ta σ H fun x H1=>r x H1 Q
def rI (C:Int->Int->Prop) (g:Int->Int->V):R2:=fun x y H Q=>∃i j,x=.int i/\y=.int j/\C i j/\Q (g i j) H
def rI0 (g:Int->Int->V):R2:=fun x y H Q=>∃i j,x=.int i/\y=.int j/\Q (g i j) H
def rU (g:Int->V):V->Hp->VK->Prop:=fun x H Q=>∃i,x=.int i/\Q (g i) H
section
variable {X:Cx} {a b c:Expr} {ta tb tc:TE} {pos:Pos}
theorem binT (ha:PE X a ta) (hb:PE X b tb) {pins:List (Addr×Obj)} {s:Shared} {σ:St} {H:Hp} {R:V->V->Hp->Prop} (I:Inv X pins σ H s)
  (h:ta σ H fun x H1=>tb σ H1 fun y H2=>R x y H2) {Q:Value->Shared->Prop} {f:Value->Value->Sem Value}
  (hf:∀v u s2 x y H2,Inv X pins σ H2 s2->RelV x v->RelV y u->R x y H2->wpAny (model X.prog X.w) X.A (f v u) Q X.xe s2) :
  wpAny (model X.prog X.w) X.A (eval a X.env) (fun v s₁=>wpAny (model X.prog X.w) X.A (eval b X.env) (fun u s₂=>wpAny (model X.prog X.w) X.A (f v u) Q X.xe s₂) X.xe s₁) X.xe s:=by
 refine thn (ha pins s σ H _ I h) fun v s1 ⟨x,H1,I1,r1,q1⟩=>?_
 refine thn (hb pins s1 σ H1 _ I1 q1) fun u s2 ⟨y,H2,I2,r2,q2⟩=>?_
 exact hf v u s2 x y H2 I2 r1 r2 q2
theorem pe_op {op:Operator} {r:R2} (ho:OpR X (binaryOp op) r) (ha:PE X a ta) (hb:PE X b tb):PE X (.BinOp a op b pos) (tOp r ta tb):=by
 intro pins s σ H Q I h
 exact wpAny_BinOp (binT ha hb I h fun v u s2 x y H2 I2 rx ry q=>ho pins s2 σ H2 x y v u Q I2 rx ry q)
theorem opI {f:Value->Value->Sem Value} {C:Int->Int->Prop} {g:Int->Int->Int}
  (rule:∀(i j:Int) (t u:Tok) (s:Shared) (Q:Value->Shared->Prop) (E:Value->Shared->Prop),C i j->Q (.int (g i j) s.toks) { s with toks:=s.toks+1 }->wpAny (model X.prog X.w) X.A (f (.int i t) (.int j u)) Q E s) :
  OpR X f (rI C fun i j=>.int (g i j)):=by
 intro pins s σ H x y v u Q I rx ry h
 obtain ⟨i,j,rfl,rfl,hc,q⟩:=h
 obtain ⟨t,rfl⟩:=rx
 obtain ⟨t',rfl⟩:=ry
 exact rule i j t t' s _ _ hc ⟨.int (g i j),H,I.tok _,⟨_,rfl⟩,q⟩
theorem opI0 {f:Value->Value->Sem Value} {g:Int->Int->Int}
  (rule:∀(i j:Int) (t u:Tok) (s:Shared) (Q:Value->Shared->Prop) (E:Value->Shared->Prop),Q (.int (g i j) s.toks) { s with toks:=s.toks+1 }->wpAny (model X.prog X.w) X.A (f (.int i t) (.int j u)) Q E s) :
  OpR X f (rI0 fun i j=>.int (g i j)):=by
 intro pins s σ H x y v u Q I rx ry h
 obtain ⟨i,j,rfl,rfl,q⟩:=h
 obtain ⟨t,rfl⟩:=rx
 obtain ⟨t',rfl⟩:=ry
 exact rule i j t t' s _ _ ⟨.int (g i j),H,I.tok _,⟨_,rfl⟩,q⟩
theorem opB0 {f:Value->Value->Sem Value} {g:Int->Int->Bool}
  (rule:∀(i j:Int) (t u:Tok) (s:Shared) (Q:Value->Shared->Prop) (E:Value->Shared->Prop),Q (.bool (g i j)) s->wpAny (model X.prog X.w) X.A (f (.int i t) (.int j u)) Q E s) :
  OpR X f (rI0 fun i j=>.bl (g i j)):=by
 intro pins s σ H x y v u Q I rx ry h
 obtain ⟨i,j,rfl,rfl,q⟩:=h
 obtain ⟨t,rfl⟩:=rx
 obtain ⟨t',rfl⟩:=ry
 exact rule i j t t' s _ _ ⟨.bl (g i j),H,I,rfl,q⟩
def CPow (i j:Int):Prop:=0<=j/\j<=1000000/\i.natAbs < 2 ^ 64
def CMul (i j:Int):Prop:=(-(2 ^ 64) < i/\i < 2 ^ 64)\/(-(2 ^ 64) < j/\j < 2 ^ 64)
theorem CMul.ok {i j:Int} (h:CMul i j):IntMulOk i j:=by
 rcases h with ⟨h1,h2⟩ | ⟨h1,h2⟩
 ·exact .of_left (intBits_le_64 h1 h2)
 ·exact .of_right (intBits_le_64 h1 h2)
theorem op_add:OpR X (binaryOp .Add) (rI0 fun i j=>.int (i+j)):=opI0 fun _ _ _ _ _ _ _ q=>add_int q
theorem op_sub:OpR X (binaryOp .Sub) (rI0 fun i j=>.int (i - j)):=opI0 fun _ _ _ _ _ _ _ q=>sub_int q
theorem op_mul:OpR X (binaryOp .Mult) (rI CMul fun i j=>.int (i * j)):=opI fun _ _ _ _ _ _ _ hc q=>mul_int q hc.ok
theorem op_mod:OpR X (binaryOp .Mod) (rI (fun _ j=>0 < j) fun i j=>.int (i % j)):=opI fun i j _ _ _ _ _ hc q=>by
 have h1:(0:Int) < j:=hc
 exact mod_int' (by lia) (by rw [Int.fmod_eq_emod_of_nonneg i (by lia)];exact q)
theorem op_pow:OpR X (binaryOp .Pow) (rI CPow fun i j=>.int (i ^ j.toNat)):=opI fun _ _ _ _ _ _ _ hc q=>pow_int_small hc.1 hc.2.1 hc.2.2 q
end
def scal:V->V->Bool
 | .non,.non=>true | .non,.int _=>true | .int _,.non=>true | .non,.bl _=>true | .bl _,.non=>true | .non,.str _=>true | .str _,.non=>true
 | .int _,.int _=>true | .bl _,.bl _=>true | .str _,.str _=>true | .byt _,.byt _=>true
 | .int _,.str _=>true | .str _,.int _=>true | .bl _,.str _=>true | .str _,.bl _=>true
 | _,_=>false
def rEq:R2:=fun x y H Q=>scal x y=true/\Q (.bl (decide (x=y))) H
def rNe:R2:=fun x y H Q=>scal x y=true/\Q (.bl (!decide (x=y))) H
theorem dec_int {i j:Int}:decide (V.int i=V.int j)=(i == j):=by
 rw [Bool.eq_iff_iff]
 simp
theorem dec_bl {i j:Bool}:decide (V.bl i=V.bl j)=(i == j):=by
 rw [Bool.eq_iff_iff]
 simp
theorem dec_str {i j:Str}:decide (V.str i=V.str j)=(i == j):=by
 rw [Bool.eq_iff_iff]
 simp
theorem dec_byt {i j:Array UInt8}:decide (V.byt i=V.byt j)=(i.toList == j.toList):=by
 rw [Bool.eq_iff_iff]
 cases i
 cases j
 simp
section
variable {X:Cx} {a b c:Expr} {ta tb tc:TE} {pos:Pos}
theorem fin_bl {pins:List (Addr×Obj)} {σ:St} {H:Hp} {s:Shared} {Q:VK} {k k':Bool} (I:Inv X pins σ H s) (q:Q (.bl k) H) (e:k=k'):EP X pins σ Q (.bool k') s:=by
 subst e
 exact ⟨.bl k,H,I,rfl,q⟩
theorem op_eq:OpR X (compareOp .Eq) rEq:=by
 intro pins s σ H x y v u Q I rx ry h
 obtain ⟨hs,q⟩:=h
 cases x with
 | non=>
  cases rx
  cases y with
  | non=>cases ry;exact PySem.EqNone.eq_none_none (fin_bl I q (by simp))
  | bl j=>cases ry;exact PySem.EqNone.eq_none_bool (fin_bl I q (by simp))
  | int j=>obtain ⟨t',rfl⟩:=ry;exact PySem.EqNone.eq_none_int (fin_bl I q (by simp))
  | str j=>obtain ⟨t',rfl⟩:=ry;exact PySem.EqNone.eq_none_str (fin_bl I q (by simp))
  | _=>exact absurd (show false=true from hs) Bool.false_ne_true
 | bl i=>
  cases rx
  cases y with
  | non=>cases ry;exact PySem.EqNone.eq_bool_none (fin_bl I q (by simp))
  | bl j=>cases ry;exact eq_bool (fin_bl I q dec_bl)
  | str j=>obtain ⟨t',rfl⟩:=ry;exact PySem.EqMixed.eq_bool_str (fin_bl I q (by simp))
  | _=>exact absurd (show false=true from hs) Bool.false_ne_true
 | int i=>
  obtain ⟨t,rfl⟩:=rx
  cases y with
  | non=>cases ry;exact PySem.EqNone.eq_int_none (fin_bl I q (by simp))
  | int j=>obtain ⟨t',rfl⟩:=ry;exact eq_int (fin_bl I q dec_int)
  | str j=>obtain ⟨t',rfl⟩:=ry;exact PySem.EqMixed.eq_int_str (fin_bl I q (by simp))
  | _=>exact absurd (show false=true from hs) Bool.false_ne_true
 | str i=>
  obtain ⟨t,rfl⟩:=rx
  cases y with
  | non=>cases ry;exact PySem.EqNone.eq_str_none (fin_bl I q (by simp))
  | bl j=>cases ry;exact PySem.EqMixed.eq_str_bool (fin_bl I q (by simp))
  | int j=>obtain ⟨t',rfl⟩:=ry;exact PySem.EqMixed.eq_str_int (fin_bl I q (by simp))
  | str j=>obtain ⟨t',rfl⟩:=ry;exact eq_str (fin_bl I q dec_str)
  | _=>exact absurd (show false=true from hs) Bool.false_ne_true
 | byt i=>
  obtain ⟨t,rfl⟩:=rx
  cases y with
  | byt j=>obtain ⟨t',rfl⟩:=ry;exact PySem.W.eq_bytes (fin_bl I q dec_byt)
  | _=>exact absurd (show false=true from hs) Bool.false_ne_true
 | _=>cases y <;> exact absurd (show false=true from hs) Bool.false_ne_true
theorem op_ne:OpR X (compareOp .NotEq) rNe:=by
 intro pins s σ H x y v u Q I rx ry h
 obtain ⟨hs,q⟩:=h
 cases x with
 | non=>
  cases rx
  cases y with
  | non=>cases ry;exact PySem.EqNone.ne_none_none (fin_bl I q (by simp))
  | bl j=>cases ry;exact PySem.EqNone.ne_none_bool (fin_bl I q (by simp))
  | int j=>obtain ⟨t',rfl⟩:=ry;exact PySem.EqNone.ne_none_int (fin_bl I q (by simp))
  | str j=>obtain ⟨t',rfl⟩:=ry;exact PySem.EqNone.ne_none_str (fin_bl I q (by simp))
  | _=>exact absurd (show false=true from hs) Bool.false_ne_true
 | bl i=>
  cases rx
  cases y with
  | non=>cases ry;exact PySem.EqNone.ne_bool_none (fin_bl I q (by simp))
  | bl j=>cases ry;exact ne_bool (fin_bl I q (congrArg not dec_bl))
  | str j=>obtain ⟨t',rfl⟩:=ry;exact PySem.EqMixed.ne_bool_str (fin_bl I q (by simp))
  | _=>exact absurd (show false=true from hs) Bool.false_ne_true
 | int i=>
  obtain ⟨t,rfl⟩:=rx
  cases y with
  | non=>cases ry;exact PySem.EqNone.ne_int_none (fin_bl I q (by simp))
  | int j=>obtain ⟨t',rfl⟩:=ry;exact ne_int (fin_bl I q (congrArg not dec_int))
  | str j=>obtain ⟨t',rfl⟩:=ry;exact PySem.EqMixed.ne_int_str (fin_bl I q (by simp))
  | _=>exact absurd (show false=true from hs) Bool.false_ne_true
 | str i=>
  obtain ⟨t,rfl⟩:=rx
  cases y with
  | non=>cases ry;exact PySem.EqNone.ne_str_none (fin_bl I q (by simp))
  | bl j=>cases ry;exact PySem.EqMixed.ne_str_bool (fin_bl I q (by simp))
  | int j=>obtain ⟨t',rfl⟩:=ry;exact PySem.EqMixed.ne_str_int (fin_bl I q (by simp))
  | str j=>obtain ⟨t',rfl⟩:=ry;exact ne_str (fin_bl I q (congrArg not dec_str))
  | _=>exact absurd (show false=true from hs) Bool.false_ne_true
 | byt i=>
  obtain ⟨t,rfl⟩:=rx
  cases y with
  | byt j=>obtain ⟨t',rfl⟩:=ry;exact PySem.W.ne_bytes (fin_bl I q (congrArg not dec_byt))
  | _=>exact absurd (show false=true from hs) Bool.false_ne_true
 | _=>cases y <;> exact absurd (show false=true from hs) Bool.false_ne_true
theorem op_lt:OpR X (compareOp .Lt) (rI0 fun i j=>.bl (decide (i < j))):=opB0 fun _ _ _ _ _ _ _ q=>lt_int q
theorem op_le:OpR X (compareOp .LtE) (rI0 fun i j=>.bl (decide (i<=j))):=opB0 fun _ _ _ _ _ _ _ q=>le_int q
theorem op_gt:OpR X (compareOp .Gt) (rI0 fun i j=>.bl (decide (j < i))):=opB0 fun _ _ _ _ _ _ _ q=>gt_int q
theorem op_ge:OpR X (compareOp .GtE) (rI0 fun i j=>.bl (decide (j<=i))):=opB0 fun _ _ _ _ _ _ _ q=>ge_int q
theorem nomark (b:Expr) {op:CmpOp} (h:op≠.In:=by decide) (h2:op≠.NotIn:=by decide):behindInMarks op b=false:=by
 have e1:(op == CmpOp.In)=false:=by cases op <;> first | rfl | exact absurd rfl h
 have e2:(op == CmpOp.NotIn)=false:=by cases op <;> first | rfl | exact absurd rfl h2
 cases b <;> simp [behindInMarks,e1,e2]
theorem pe_cmpR {op:CmpOp} {r:R2} (ho:OpR X (compareOp op) r) (ha:PE X a ta) (hb:PE X b tb) (hm:behindInMarks op b=false):PE X (.Compare a [op] [b] pos) (tOp r ta tb):=by
 intro pins s σ H Q I h
 exact wpAny_Compare1 (binT ha hb I h fun v u s2 x y H2 I2 rx ry q=>ho pins s2 σ H2 x y v u Q I2 rx ry q) hm
def tTest (t:TE):TT:=fun σ H Q=>t σ H fun x H'=>∃k,x=.bl k/\Q k H'
theorem pt_cmpR {op:CmpOp} {r:R2} (ho:OpR X (compareOp op) r) (ha:PE X a ta) (hb:PE X b tb) (hm:behindInMarks op b=false):PT X (.Compare a [op] [b] pos) (tTest (tOp r ta tb)):=by
 intro pins s σ H Q I h
 refine wpAny_isTrue_Compare1 (thn (ha pins s σ H _ I h) fun v s1 ⟨x,H1,I1,r1,q1⟩=>thn (hb pins s1 σ H1 _ I1 q1) fun u s2 ⟨y,H2,I2,r2,q2⟩=>
  thn (ho pins s2 σ H2 x y v u _ I2 r1 r2 q2) fun c s3 ⟨z,H3,I3,r3,k,e,q3⟩=>?_) hm
 subst e
 cases r3
 exact wpAny_truthy_bool ⟨H3,I3,q3⟩
theorem line63:(sizeLine:Nat) < 2 ^ 63:=by rw [sizeLine_eq];decide
theorem vals1 {x:V} {us:List Value} (r:Vals [x] us):∃u,us=[u]/\RelV x u:=by
 cases r with
 | cons r1 r2=>cases r2;exact ⟨_,rfl,r1⟩
theorem call_abs:CallR X (.builtin "abs") (fun xs H Q=>∃i,xs=[.int i]/\Q (.int (if i < 0 then -i else i)) H):=by
 intro pins s σ H xs us Q I r h
 obtain ⟨i,rfl,q⟩:=h
 obtain ⟨u,rfl,t,rfl⟩:=vals1 r
 exact call_abs_int fun u tk=>⟨.int (if i < 0 then -i else i),H,I.tok _,⟨_,rfl⟩,q⟩
end
end L2
namespace L2
open PySem PySem.Spec PyProof.Rows
structure ObjM (h:Heap) (x dx C:Addr) (mA:Str->Option Value):Prop where
 obj:h.get? x=some (PySem.W.instObj C dx)
 ns:h.Ns1 dx mA
 ne:dx≠x
theorem lookIn_ns {h:Heap} {dx:Addr} {mA:Str->Option Value} (n:h.Ns1 dx mA):∃od,h.get? dx=some od/\∀name,PySem.W.lookIn name od=some (mA name):=by
 obtain ⟨o,es,ep,ho,hd,hk,_,hm⟩:=n
 refine ⟨o,ho,fun name=>?_⟩
 have e:=hm name
 unfold nsFind findBy at e
 rw [<-Array.find?_toList] at e
 unfold PySem.W.lookIn
 rw [hd]
 dsimp only
 split
 ·rename_i y q
  rw [q] at e
  exact congrArg some e
 ·rename_i q
  rw [q] at e
  have a:es.toList.any (·.refKey)=false:=by
   rw [List.any_eq_false]
   intro y hy
   obtain ⟨z,t,hkey⟩:=hk y (Array.mem_toList_iff.mp hy)
   simp [DictEntry.refKey,hkey]
  have a':¬es.toList.any (·.refKey)=true:=by rw [a];exact Bool.false_ne_true
  rw [if_neg a']
  exact congrArg some e
theorem ObjM.look {h:Heap} {x dx C:Addr} {mA:Str->Option Value} (I:ObjM h x dx C mA):∃od,PySem.W.InstAt h x (PySem.W.instObj C dx) C (some od)/\∀name,PySem.W.lookIn name od=some (mA name):=
 let ⟨od,ho,hl⟩:=lookIn_ns I.ns
 ⟨od,⟨I.obj,rfl,rfl,ho⟩,hl⟩
section
variable {prog:Program} {w:World} {A:Around} {E:Value->Shared->Prop} {s:Shared} {K:PySem.W.Frag} {x dx C f:Addr} {mA:Str->Option Value} {name:Str} {v:Value}
end
def putF (f:Str) (v:V):List (Str×V)->List (Str×V)
 | []=>[(f,v)]
 | (g,x)::r=>if g=f then (g,v)::r else (g,x)::putF f v r
theorem RelO.some_of {v:V} {o:Option Value} (r:RelO (some v) o):∃u,o=some u/\RelV v u:=by
 cases o with
 | none=>exact (show False from r).elim
 | some u=>exact ⟨u,rfl,r⟩
theorem handed_of {v:V} {u:Value} (r:RelV v u):PySem.W.handedIn u=true:=by
 cases v with
 | non=>cases (show u=Value.none from r);rfl
 | bl b=>cases (show u=Value.bool b from r);rfl
 | int i=>obtain ⟨t,e⟩:=(show ∃t,u=Value.int i t from r);cases e;rfl
 | str x=>obtain ⟨t,e⟩:=(show ∃t,u=Value.str x t from r);cases e;rfl
 | byt b=>obtain ⟨t,e⟩:=(show ∃t,u=Value.bytes b t from r);cases e;rfl
 | flt b=>obtain ⟨t,e⟩:=(show ∃t,u=Value.float b t from r);cases e;rfl
 | ref a=>cases (show u=Value.ref a from r);rfl
 | ty n=>cases (show u=Value.type n from r);rfl
section
variable {P:Program} {w:World} {H H':Hp} {h h':Heap} {a C dx:Addr} {fs fs':List (Str×V)}
theorem ins_get (hok:HOk P w H h) (e:H a=some (.ins C dx fs)):∃mA,ObjM h a dx C mA/\(∀f,RelO (fs.lookup f) (mA f))/\PySem.Within mA (fs.map (·.1))/\fs.length<=1000/\H dx=some (.own a):=by
 obtain ⟨d,z,ne,ob,mA,n,r,q⟩:=(show ObjOk P w H h a (.ins C dx fs) from hok a _ e)
 exact ⟨mA,⟨ob,n,ne⟩,r,q,z,d⟩
end
structure Cls (K:PySem.W.Frag) (C:Addr):Prop where
 pg:PySem.W.plainGet K C Str.empty=true
 hd:PySem.W.hasDictIn K C=true
 po:PySem.W.plainOver K C=true
 sa:PySem.W.findIn K (.ref C) "__setattr__" = some (some (.builtin "object.__setattr__"))
theorem Cls.get {K:PySem.W.Frag} {C:Addr} (c:Cls K C) (f:Str):PySem.W.plainGet K C f=true:=c.pg
def NoAttr (K:PySem.W.Frag) (C:Addr) (f:Str):Prop:=PySem.W.findIn K (.ref C) f=some none
section
variable {X:Cx} {pins:List (Addr×Obj)} {σ:St} {H:Hp} {s:Shared} {a C dx:Addr} {fs:List (Str×V)} {f:Str} {v:V} {A:Around} {E:Value->Shared->Prop}
theorem attr_of {prog:Program} {w:World} {env:Env} {e:Expr} {f:Str} {pos:Pos} {s:Shared} {Q:Value->Shared->Prop} (hb:attributeBase e f env (eval e env)=eval e env)
  (h:wpAny (model prog w) A (eval e env) (fun o s₁=>wpAny (model prog w) A (getAttr o f true) Q E s₁) E s):wpAny (model prog w) A (eval (.Attribute e f pos) env) Q E s:=
 Attribute_any_ h (by rw [arm_eval_Attribute,hb])
end
def tFld (K:PySem.W.Frag) (ta:TE) (f:Str):TE:=fun σ H Q=>ta σ H fun x H1=>∃a C dx fs v,x=.ref a/\H1 a=some (.ins C dx fs)/\Cls K C/\NoAttr K C f/\fs.lookup f=some v/\Q v H1
def sFld (K:PySem.W.Frag) (ta tv:TE) (f:Str):TS:=fun D σ H=>tv σ H fun y H1=>ta σ H1 fun x H2=>∃a C dx fs,x=.ref a/\H2 a=some (.ins C dx fs)/\Cls K C/\NoAttr K C f/\fs.length < 1000/\
 D.nx σ (upd H2 a (.ins C dx (putF f y fs)))
section
variable {X:Cx} {o e value:Expr} {f:Str} {pos pos' tpos:Pos} {ta tv:TE}
end
section
variable {X:Cx} {pins:List (Addr×Obj)} {σ:St} {H:Hp} {s:Shared} {A:Around} {E:Value->Shared->Prop} {Q:Value->Shared->Prop} {c:Value} {b:Bool}
inductive TyOf (K:PySem.W.Frag) (H:Hp):V->Value->Prop where
 | non:TyOf K H .non (.type "NoneType")
 | bl (x:Bool):TyOf K H (.bl x) (.type "bool")
 | int (i:Int):TyOf K H (.int i) (.type "int")
 | str (x:Str):TyOf K H (.str x) (.type "str")
 | flt (x:UInt64):TyOf K H (.flt x) (.type "float")
 | lst {a:Addr} {xs:List V} (e:H a=some (.lst xs)):TyOf K H (.ref a) (.type "list")
 | frz {a:Addr} {o:Obj} {xs:List V} (e:H a=some (.frz o (.lst xs))):TyOf K H (.ref a) (.type "list")
 | tup {a:Addr} {xs:List V} (e:H a=some (.tup xs)):TyOf K H (.ref a) (.type "tuple")
 | dK {a:Addr} {kvs:List (Key×V)} (e:H a=some (.dK kvs)):TyOf K H (.ref a) (.type "dict")
 | dT {a:Addr} {kvs:List (List Key×V)} (e:H a=some (.dT kvs)):TyOf K H (.ref a) (.type "dict")
 | ins {a C dx:Addr} {fs:List (Str×V)} (e:H a=some (.ins C dx fs)) (cl:Cls K C) (ha:PySem.W.findIn K (.ref C) "__class__" = some (some (.builtin "object.__class__")))
   (hn:PySem.W.specialIn K (.builtin "object.__class__") "__get__" = some (some (.builtin "getset_descriptor.__get__"))) (htk:PySem.W.takesIn K (.builtin "object.__class__")=some true)
   (hm:PySem.W.mroIn K C (.type "object")=some true):TyOf K H (.ref a) (.ref C)
theorem isinst_ok {x:V} {u t:Value} (I:Inv X pins σ H s) (rx:RelV x u) (ty:TyOf X.K H x t) (e:PySem.W.kitOne X.K t c=some b) (h:∀tk,Q (.bool b) { s with toks:=tk }) :
  wpAny (model X.prog X.w) A (call (.builtin "isinstance") [u,c]) Q E s:=by
 cases ty with
 | non=>cases (show u=Value.none from rx);exact PySem.W.kia_one PySem.W.kitx_none I.kIn True.intro e (fun z=>nomatch z) h
 | bl y=>cases (show u=Value.bool y from rx);exact PySem.W.kia_one PySem.W.kitx_bool I.kIn True.intro e (fun z=>nomatch z) h
 | int i=>obtain ⟨t,q⟩:=(show ∃t,u=Value.int i t from rx);cases q;exact PySem.W.kia_one PySem.W.kitx_int I.kIn True.intro e (fun z=>nomatch z) h
 | str y=>obtain ⟨t,q⟩:=(show ∃t,u=Value.str y t from rx);cases q;exact PySem.W.kia_one PySem.W.kitx_str I.kIn True.intro e (fun z=>nomatch z) h
 | flt y=>obtain ⟨t,q⟩:=(show ∃t,u=Value.float y t from rx);cases q;exact PySem.W.kia_one PySem.W.kitx_float I.kIn True.intro e (fun z=>nomatch z) h
 | @lst a xs ea=>
  cases (show u=Value.ref a from rx)
  obtain ⟨_,_,n,_,h1⟩:=(show ObjOk X.prog X.w H s.heap a (.lst xs) from I.hok a _ ea)
  exact PySem.W.kia_one PySem.W.kitx_list I.kIn ⟨_,h1,rfl⟩ e (fun z=>nomatch z) h
 | @frz a ob xs ea=>
  cases (show u=Value.ref a from rx)
  obtain ⟨_,_,_,n,_,h1⟩:=(show ObjOk X.prog X.w H s.heap a (.frz ob (.lst xs)) from I.hok a _ ea)
  exact PySem.W.kia_one PySem.W.kitx_list I.kIn ⟨_,h1,rfl⟩ e (fun z=>nomatch z) h
 | @tup a xs ea=>
  cases (show u=Value.ref a from rx)
  obtain ⟨_,_,_,p⟩:=(show ObjOk X.prog X.w H s.heap a (.tup xs) from I.hok a _ ea)
  obtain ⟨o,h1,h2,_⟩:=p
  exact PySem.W.kia_one PySem.W.kitx_tuple I.kIn ⟨o,h1,h2⟩ e (fun z=>nomatch z) h
 | @dK a kvs ea=>
  cases (show u=Value.ref a from rx)
  obtain ⟨_,_,vs,_,p⟩:=(show ObjOk X.prog X.w H s.heap a (.dK kvs) from I.hok a _ ea)
  obtain ⟨o,es,ep,h1,h2,_⟩:=p
  exact PySem.W.kia_one PySem.W.kitx_dict I.kIn ⟨o,h1,h2.1⟩ e (fun z=>nomatch z) h
 | @dT a kvs ea=>
  cases (show u=Value.ref a from rx)
  obtain ⟨_,_,xs,_,o,es,ep,h1,h2,_⟩:=(show ObjOk X.prog X.w H s.heap a (.dT kvs) from I.hok a _ ea)
  exact PySem.W.kia_one PySem.W.kitx_dict I.kIn ⟨o,h1,h2.1⟩ e (fun z=>nomatch z) h
 | @ins a C dx fs ea cl ha hn htk hm=>
  cases (show u=Value.ref a from rx)
  obtain ⟨mA,O,_⟩:=ins_get I.hok ea
  obtain ⟨od,J,_⟩:=O.look
  exact PySem.W.kia_one (PySem.W.kitx_own (cl.get _) cl.hd ha hn htk hm) I.kIn J e (fun z=>nomatch z) h
end
end L2
namespace L2
open PySem PySem.Spec PyProof.Rows
structure Room (k:Nat) (A:Around):Prop where
 hd:A.handled=none
 dp:A.depth+3 * k+5 < recursionLimit
 un:A.units+16 * k+200 < cLine
theorem Room.mono {j k:Nat} {A:Around} (r:Room k A) (h:j<=k):Room j A:=⟨r.hd,by have:=r.dp;lia,by have:=r.un;lia⟩
theorem Room.deeper {k:Nat} {A:Around} (r:Room (k+1) A) (env:Env):Room k (A.deeper env):=
 ⟨r.hd,by have:=r.dp;show A.depth+1+3 * k+5 < _;lia,by have:=r.un;show A.units+3+16 * k+200 < _;lia⟩
theorem make_depth {A:Around} {C:Addr} {us:List Value} {kw:List (Str×Value)}:(A.under (.builtin "type.__call__" ⟨.ref C::us,kw⟩)).depth=A.depth+1:=by
 first | rfl | simp [Around.under,Code.weight,Code.isCreation,Code.isGuard,Code.isCaller,Code.frames,Code.isFrame,guardIds]
theorem make_units {A:Around} {C:Addr} {us:List Value} {kw:List (Str×Value)}:(A.under (.builtin "type.__call__" ⟨.ref C::us,kw⟩)).units=A.units+1:=by
 first | rfl | simp [Around.under,Code.cUnits,Code.frames,Code.isFrame]
theorem Room.make {k:Nat} {A:Around} (r:Room (k+1) A) (C:Addr) (us:List Value) (kw:List (Str×Value)):Room k (A.under (.builtin "type.__call__" ⟨.ref C::us,kw⟩)):=
 ⟨r.hd,by have:=r.dp;rw [make_depth];lia,by have:=r.un;rw [make_units];lia⟩
theorem Room.depth {k:Nat} {A:Around} (r:Room k A):A.depth < recursionLimit:=by have:=r.dp;lia
theorem Room.units {k:Nat} {A:Around} (r:Room k A):A.units+64 < cLine:=by have:=r.un;lia
theorem Room.units0 {k:Nat} {A:Around} (r:Room k A):A.units < cLine:=by have:=r.un;lia
def tNil:TA:=fun _ H Q=>Q [] H
def tCons (ta:TE) (tr:TA):TA:=fun σ H Q=>ta σ H fun x H1=>tr σ H1 fun xs H2=>Q (x::xs) H2
section
variable {X:Cx} {e:Expr} {es:List Expr} {te:TE} {t:TA} {pos:Pos}
theorem pa_nil:PA X [] tNil:=fun _ _ _ _ H Q I h=>Calls.spliced_nil ⟨[],H,I,.nil,h⟩
theorem pa_cons (ha:PE X e te) (hr:PA X es t) (hs:starEach (e::es) X.env=(false,eval e X.env)::starEach es X.env:=by rfl):PA X (e::es) (tCons te t):=by
 intro pos pins s σ H Q I h
 rw [hs]
 show wpAny _ _ (spliced ((false,eval e X.env)::backTo pos (starEach es X.env))) _ _ s
 refine Calls.spliced_cons (thn (ha pins s σ H _ I h) fun u s1 ⟨x,H1,I1,r1,q1⟩=>?_)
 exact thn (hr pos pins s1 σ H1 _ I1 q1) fun us s2 ⟨xs,H2,I2,r2,q2⟩=>⟨x::xs,H2,I2,.cons r1 r2,q2⟩
def tTup (t:TA):TE:=fun σ H Q=>t σ H fun xs H1=>xs.length<=sizeLine/\∀p,H1 p=none->Q (.ref p) (upd H1 p (.tup xs))
def tLst (t:TA):TE:=fun σ H Q=>t σ H fun xs H1=>xs.length<=sizeLine/\∀p,H1 p=none->Q (.ref p) (upd H1 p (.lst xs))
theorem pe_tup {x1} (h:PA X es t):PE X (.Tuple es x1 pos) (tTup t):=by
 intro pins s σ H Q I hq
 refine wpAny_Tuple_spliced (thn (h pos pins s σ H _ I hq) fun us s1 ⟨xs,H1,I1,r,z,q⟩=>⟨by rw [<-r.length];exact z,?_⟩)
 have hf:H1 s1.heap.objs.size=none:=I1.hok.fresh (Nat.le_refl _)
 refine ⟨.ref s1.heap.objs.size,upd H1 s1.heap.objs.size (.tup xs),I1.laid (t':=s1.toks) (fun b u e=>Heap.get?_push_of_some _ e) (Nat.le_refl _) ?_,rfl,q _ hf⟩
 exact ⟨z,us,r,⟨_,Heap.get?_push_size _ rfl,rfl,_,rfl⟩⟩
theorem pe_lst (h:PA X es t):PE X (.List es pos) (tLst t):=by
 intro pins s σ H Q I hq
 refine wpAny_List_spliced (thn (h pos pins s σ H _ I hq) fun us s1 ⟨xs,H1,I1,r,z,q⟩=>⟨by rw [<-r.length];exact z,?_⟩)
 have hf:H1 s1.heap.objs.size=none:=I1.hok.fresh (Nat.le_refl _)
 refine ⟨.ref s1.heap.objs.size,upd H1 s1.heap.objs.size (.lst xs),I1.laid (t':=s1.toks) (fun b u e=>Heap.get?_push_of_some _ e) (Nat.le_refl _) ?_,rfl,q _ hf⟩
 exact ⟨z,us,0,r,Heap.get?_push_size _ rfl⟩
end
abbrev Sp:=List V->Hp->VK->XK->Prop
abbrev CXT:=List Env->Hp->Shared->XK->Value->Shared->Prop
structure Env0 (P:Program) (w:World) (K:PySem.W.Frag) (mg:Str->Option Value) (base:Heap) (A:Around) (outer:List Env) (s:Shared) (H:Hp):Prop where
 frames:A.frames=some outer
 mod:Mod K mg base
 bs:∀b o,base.get? b=some o->s.heap.get? b=some o/\H b=none
 bsz:base.objs.size<=s.heap.objs.size
 funs:s.heap.FunFrames base outer
 frf:∀b∈frs outer,H b=none
 hok:HOk P w H s.heap
 bare:AllBare s.gens
def CE (outer:List Env) (P:Program) (w:World) (H:Hp) (s:Shared) (Q:VK) (u:Value) (s':Shared):Prop:=
 ∃v H',s'.os=s.os/\AllBare s'.gens/\Un (frs outer) [] H H' s.heap s'.heap/\HOk P w H' s'.heap/\RelV v u/\Q v H'
def CR (CX:CXT) (outer:List Env) (P:Program) (w:World) (H:Hp) (s:Shared) (Q:VK) (E:XK) (r:Result) (s':Shared):Prop:=
 match r with
 | .ok (.ret u)=>CE outer P w H s Q u s'
 | .ok _=>False
 | .error e=>CX outer H s E e s'
structure FnOk (P:Program) (w:World) (K:PySem.W.Frag) (mg:Str->Option Value) (base:Heap) (CX:CXT) (k:Nat) (f:Addr) (fd:FuncData) (ps:List Str) (sp:Sp):Prop where
 len:∀vs H Q E,sp vs H Q E->vs.length=ps.length
 run:∀(A:Around) (outer:List Env) (s:Shared) (H:Hp) (args:Args) (us:List Value) (vs:List V) (Q:VK) (E:XK),Room k A->Env0 P w K mg base A outer s H->BindsTo s fd args (ps.zip us)->Vals vs us->sp vs H Q E->
  codeAny (model P w) A (.call (.ref f) args) (CR CX outer P w H s Q E) s
theorem Env0.make {P:Program} {w:World} {K:PySem.W.Frag} {mg:Str->Option Value} {base:Heap} {A:Around} {outer:List Env} {s:Shared} {H:Hp} (e:Env0 P w K mg base A outer s H) (C:Addr) (us:List Value) (kw:List (Str×Value)) :
  Env0 P w K mg base (A.under (.builtin "type.__call__" ⟨.ref C::us,kw⟩)) outer s H:=⟨by first | exact e.frames | (simpa [Around.under,Code.envs,Code.isFrame,pushEnvs] using e.frames),e.mod,e.bs,e.bsz,e.funs,e.frf,e.hok,e.bare⟩
section
variable {X:Cx} {pins:List (Addr×Obj)} {σ:St} {H:Hp} {s s':Shared}
theorem Inv.env0 (I:Inv X pins σ H s):Env0 X.prog X.w X.K X.mg X.base X.A X.stack s H:=
 ⟨I.ok.frames,I.ok.mod,I.bs,Nat.le_trans I.ok.bsz I.sz,I.stack,I.stkFree,I.hok,I.bare⟩
theorem Inv.after {Q:VK} {u:Value} (I:Inv X pins σ H s) (h:CE X.stack X.prog X.w H s Q u s'):EP X pins σ Q u s':=by
 obtain ⟨v,H',os,bare,un,hok,r,q⟩:=h
 obtain ⟨hh,g,d,t,os'⟩:=s'
 obtain rfl:os'=s.os:=os
 exact ⟨v,H',I.call (h':=hh) (g':=g) (d':=d) (t':=t) (ch:=[]) un hok bare (fun b z=>absurd z (by simp)),r,q⟩
end
def tCall (sp:Sp) (dvs:List V) (E:XK) (t:TA):TE:=fun σ H Q=>t σ H fun vs H1=>sp (vs++dvs) H1 Q E
def tMeth (C:Addr) (m:Str) (sp:Sp) (dvs:List V) (E:XK) (ta:TE) (t:TA):TE:=fun σ H Q=>ta σ H fun x H1=>∃a dx fs,x=.ref a/\H1 a=some (.ins C dx fs)/\fs.lookup m=none/\
 t σ H1 fun vs H2=>sp (x::(vs++dvs)) H2 Q E
def tMake (C:Addr) (sp:Sp) (dvs:List V) (E:XK) (t:TA):TE:=fun σ H Q=>t σ H fun vs H1=>∀x dx,H1 x=none->H1 dx=none->dx≠x->
 sp (.ref x::(vs++dvs)) (upd (upd H1 dx (.own x)) x (.ins C dx [])) (fun v H2=>v=.non/\Q (.ref x) H2) E
def Binds (K:PySem.W.Frag) (fd:FuncData) (ps:List Str) (ds:List Value):Prop:=
 ∀(s:Shared) (us:List Value),K.In s.heap->(us++ds).length=ps.length->BindsTo s fd ⟨us,[]⟩ (ps.zip (us++ds))
theorem Binds.all {K:PySem.W.Frag} {fd:FuncData} {ps:List Str} (h:∀us:List Value,us.length=ps.length->bindArgs fd ⟨us,[]⟩=pure (ps.zip us)):Binds K fd ps []:=fun s us _ hl=>by
 rw [List.append_nil] at hl ⊢
 exact .of_eq (h us hl)
def Passes (CX:CXT) (X:Cx) (E:XK):Prop:=∀(pins:List (Addr×Obj)) (σ:St) (H:Hp) (s:Shared) (e:Value) (s':Shared),Inv X pins σ H s->CX X.stack H s E e s'->X.xe e s'
section
variable {X:Cx} {CX:CXT} {k:Nat} {f C:Addr} {fd:FuncData} {ps:List Str} {sp:Sp} {dvs:List V} {ds:List Value} {E:XK} {x m:Str} {p pos apos:Pos} {e o:Expr} {es:List Expr} {ta:TE} {t:TA}
theorem run_fn {pins:List (Addr×Obj)} {σ:St} {H:Hp} {s:Shared} {Q:VK} {us:List Value} {vs:List V} (F:FnOk X.prog X.w X.K X.mg X.base CX k f fd ps sp) (hr:Room k X.A) (hb:Binds X.K fd ps ds) (hd:Vals dvs ds) (hx:Passes CX X E)
  (I:Inv X pins σ H s) (r:Vals vs us) (h:sp (vs++dvs) H Q E):wpAny (model X.prog X.w) X.A (call (.ref f) us) (EP X pins σ Q) X.xe s:=by
 have r2:Vals (vs++dvs) (us++ds):=r.append hd
 have hl:(us++ds).length=ps.length:=by rw [<-r2.length];exact F.len _ _ _ _ h
 refine wpAny_call (codeAny_mono (F.run X.A X.stack s H ⟨us,[]⟩ (us++ds) (vs++dvs) Q E hr I.env0 (hb s us I.kIn hl) r2 h) fun r s' hq=>?_)
 cases r with
 | error e=>exact hx pins σ H s e s' I hq
 | ok fl=>
  cases fl with
  | ret u=>exact I.after hq
  | next=>exact False.elim hq
  | brk=>exact False.elim hq
  | cont=>exact False.elim hq
theorem pe_call (F:FnOk X.prog X.w X.K X.mg X.base CX k f fd ps sp) (hr:Room k X.A) (hg:Gl X x) (hm:X.mg x=some (.ref f)) (hk:PySem.W.keepIn X.K (.ref f)=true) (hb:Binds X.K fd ps ds) (hd:Vals dvs ds) (hx:Passes CX X E)
  (ha:PA X (e::es) t) (hdb:(x == ("__debug__" : Str))=false:=by decide) (he:starEach (e::es) X.env=(false,eval e X.env)::starEach es X.env:=by rfl) (hpl:(backTo pos (starEach es X.env)).any (·.1)=false:=by rfl) :
  PE X (.Call (.Name x p) (e::es) [] pos) (tCall sp dvs E t):=by
 intro pins s σ H Q I h
 refine wpAny_Call_Name_kw (ld_glob I hg hm ?_ hdb)
 refine PySem.W.callWith_K (h₀:=X.base) I.ok.mod.kin hk (thn (ha pos pins s σ H _ I h) fun us s1 ⟨vs,H1,I1,r,q⟩=>⟨I1.kIn,?_⟩) he hpl
 exact run_fn F hr hb hd hx I1 r q
end
section
variable {X:Cx} {CX:CXT} {k:Nat} {f C:Addr} {fd:FuncData} {ps ks:List Str} {sp:Sp} {E:XK} {x m:Str} {p pos apos kpos:Pos} {e o:Expr} {es:List Expr} {kws:List Keyword} {te ta:TE} {t tk:TA} {nm:Option Str}
variable {g:List Value->List Value->List Value} {gV:List V->List V->List V}
end
structure FnScope (N P:List Str) (sc:Scope):Prop where
 kind:sc.kind=.function
 co:sc.isCoroutine=false
 gen:sc.isGenerator=false
 nd:N.Nodup
 pre:N.take P.length=P
 par:∀x∈P,sc.names.lookup x=some .local\/sc.names.lookup x=some .cell
 nofree:∀y∈sc.names,y.2≠.free
theorem bindL_out {kindOf:Str->Option NameKind} {x:Str}:∀{binds:List (Str×Value)} {m:Str->Option Value},(∀v,(x,v)∉binds)->bindL kindOf binds m x=m x
 | [],_,_=>rfl
 | (n,v)::r,m,h=>by
  unfold bindL
  rw [bindL_out fun w hw=>h w (List.mem_cons_of_mem _ hw)]
  split
  ·have:x≠n:=by rintro rfl;exact h v List.mem_cons_self
   simp [this]
  ·rfl
theorem bindC_out {kindOf:Str->Option NameKind} {x:Str}:∀{binds:List (Str×Value)} {m:Str->Option Value},(∀v,(x,v)∉binds)->bindC kindOf binds m x=m x
 | [],_,_=>rfl
 | (n,v)::r,m,h=>by
  unfold bindC
  rw [bindC_out fun w hw=>h w (List.mem_cons_of_mem _ hw)]
  split
  ·rfl
  ·have:x≠n:=by rintro rfl;exact h v List.mem_cons_self
   simp [this]
theorem bindL_get {kindOf:Str->Option NameKind} {x:Str} {v:Value}:∀{P:List Str} {vs:List Value} {i:Nat} {m:Str->Option Value},P.Nodup->P[i]? = some x->vs[i]? = some v->kindOf x=some .local->
  bindL kindOf (P.zip vs) m x=some v
 | [],_,_,_,_,h,_,_=>by simp at h
 | _::_,[],_,_,_,_,h,_=>by simp at h
 | p::P,w::vs,0,m,nd,h1,h2,hk=>by
  simp at h1 h2;subst h1;subst h2
  show bindL kindOf ((p,w)::P.zip vs) m p=_
  unfold bindL
  rw [bindL_out fun v hv=>(List.nodup_cons.mp nd).1 (List.of_mem_zip hv).1,if_pos hk]
  simp
 | p::P,w::vs,i+1,m,nd,h1,h2,hk=>by
  show bindL kindOf ((p,w)::P.zip vs) m x=_
  unfold bindL
  exact bindL_get (i:=i) (List.nodup_cons.mp nd).2 (by simpa using h1) (by simpa using h2) hk
theorem bindC_get {kindOf:Str->Option NameKind} {x:Str} {v:Value}:∀{P:List Str} {vs:List Value} {i:Nat} {m:Str->Option Value},P.Nodup->P[i]? = some x->vs[i]? = some v->kindOf x≠some .local->
  bindC kindOf (P.zip vs) m x=some v
 | [],_,_,_,_,h,_,_=>by simp at h
 | _::_,[],_,_,_,_,h,_=>by simp at h
 | p::P,w::vs,0,m,nd,h1,h2,hk=>by
  simp at h1 h2;subst h1;subst h2
  show bindC kindOf ((p,w)::P.zip vs) m p=_
  unfold bindC
  rw [bindC_out fun v hv=>(List.nodup_cons.mp nd).1 (List.of_mem_zip hv).1,if_neg hk]
  simp
 | p::P,w::vs,i+1,m,nd,h1,h2,hk=>by
  show bindC kindOf ((p,w)::P.zip vs) m x=_
  unfold bindC
  exact bindC_get (i:=i) (List.nodup_cons.mp nd).2 (by simpa using h1) (by simpa using h2) hk
def start (N:List Str) (vs:List V):St:=vs.map some++List.replicate (N.length - vs.length) none
def cxOf (CX:CXT) (P:Program) (w:World) (K:PySem.W.Frag) (mg:Str->Option Value) (base:Heap) (N:List Str) (qual:Str) (scope:Scope) (f:Addr) (cd:Value) (A:Around) (outer:List Env) (s:Shared) (H:Hp) (E:XK):Cx where
 prog:=P
 w:=w
 K:=K
 mg:=mg
 base:=base
 A:=A.deeper (envOfC qual scope s.heap.objs.size f cd)
 N:=N
 s₀:=s
 H₀:=H
 env:=envOfC qual scope s.heap.objs.size f cd
 outer:=outer
 stack:=envOfC qual scope s.heap.objs.size f cd::outer
 ex:=[]
 calm:=true
 fn:=fun _=>true
 pn:=[]
 xe:=fun e s'=>wpAny (model P w) (A.deeper (envOfC qual scope s.heap.objs.size f cd)) (leaving (envOfC qual scope s.heap.objs.size f cd) e) (fun _ s''=>CX outer H s E e s'') (fun e' s''=>CX outer H s E e' s'') s'
theorem cell_has {sc:Scope} {n:Nat} {x:Str} (h:sc.names.lookup x=some .cell):∃c,(cellsFrom n sc.names []).lookup x=some c:=by
 have q:=PySem.W.cellsFrom_some sc.names n [] (.inl h)
 exact Option.isSome_iff_exists.mp q
theorem inv_start {CX:CXT} {P:Program} {w:World} {K:PySem.W.Frag} {mg:Str->Option Value} {base:Heap} {N ps:List Str} {qual:Str} {scope:Scope} {f:Addr} {cd:Value} {A:Around} {outer:List Env} {s s1:Shared} {H:Hp} {E:XK} {us:List Value} {vs:List V}
  (S:FnScope N ps scope) (hd:A.handled=none) (e0:Env0 P w K mg base A outer s H) (hl:vs.length=ps.length) (r:Vals vs us)
  (x:InCallC s s.heap.objs.size (bindL (envOfC qual scope s.heap.objs.size f cd).kindOf (ps.zip us) fun _=>none) (cellsFrom (s.heap.objs.size+1) scope.names []) (bindC (envOfC qual scope s.heap.objs.size f cd).kindOf (ps.zip us) fun _=>none) s1) :
  Inv (cxOf CX P w K mg base N qual scope f cd A outer s H E) [] (start N vs) H s1:=by
 have hpl:ps.length<=N.length:=by have:=congrArg List.length S.pre;rw [List.length_take] at this;lia
 obtain ⟨h1,tk,rfl,hk⟩:=x.done
 have noA:∀b:Addr,b∉(cxOf CX P w K mg base N qual scope f cd A outer s H E).ex:=fun b z=>absurd (show b∈([]:List Addr) from z) (by simp)
 refine ⟨⟨e0.mod,S.kind,rfl,rfl,Nat.le_refl _,fun y z c h1 h2=>?_,fun y hy=>?_,fun y c _ h=>?_,fun _=>hd,Around.frames_deeper e0.frames,.inr ⟨rfl,rfl⟩,fun b z=>absurd z (noA b),e0.bs,e0.bsz,fun b _ _=>noA b,fun b z=>absurd z (noA b),e0.funs,e0.frf⟩,
  rfl,e0.bare,Un.kept hk,⟨_,x.toInCall.ns,fun i y v h1 h2 h3=>?_⟩,fun y c h=>⟨_,x.cell y c h⟩,e0.hok.fresh (Nat.le_refl _),fun y c h=>?_,fun p hp=>absurd (show p∈([]:List (Addr×Obj)) from hp) (by simp),e0.hok.kept hk,?_⟩
 ·exact name_of_addr x.apart (PySem.mem_of_lookup h1) (PySem.mem_of_lookup h2)
 ·have hy:scope.names.lookup y=some .cell\/scope.names.lookup y=some .free:=hy
  rcases hy with hy | hy
  ·exact cell_has hy
  ·exact absurd rfl (S.nofree _ (PySem.mem_of_lookup hy))
 ·exact Nat.le_of_lt (x.above y c (PySem.mem_of_lookup h))
 ·have hi:i < vs.length:=by
   unfold start at h2
   by_cases hi:i < vs.length
   ·exact hi
   ·rw [List.getElem?_append_right (by simpa using hi)] at h2
    rw [List.getElem?_replicate] at h2
    split at h2 <;> cases h2
  have ha:vs[i]? = some v:=by
   unfold start at h2
   rw [List.getElem?_append_left (by simpa using hi),List.getElem?_map] at h2
   cases e:vs[i]? with
   | none=>rw [e] at h2;cases h2
   | some a=>rw [e] at h2;cases h2;rfl
  obtain ⟨u,hu,rv⟩:=r.get ha
  have hp:ps[i]? = some y:=by
   rw [<-S.pre,List.getElem?_take_of_lt (by lia)];exact h1
  have ndP:ps.Nodup:=by rw [<-S.pre];exact S.nd.sublist (List.take_sublist _ _)
  refine ⟨u,rv,?_⟩
  rcases S.par y (List.mem_of_getElem? hp) with k | k
  ·exact .inl ⟨k,bindL_get ndP hp hu k⟩
  ·obtain ⟨c,e⟩:=cell_has (n:=s.heap.objs.size+1) k
   refine .inr ⟨.inl k,c,e,?_⟩
   have q:=x.cell y c e
   rw [bindC_get ndP hp hu (by show scope.names.lookup y≠_;rw [k];decide)] at q
   exact q
 ·exact e0.hok.fresh (Nat.le_of_lt (x.above y c (PySem.mem_of_lookup h)))
 ·unfold start
  show _=N.length
  rw [List.length_append,List.length_map,List.length_replicate]
  lia
theorem fn_of {CX:CXT} {P:Program} {w:World} {K:PySem.W.Frag} {mg:Str->Option Value} {base:Heap} {k:Nat} {f:Addr} {name qual:Str} {params:Arguments} {body:List Stmt} {scope:Scope} {dV kV doc pm cdv ct oc:Value} {an od:Option Addr}
  {osl:Array (Option Value)} {N ps:List Str} {sp:Sp} (lk:K.lookup f=some ⟨oc,od,.func (PySem.W.fnOf name qual params body scope dV kV doc pm an cdv ct),osl⟩) (hcd:PySem.W.codeIn K cdv qual=true) (S:FnScope N ps scope)
  (len:∀vs H Q E,sp vs H Q E->vs.length=ps.length)
  (hbody:∀(A:Around) (outer:List Env) (s:Shared) (H:Hp) (vs:List V) (Q:VK) (E:XK),Room k (A.deeper (envOfC qual scope s.heap.objs.size f cdv))->sp vs H Q E->
   ∃t,PSs (cxOf CX P w K mg base N qual scope f cdv A outer s H E) body t/\t { nx:=fun _ H'=>Q .non H',rt:=Q } (start N vs) H) :
  FnOk P w K mg base CX (k+1) f (PySem.W.fnOf name qual params body scope dV kV doc pm an cdv ct) ps sp:=by
 refine ⟨len,fun A outer s H args us vs Q E hr e0 hb r hsp=>?_⟩
 have hl:=len _ _ _ _ hsp
 have KX:K.In s.heap:=e0.mod.kin.keeps fun b o e=>(e0.bs b o e).1
 have lim:s.heap.NoLimit:=e0.mod.nolimit.keeps fun b o e=>(e0.bs b o e).1
 have hkind:∀y∈ps.zip us,scope.names.lookup y.1=some .local\/(scope.names.lookup y.1=some .cell/\((cellsFrom (s.heap.objs.size+1) scope.names []).lookup y.1).isSome=true):=fun ⟨n,v⟩ hy=>by
  rcases S.par n (List.of_mem_zip hy).1 with q | q
  ·exact .inl q
  ·exact .inr ⟨q,PySem.W.cellsFrom_some _ _ _ (.inl q)⟩
 refine codeAny_call_function hr.depth (KX _ _ lk) rfl S.co S.gen rfl (PySem.W.codeRec_of KX hcd) (hb _ _ _ _ ?_)
 refine wpAny_newFunctionEnv_cells S.kind hkind fun env he s1 x=>?_
 subst he
 refine ⟨lim.keeps x.toInCall.keep,codeAny_func ?_⟩
 obtain ⟨t,ht,hq⟩:=hbody A outer s H vs Q E (hr.deeper _) hsp
 have I:Inv (cxOf CX P w K mg base N qual scope f cdv A outer s H E) [] (start N vs) H s1:=inv_start S hr.hd e0 hl r x
 refine wpAny_mono (ht [] s1 (start N vs) H _ I hq) (fun fl s' hs=>?_) fun e s' hs=>hs
 have fin:∀{σ':St} {H':Hp} {v:V} {u:Value},Inv (cxOf CX P w K mg base N qual scope f cdv A outer s H E) [] σ' H' s'->RelV v u->Q v H'->CE outer P w H s Q u s':=
  fun {σ' H' v u} J rv q=>⟨v,H',J.os,J.bare,J.base,J.hok,rv,q⟩
 cases fl with
 | ret u=>
  obtain ⟨v,σ',H',J,rv,q⟩:=hs
  exact fin J rv q
 | next=>
  obtain ⟨σ',H',J,q⟩:=hs
  exact fin (v:=V.non) (u:=Value.none) J rfl q
 | brk=>
  obtain ⟨_,_,_,q⟩:=hs
  exact False.elim q
 | cont=>
  obtain ⟨_,_,_,q⟩:=hs
  exact False.elim q
end L2
namespace L2
open PySem PySem.Spec PyProof.Rows
section
variable {X:Cx} {x:Str} {p pos:Pos} {e:Expr} {es:List Expr} {t:TA} {id T:String} {r:List V->Hp->VK->Prop}
def tCB (r:List V->Hp->VK->Prop) (t:TA):TE:=fun σ H Q=>t σ H fun vs H1=>r vs H1 Q
theorem pe_callB (hc:CallR X (.builtin id) r) (hg:Gl X x) (hm:X.mg x=none) (hv:bootBuiltins x=some (.builtin id)) (ha:PA X (e::es) t) (hn:x≠"__name__":=by decide) (hdb:(x == ("__debug__" : Str))=false:=by decide)
  (he:starEach (e::es) X.env=(false,eval e X.env)::starEach es X.env:=by rfl) (hpl:(backTo pos (starEach es X.env)).any (·.1)=false:=by rfl):PE X (.Call (.Name x p) (e::es) [] pos) (tCB r t):=by
 intro pins s σ H Q I h
 refine wpAny_Call_Name_kw (ld_blt I hg hm hv ?_ hn hdb)
 exact PyProof.Rows.callWith_builtin1 (thn (ha pos pins s σ H _ I h) fun us s1 ⟨vs,H1,I1,r1,q1⟩=>hc pins s1 σ H1 vs us Q I1 r1 q1) he hpl
theorem pe_callTy (hc:CallR X (.type T) r) (hg:Gl X x) (hm:X.mg x=none) (hv:bootBuiltins x=some (.type T)) (ha:PA X (e::es) t) (hn:x≠"__name__":=by decide) (hdb:(x == ("__debug__" : Str))=false:=by decide)
  (he:starEach (e::es) X.env=(false,eval e X.env)::starEach es X.env:=by rfl) (hpl:(backTo pos (starEach es X.env)).any (·.1)=false:=by rfl):PE X (.Call (.Name x p) (e::es) [] pos) (tCB r t):=by
 intro pins s σ H Q I h
 refine wpAny_Call_Name_kw (ld_blt I hg hm hv ?_ hn hdb)
 exact PyProof.Rows.callWith_type1 (thn (ha pos pins s σ H _ I h) fun us s1 ⟨vs,H1,I1,r1,q1⟩=>hc pins s1 σ H1 vs us Q I1 r1 q1) he hpl
end
end L2
namespace HT
open PySem PyProof.Rows
def lexLt:List Int->List Int->Bool
 | [],[]=>false
 | [],_::_=>true
 | _::_,[]=>false
 | x::xs,y::ys=>if x=y then lexLt xs ys else decide (x < y)
section
open PySem.SeqAt
open PySem.AutoSeq1 (wpAny_loadPart')
open PySem.MeetsSeq PySem.MeetsSeq2 PySem.MeetsSeq3
end
section
variable {prog:Program} {w:World} {A:Around} {E:Value->Shared->Prop} {s:Shared}
theorem cat_tup {t b:Addr} {vs ws:List Value} {Q:Value->Shared->Prop} (ht:IsTup s.heap t vs.toArray) (hb:IsTup s.heap b ws.toArray) (hv:vs≠[])
  (h1:ws=[]->Q (.ref t) s) (h2:ws≠[]->Q (.ref s.heap.objs.size) { s with heap:=s.heap.push { cls:=.type "tuple",data:=.seq (vs++ws).toArray } })
  (hsz:vs.length+ws.length<=sizeLine):wpAny (model prog w) A (binaryOp .Add (.ref t) (.ref b)) Q E s:=by
 obtain ⟨⟨cls,dd,data,sl⟩,ho,hc,n,hd⟩:=id ht
 obtain ⟨⟨cls2,dd2,data2,sl2⟩,ho2,hc2,n2,hd2⟩:=id hb
 simp only at hc hd hc2 hd2
 subst hc hd hc2 hd2
 have e:vs.toArray++ws.toArray=(vs++ws).toArray:=by simp
 by_cases hw:ws=[]
 ·exact concat_meets ⟨_,ho,rfl⟩ ⟨_,ho2,rfl⟩ noFill_tuple_add seq_tuple_add PySem.F.slot_tuple_add PySem.F.entry_tuple_add (PySem.F.args_tuple_add_2 _ _)
   (tuple_addW1 t b vs.toArray ws.toArray n n2 dd dd2 sl sl2 (by simpa using hv) (by simp [hw])) ⟨ho,ho2,h1 hw⟩
 ·refine concat_meets ⟨_,ho,rfl⟩ ⟨_,ho2,rfl⟩ noFill_tuple_add seq_tuple_add PySem.F.slot_tuple_add PySem.F.entry_tuple_add (PySem.F.args_tuple_add_2 _ _)
   (tuple_addW2 t b vs.toArray ws.toArray n n2 dd dd2 sl sl2 (by simpa using hv) (by simpa using hw) (by rw [List.size_toArray,List.size_toArray];exact hsz)) ⟨ho,ho2,?_⟩
  rw [e]
  exact h2 hw
def sIx (n d:Nat):Option Int->Nat
 | none=>d
 | some v=>if v < 0 then (v+(n:Int)).toNat else min v.toNat n
theorem sIx_le (n d:Nat) (hd:d<=n) (o:Option Int):sIx n d o<=n:=by
 cases o with
 | none=>exact hd
 | some v=>
  show (if v < 0 then (v+(n:Int)).toNat else min v.toNat n)<=n
  by_cases hv:v < 0
  ·rw [if_pos hv];lia
  ·rw [if_neg hv];exact Nat.min_le_right _ _
theorem clip_eq (v:Int) (n d:Nat):(if v < 0 then max (v+(n:Int)) 0 else min v (n:Int))=((sIx n d (some v):Nat):Int):=by
 show (if v < 0 then max (v+(n:Int)) 0 else min v (n:Int))=(((if v < 0 then (v+(n:Int)).toNat else min v.toNat n):Nat):Int)
 by_cases hv:v < 0
 ·simp only [if_pos hv];lia
 ·simp only [if_neg hv];lia
theorem adjust_gen (lo hi:Option Int) (n:Nat):Builtin.Slice.sliceAdjust lo hi 1 (n:Int)=(((sIx n 0 lo:Nat):Int),((sIx n n hi:Nat):Int)):=by
 have h1:¬((1:Int) < 0):=by lia
 unfold Builtin.Slice.sliceAdjust
 simp only [h1,if_false]
 refine Prod.ext ?_ ?_
 ·cases lo with
  | none=>rfl
  | some v=>exact clip_eq v n 0
 ·cases hi with
  | none=>rfl
  | some v=>exact clip_eq v n n
theorem places_gen (i j:Nat):Builtin.Slice.slicePlaces (i:Int) (j:Int) 1=j - i:=by
 unfold Builtin.Slice.slicePlaces
 have h1:(1:Int) > 0:=by lia
 simp only [h1,if_true,Int.ediv_one]
 split <;> lia
theorem slicePart_ {v:Value} {o:Option Int} {Q:Option Int->Shared->Prop} (p:IsPart v o) (h:Q o s):wpAny (model prog w) A (Builtin.Slice.slicePartIndex v) Q E s:=by
 cases p with
 | none=>exact slicePart_none h
 | int i t=>exact slicePart_int h
theorem sliceApplied_gen {sl:Addr} {vl vu:Value} {lo hi:Option Int} {n:Nat} {Q:Int×Int×Nat->Shared->Prop} (hs:s.heap.IsSliceOf sl vl vu .none) (pl:IsPart vl lo) (pu:IsPart vu hi)
  (h:Q (((sIx n 0 lo:Nat):Int),1,sIx n n hi - sIx n 0 lo) s):wpAny (model prog w) A (Builtin.Slice.sliceApplied (.ref sl) (pure (n:Int))) Q E s:=by
 obtain ⟨os,hos,hcs,hds⟩:=id hs
 unfold Builtin.Slice.sliceApplied Builtin.Slice.sliceFields
 refine wpAny_bind (wpAny_bind (wpAny_field hos hds (x:=vl) rfl (wpAny_bind (wpAny_field hos hds (x:=vu) rfl (wpAny_bind (wpAny_field hos hds (x:=.none) rfl (wpAny_pure ?_)))))))
 refine wpAny_bind (slicePart_none ?_)
 show wpAny _ _ (if ((1:Int) == 0)=true then _ else _) _ _ s
 rw [if_neg (by decide)]
 refine wpAny_bind (slicePart_ pl (wpAny_bind (slicePart_ pu (wpAny_bind (wpAny_pure ?_)))))
 show wpAny _ _ (match Builtin.Slice.sliceAdjust lo hi 1 (n:Int) with | (lo,hi)=>pure (lo,(1:Int),Builtin.Slice.slicePlaces lo hi 1)) _ _ s
 rw [adjust_gen lo hi n]
 show wpAny _ _ (pure (((sIx n 0 lo:Nat):Int),(1:Int),Builtin.Slice.slicePlaces ((sIx n 0 lo:Nat):Int) ((sIx n n hi:Nat):Int) 1)) _ _ s
 rw [places_gen]
 exact wpAny_pure h
theorem pick_gen (xs:Array Value) (i k:Nat):((List.range k).filterMap fun (m:Nat)=>xs[((i:Int)+(m:Int) * 1).toNat]?).toArray=((xs.toList.drop i).take k).toArray:=by
 have e:(fun (m:Nat)=>xs[((i:Int)+(m:Int) * 1).toNat]?)=fun m=>xs[i+m]?:=by
  funext m
  have:((i:Int)+(m:Int) * 1).toNat=i+m:=by lia
  rw [this]
 rw [e]
 have:=pick_run xs i k
 rw [List.filterMap_map] at this
 have e2:((fun x=>xs[x]?) ∘ fun x=>i+x)=fun m=>xs[i+m]?:=rfl
 rw [e2] at this
 rw [this]
theorem getItem_tuple_cut {t sl:Addr} {items:Array Value} {vl vu:Value} {lo hi:Option Int} {Q:Value->Shared->Prop} (ht:IsTup s.heap t items) (hs:s.heap.IsSliceOf sl vl vu .none) (pl:IsPart vl lo) (pu:IsPart vu hi)
  (hw:¬(sIx items.size 0 lo=0/\sIx items.size items.size hi=items.size))
  (h:Q (.ref s.heap.objs.size) { s with heap:=s.heap.push { cls:=.type "tuple",data:=.seq ((items.toList.drop (sIx items.size 0 lo)).take (sIx items.size items.size hi - sIx items.size 0 lo)).toArray } })
  (hsz:items.size<=sizeLine):wpAny (model prog w) A (getItem (.ref t) (.ref sl)) Q E s:=by
 have htake:sizeOk (.seq ((items.toList.drop (sIx items.size 0 lo)).take (sIx items.size items.size hi - sIx items.size 0 lo)).toArray):=by
  show ((items.toList.drop (sIx items.size 0 lo)).take (sIx items.size items.size hi - sIx items.size 0 lo)).toArray.size<=sizeLine
  rw [List.size_toArray,List.length_take,List.length_drop,Array.length_toList]
  lia
 have hj:sIx items.size items.size hi<=items.size:=sIx_le _ _ (Nat.le_refl _) hi
 obtain ⟨os,hos,hcs,hds⟩:=id hs
 have hTs:s.TypeIs (.ref sl) "slice":=⟨os,hos,hcs⟩
 unfold getItem
 try with_reducible refine wpAny_holding ?_
 first | refine wpAny_bind (wpAny_pure ?_) | skip
 refine wpAny_bind (wpAny_sequenceKey ht.typeIs (by decide) ?_)
 refine wpAny_bind (wpAny_callSpecial?_slot (name:=Str.ofString "__getitem__") ht.typeIs PyProof.Rows.slot_tuple_getitem
  (wpAny_call_entry PyProof.Rows.slot_tuple_getitem ht.typeIs entry_tuple_getitem ?_ (args_tuple_getitem _ _)))
 show wpAny _ _ (Builtin.Tuple.tupleItemsOf (.ref t) >>= _) _ _ s
 refine wpAny_bind (tupleItemsOf_ ht ?_)
 refine wpAny_bind (wpAny_typeOf hTs ?_)
 rw [if_pos (by decide)]
 refine wpAny_bind (sliceApplied_gen hs pl pu ?_)
 have hno:¬((((sIx items.size 0 lo:Nat):Int) == 0 && (1:Int) == 1 && (sIx items.size items.size hi - sIx items.size 0 lo) == items.size)=true):=by
  intro q
  rw [Bool.and_eq_true,Bool.and_eq_true] at q
  have q1:((sIx items.size 0 lo:Nat):Int)=0:=eq_of_beq q.1.1
  have q2:sIx items.size items.size hi - sIx items.size 0 lo=items.size:=eq_of_beq q.2
  exact hw ⟨by lia,by lia⟩
 show wpAny _ _ (if (((sIx items.size 0 lo:Nat):Int) == 0 && (1:Int) == 1 && (sIx items.size items.size hi - sIx items.size 0 lo) == items.size)=true then _ else _) _ _ s
 rw [if_neg hno,pick_gen]
 first
  | exact wpAny_bind (m:=Builtin.Tuple.tupleExact _) (wpAny_newObj_type (wpAny_pure ⟨_,rfl,wpAny_pure h⟩) htake)
  | exact wpAny_bind (m:=Builtin.Tuple.tupleExact _) (wpAny_newObj_type (wpAny_bind (wpAny_pure (wpAny_pure ⟨_,rfl,wpAny_pure h⟩))) htake)
  | exact wpAny_bind (wpAny_bind (m:=Builtin.Tuple.tupleExact _) (wpAny_newObj_type (wpAny_pure (wpAny_pure ⟨_,rfl,wpAny_pure h⟩)) htake))
  | exact wpAny_bind (wpAny_bind (m:=Builtin.Tuple.tupleExact _) (wpAny_newObj_type (wpAny_pure ⟨_,rfl,wpAny_pure h⟩) htake))
end
end HT
namespace L2
open PySem PySem.Spec PyProof.Rows
abbrev TO:=St->Hp->(Option Int->Hp->Prop)->Prop
def PO (X:Cx) (e:Option Expr) (t:TO):Prop:=
 ∀(pins:List (Addr×Obj)) (s:Shared) (σ:St) (H:Hp) (Q:Option Int->Hp->Prop),Inv X pins σ H s->t σ H Q->
  wpAny (model X.prog X.w) X.A (evalPart e X.env) (fun u s'=>∃o H',Inv X pins σ H' s'/\IsPart u o/\Q o H') X.xe s
def tNoPart:TO:=fun _ H Q=>Q none H
def tPart (t:TE):TO:=fun σ H Q=>t σ H fun x H1=>∃i,x=.int i/\Q (some i) H1
theorem intsAre_of {ns:List Int}:∀{us:List Value},Vals (ns.map V.int) us->IntsAre us ns:=by
 induction ns with
 | nil=>intro us r;rw [List.map_nil] at r;cases r;exact .nil
 | cons n ns ih=>
  intro us r
  rw [List.map_cons] at r
  cases r with
  | cons r1 r2=>
   obtain ⟨t,e⟩:=r1
   subst e
   exact .cons n t (ih r2)
section
variable {X:Cx} {e:Expr} {te:TE} {lo hi:Option Expr} {tl th:TO} {pos p2:Pos}
theorem po_none:PO X none tNoPart:=by
 intro pins s σ H Q I h
 rw [evalPart_none]
 exact wpAny_pure ⟨none,H,I,.none,h⟩
theorem po_some (h:PE X e te):PO X (some e) (tPart te):=by
 intro pins s σ H Q I hw
 rw [evalPart_some]
 refine thn (h pins s σ H _ I hw) fun u s1 ⟨x,H1,I1,r1,q1⟩=>?_
 obtain ⟨i,rfl,q⟩:=q1
 obtain ⟨t,rfl⟩:=r1
 exact ⟨some i,H1,I1,.int i t,q⟩
def SlR (X:Cx) (r:V->Option Int->Option Int->Hp->VK->Prop):Prop:=
 ∀(pins:List (Addr×Obj)) (s:Shared) (σ:St) (H:Hp) (x:V) (v vl vu:Value) (lo hi:Option Int) (sl:Addr) (Q:VK),Inv X pins σ H s->RelV x v->s.heap.IsSliceOf sl vl vu .none->IsPart vl lo->IsPart vu hi->r x lo hi H Q->
  ∃T id,typeLookup (.type T) "__getitem__" = pure (some (.builtin id))/\s.TypeIs v T/\wpAny (model X.prog X.w) X.A (getItem v (.ref sl)) (EP X pins σ Q) X.xe s
def tSl (r:V->Option Int->Option Int->Hp->VK->Prop) (te:TE) (tl th:TO):TE:=fun σ H Q=>te σ H fun x H1=>tl σ H1 fun l H2=>th σ H2 fun u H3=>r x l u H3 Q
theorem pe_slice {r:V->Option Int->Option Int->Hp->VK->Prop} (hr:SlR X r) (he:PE X e te) (hl:PO X lo tl) (hu:PO X hi th):PE X (.Subscript e (.Slice lo hi none p2) pos) (tSl r te tl th):=by
 intro pins s σ H Q I h
 refine Subscript_ (thn (he pins s σ H _ I h) fun v s1 ⟨x,H1,I1,r1,q1⟩=>?_)
 refine wpAny_Slice (thn (hl pins s1 σ H1 _ I1 q1) fun vl s2 ⟨l,H2,I2,pl,q2⟩=>thn (hu pins s2 σ H2 _ I2 q2) fun vu s3 ⟨u,H3,I3,pu,q3⟩=>?_)
 rw [evalPart_none]
 refine wpAny_pure ?_
 have I4:Inv X pins σ H3 { s3 with heap:=s3.heap.push { cls:=.type "slice",data:=.fields #[vl,vu,.none] } }:=I3.kept (t':=s3.toks) fun b ob q=>Heap.get?_push_of_some _ q
 obtain ⟨T,id,hT,ht,hg⟩:=hr pins { s3 with heap:=s3.heap.push { cls:=.type "slice",data:=.fields #[vl,vu,.none] } } σ H3 x v vl vu l u s3.heap.objs.size Q I4 r1 (Heap.IsSliceOf.new ..) pl pu q3
 show wpAny (model X.prog X.w) X.A (subscriptTail e (.Slice lo hi none p2) v (.ref s3.heap.objs.size)) (EP X pins σ Q) X.xe { s3 with heap:=s3.heap.push { cls:=.type "slice",data:=.fields #[vl,vu,.none] } }
 exact tail_any (ops:=[.ref s3.heap.objs.size,v]) ht hT hg (by with_unfolding_all rfl)
def cutV (xs:List V) (lo hi:Option Int):List V:=(xs.drop (HT.sIx xs.length 0 lo)).take (HT.sIx xs.length xs.length hi - HT.sIx xs.length 0 lo)
theorem cutV_length (xs:List V) (lo hi:Option Int):(cutV xs lo hi).length<=xs.length:=by
 unfold cutV
 rw [List.length_take,List.length_drop]
 lia
def rSlT (K:PySem.W.Frag):V->Option Int->Option Int->Hp->VK->Prop:=fun x lo hi H Q=>∃a xs,x=.ref a/\SqT K H a xs/\
 ¬(HT.sIx xs.length 0 lo=0/\HT.sIx xs.length xs.length hi=xs.length)/\∀p,H p=none->Q (.ref p) (upd H p (.tup (cutV xs lo hi)))
theorem sl_tup:SlR X (rSlT X.K):=by
 intro pins s σ H x v vl vu lo hi sl Q I rx hs pl pu h
 obtain ⟨a,xs,rfl,hx,hw,q⟩:=h
 cases rx
 obtain ⟨its,r,ht,hz⟩:=I.tuple hx
 have hlen:its.toArray.size=xs.length:=by rw [List.size_toArray];exact r.length.symm
 refine ⟨"tuple",_,PyProof.Rows.slot_tuple_getitem.lookup,ht.typeIs,?_⟩
 refine HT.getItem_tuple_cut ht hs pl pu (by rw [hlen];exact hw) ?_ (by rw [hlen];exact hz)
 rw [hlen]
 refine ⟨.ref s.heap.objs.size,_,I.laid (t':=s.toks) (o:=.tup (cutV xs lo hi)) (fun b ob q=>Heap.get?_push_of_some _ q) (Nat.le_refl _) ?_,rfl,q _ (I.hok.fresh (Nat.le_refl _))⟩
 exact ⟨Nat.le_trans (cutV_length xs lo hi) hz,_,(r.drop (HT.sIx xs.length 0 lo)).take (HT.sIx xs.length xs.length hi - HT.sIx xs.length 0 lo),IsTup.new _ _⟩
def rCatT (K:PySem.W.Frag):R2:=fun x y H Q=>∃a b xs ys,x=.ref a/\y=.ref b/\SqT K H a xs/\SqT K H b ys/\xs≠[]/\xs.length+ys.length<=sizeLine/\
 (ys=[]->Q (.ref a) H)/\(ys≠[]->∀p,H p=none->Q (.ref p) (upd H p (.tup (xs++ys))))
theorem Vals.nil_iff {xs:List V} {us:List Value} (r:Vals xs us):us=[]↔xs=[]:=by
 cases r with
 | nil=>simp
 | cons _ _=>simp
theorem op_catT:OpR X (binaryOp .Add) (rCatT X.K):=by
 intro pins s σ H x y v u Q I rx ry h
 obtain ⟨a,b,xs,ys,rfl,rfl,ha,hb,hx,hz,q1,q2⟩:=h
 cases rx
 cases ry
 obtain ⟨its,r1,p1,_⟩:=I.tuple ha
 obtain ⟨its2,r2,p2,_⟩:=I.tuple hb
 refine HT.cat_tup p1 p2 (fun z=>hx (r1.nil_iff.mp z)) (fun z=>⟨.ref a,H,I,rfl,q1 (r2.nil_iff.mp z)⟩) (fun z=>?_) (by rw [<-r1.length,<-r2.length];exact hz)
 refine ⟨.ref s.heap.objs.size,_,I.laid (t':=s.toks) (o:=.tup (xs++ys)) (fun b ob q=>Heap.get?_push_of_some _ q) (Nat.le_refl _) ?_,rfl,q2 (fun w=>z (r2.nil_iff.mpr w)) _ (I.hok.fresh (Nat.le_refl _))⟩
 exact ⟨by rw [List.length_append];exact hz,_,r1.append r2,IsTup.new _ _⟩
end
end L2
namespace L2
open PySem PySem.Spec PyProof.Rows
def ixN (n:Nat) (i:Int):Option Nat:=if 0<=i then (if i < n then some i.toNat else none) else if -(n:Int)<=i then some (i+n).toNat else none
def atI {α:Type} (xs:List α) (i:Int):Option α:=(ixN xs.length i).bind fun j=>xs[j]?
theorem ixN_seq {n:Nat} {i:Int} {j:Nat} (h:ixN n i=some j):seqIndex? i n=some j/\j < n/\-(n:Int)<=i/\i < n:=by
 unfold ixN at h
 by_cases h0:0<=i
 ·rw [if_pos h0] at h
  by_cases h1:i < n
  ·rw [if_pos h1] at h
   have e:i.toNat=j:=Option.some.inj h
   exact ⟨by rw [seqIndex_of h0 h1,e],by lia,by lia,h1⟩
  ·rw [if_neg h1] at h;cases h
 ·rw [if_neg h0] at h
  by_cases h1 : -(n:Int)<=i
  ·rw [if_pos h1] at h
   have e:(i+n).toNat=j:=Option.some.inj h
   exact ⟨by rw [seqIndex_neg (by lia) h1,e],by lia,h1,by lia⟩
  ·rw [if_neg h1] at h;cases h
theorem atI_get {α:Type} {xs:List α} {i:Int} {v:α} (h:atI xs i=some v):∃j,seqIndex? i xs.length=some j/\xs[j]? = some v/\j < xs.length/\-(xs.length:Int)<=i/\i < xs.length:=by
 unfold atI at h
 cases e:ixN xs.length i with
 | none=>rw [e] at h;cases h
 | some j=>
  rw [e] at h
  obtain ⟨h1,h2,h3,h4⟩:=ixN_seq e
  exact ⟨j,h1,h,h2,h3,h4⟩
theorem atI_nat {α:Type} {xs:List α} {j:Nat} {v:α} (h:xs[j]? = some v):atI xs (j:Int)=some v:=by
 have hj:j < xs.length:=(List.getElem?_eq_some_iff.mp h).1
 have e:ixN xs.length (j:Int)=some j:=by
  unfold ixN
  rw [if_pos (by lia),if_pos (by lia)];simp
 unfold atI;rw [e];exact h
def PlainIx (b:Expr):Prop:=∀o i,subscripted b false o i=operate [o,i] (getItem o i)
def IxR (X:Cx) (r:R2):Prop:=
 ∀(value slice:Expr) (pins:List (Addr×Obj)) (s:Shared) (σ:St) (H:Hp) (x y:V) (v u:Value) (Q:VK),Inv X pins σ H s->RelV x v->RelV y u->r x y H Q->
  subscripted slice false v u=operate [v,u] (getItem v u)->wpAny (model X.prog X.w) X.A (subscriptTail value slice v u) (EP X pins σ Q) X.xe s
def MtR (X:Cx) (id:String) (r:V->List V->Hp->VK->Prop):Prop:=
 ∀(pins:List (Addr×Obj)) (s:Shared) (σ:St) (H:Hp) (x:V) (xs:List V) (v:Value) (us:List Value) (Q:VK),Inv X pins σ H s->RelV x v->Vals xs us->r x xs H Q->
  wpAny (model X.prog X.w) X.A (call (.builtin id) (v::us)) (EP X pins σ Q) X.xe s
section
variable {X:Cx} {a b:Expr} {ta tb:TE} {pos:Pos}
theorem pe_ix {r:R2} (hr:IxR X r) (ha:PE X a ta) (hb:PE X b tb) (hs:PlainIx b):PE X (.Subscript a b pos) (tOp r ta tb):=by
 intro pins s σ H Q I h
 exact Subscript_ (binT ha hb I h fun v u s2 x y H2 I2 rx ry q=>hr a b pins s2 σ H2 x y v u Q I2 rx ry q (hs _ _))
def rIxL (K:PySem.W.Frag):R2:=fun x y H Q=>∃p xs i v,x=.ref p/\y=.int i/\SqL K H p xs/\atI xs i=some v/\Q v H
def rIxT (K:PySem.W.Frag):R2:=fun x y H Q=>∃p xs i v,x=.ref p/\y=.int i/\SqT K H p xs/\atI xs i=some v/\Q v H
theorem ix_list:IxR X (rIxL X.K):=by
 intro value slice pins s σ H x y v u Q I rx ry h hs
 obtain ⟨p,xs,i,z,rfl,rfl,hq,he,q⟩:=h
 cases rx
 obtain ⟨t,rfl⟩:=ry
 obtain ⟨its,r,pl,hz⟩:=I.list hq
 obtain ⟨j,h1,h2,h3,h4,h5⟩:=atI_get he
 obtain ⟨w,ew,rw'⟩:=r.get h2
 have hl:=r.length
 have hn:=line63
 have fin:EP X pins σ Q w s:=⟨z,H,I,rw',q⟩
 by_cases h0:0<=i
 ·have hj:i.toNat=j:=by
   rw [seqIndex_of h0 h5] at h1
   exact Option.some.inj h1
  exact item_listR pl.isList h0 (by lia) (by rw [hj];simpa using ew) fin hs
 ·have hj:(i+(its.toArray.size:Int)).toNat=j:=by
   rw [seqIndex_neg (by lia) h4] at h1
   rw [List.size_toArray,<-hl]
   exact Option.some.inj h1
  exact subscriptTail_builtinR (x:=w) pl.isList.typeIs slot_list_getitem.lookup
   (wpAny_getItem_list_neg (Q:=fun r s'=>r=w/\EP X pins σ Q r s') pl.isList (by lia) (by rw [List.size_toArray] <;> lia) (by lia) (by rw [hj];simpa using ew) ⟨rfl,fin⟩) hs
theorem ix_tup:IxR X (rIxT X.K):=by
 intro value slice pins s σ H x y v u Q I rx ry h hs
 obtain ⟨p,xs,i,z,rfl,rfl,hq,he,q⟩:=h
 cases rx
 obtain ⟨t,rfl⟩:=ry
 obtain ⟨its,r,pl,hz⟩:=I.tuple hq
 obtain ⟨j,h1,h2,h3,h4,h5⟩:=atI_get he
 obtain ⟨w,ew,rw'⟩:=r.get h2
 have hl:=r.length
 have hn:=line63
 have fin:EP X pins σ Q w s:=⟨z,H,I,rw',q⟩
 exact subscriptTail_builtinR (x:=w) pl.typeIs slot_tuple_getitem.lookup
  (getItem_tuple (j:=j) (Q:=fun r s'=>r=w/\EP X pins σ Q r s') pl (by lia) (by lia) (by rw [List.size_toArray,<-hl];exact h1) (by simpa using ew) ⟨rfl,fin⟩) hs
theorem mapSeq_set (its:List Value) (n j:Nat) (u:Value):Obj.mapSeq (·.setIfInBounds j u) { cls:=.type "list",data:=.seq its.toArray n }={ cls:=.type "list",data:=.seq (its.set j u).toArray n }:=by
 simp [Obj.mapSeq]
theorem Inv.lst {pins:List (Addr×Obj)} {σ:St} {H:Hp} {s:Shared} {p:Addr} {xs:List V} (I:Inv X pins σ H s) (h:H p=some (.lst xs)) :
  ∃(its:List Value) (n:Nat),Vals xs its/\s.heap.get? p=some { cls:=.type "list",data:=.seq its.toArray n }/\xs.length<=sizeLine:=by
 obtain ⟨z,its,n,r,e⟩:=I.hok p _ h
 exact ⟨its,n,r,e,z⟩
theorem Inv.lstUpd {pins:List (Addr×Obj)} {σ:St} {H:Hp} {s:Shared} {p:Addr} {xs ys:List V} {its its':List Value} {n n':Nat} {f:Obj->Obj} (I:Inv X pins σ H s) (h:H p=some (.lst xs))
  (ho:s.heap.get? p=some { cls:=.type "list",data:=.seq its.toArray n }) (hf:f { cls:=.type "list",data:=.seq its.toArray n }={ cls:=.type "list",data:=.seq its'.toArray n' }) (r:Vals ys its') (hz:ys.length<=sizeLine) (t:Nat) :
  Inv X pins σ (upd H p (.lst ys)) { s with heap:=s.heap.update p f,toks:=t }:=by
 have e:(s.heap.update p f).get? p=some { cls:=.type "list",data:=.seq its'.toArray n' }:=by
  rw [Heap.get?_update_self f ho (by rw [hf] <;> rfl),hf]
 refine I.write (x:=p) (e:=p) (by rw [h];trivial) (.inl rfl) (fun b u hb q=>(Heap.get?_update_other _ _ (Ne.symm hb)).trans q) ⟨_,e⟩ ?_
 exact ⟨hz,its',n',r,e⟩
def rSetL:V->V->V->Hp->(Hp->Prop)->Prop:=fun o i v H Q=>∃p xs k j,o=.ref p/\i=.int k/\H p=some (.lst xs)/\ixN xs.length k=some j/\Q (upd H p (.lst (xs.set j v)))
theorem set_list:PSet X rSetL:=by
 intro pins s σ H o i v ov iv u Q I ro ri rv h
 obtain ⟨p,xs,k,j,rfl,rfl,hp,hj,q⟩:=h
 cases ro
 obtain ⟨t,rfl⟩:=ri
 obtain ⟨its,n,r,ho,hz⟩:=I.lst hp
 obtain ⟨h1,h2,h3,h4⟩:=ixN_seq hj
 have hl:=r.length
 have hn:=line63
 have I':Inv X pins σ (upd H p (.lst (xs.set j v))) { s with heap:=s.heap.update p (Obj.mapSeq (·.setIfInBounds j u)) }:=
  I.lstUpd hp ho (mapSeq_set its n j u) (r.set rv j) (by rw [List.length_set];exact hz) s.toks
 by_cases h0:0<=k
 ·have hk:k.toNat=j:=by
   rw [seqIndex_of h0 h4] at h1
   exact Option.some.inj h1
  exact PySem.W.ki_setAt ho h0 (by lia) (by rw [List.size_toArray,<-hl];exact h4) (by rw [hk];exact ⟨_,I',q⟩)
 ·have hk:(k+(its.toArray.size:Int)).toNat=j:=by
   rw [seqIndex_neg (by lia) h3] at h1
   rw [List.size_toArray,<-hl]
   exact Option.some.inj h1
  exact PySem.W.ki_setBack ho (by lia) (by rw [List.size_toArray,<-hl];exact h3) (by lia) (by rw [hk];exact ⟨_,I',q⟩)
theorem slice_bounds (lo hi:Option Int) (n:Nat):(sliceBounds lo hi none n).1=((HT.sIx n 0 lo:Nat):Int)/\(sliceBounds lo hi none n).2.1=((HT.sIx n n hi:Nat):Int)/\(sliceBounds lo hi none n).2.2=1:=by
 refine ⟨?_,?_,rfl⟩
 ·cases lo with
  | none=>simp [sliceBounds,HT.sIx]
  | some i=>
   simp only [sliceBounds,HT.sIx,Option.getD_none,show (1:Int) > 0 by decide,if_true]
   by_cases h:i < 0
   ·simp only [h,if_true] <;> lia
   ·simp only [h,if_false] <;> lia
 ·cases hi with
  | none=>simp [sliceBounds,HT.sIx]
  | some i=>
   simp only [sliceBounds,HT.sIx,Option.getD_none,show (1:Int) > 0 by decide,if_true]
   by_cases h:i < 0
   ·simp only [h,if_true] <;> lia
   ·simp only [h,if_false] <;> lia
theorem slicePick_cut (its:List Value) (lo hi:Option Int):slicePick its.toArray lo hi none=((its.drop (HT.sIx its.length 0 lo)).take (HT.sIx its.length its.length hi - HT.sIx its.length 0 lo)).toArray:=by
 obtain ⟨h1,h2,h3⟩:=slice_bounds lo hi its.toArray.size
 unfold slicePick
 rw [h1,h2,h3]
 simp only [sliceRange_one,pick_run,List.size_toArray] <;> rfl
def rSlL (K:PySem.W.Frag):V->Option Int->Option Int->Hp->VK->Prop:=fun x lo hi H Q=>∃a xs,x=.ref a/\SqL K H a xs/\∀p,H p=none->Q (.ref p) (upd H p (.lst (cutV xs lo hi)))
theorem sl_list:SlR X (rSlL X.K):=by
 intro pins s σ H x v vl vu lo hi sl Q I rx hs pl pu h
 obtain ⟨a,xs,rfl,hx,q⟩:=h
 cases rx
 obtain ⟨its,r,ht,hz⟩:=I.list hx
 have hlen:=r.length
 refine ⟨"list",_,slot_list_getitem.lookup,ht.isList.typeIs,?_⟩
 refine wpAny_getItem_list_slice ht.isList hs pl pu .none (by simp) ?_ (by rw [List.size_toArray] <;> lia)
 rw [slicePick_cut,<-hlen]
 refine ⟨.ref s.heap.objs.size,_,I.laid (t':=s.toks) (o:=.lst (cutV xs lo hi)) (fun b ob q=>Heap.get?_push_of_some _ q) (Nat.le_refl _) ?_,rfl,q _ (I.hok.fresh (Nat.le_refl _))⟩
 exact ⟨Nat.le_trans (cutV_length xs lo hi) hz,_,0,(r.drop (HT.sIx xs.length 0 lo)).take (HT.sIx xs.length xs.length hi - HT.sIx xs.length 0 lo),Heap.get?_push_size _ rfl⟩
def flatV:V->Bool
 | .non=>true
 | .bl _=>true
 | .int _=>true
 | .str _=>true
 | _=>false
def eqV:V->V->Bool
 | .non,.non=>true
 | .bl a,.bl b=>a == b
 | .bl a,.int b=>(if a then 1 else 0) == b
 | .int a,.bl b=>a == (if b then 1 else 0)
 | .int a,.int b=>a == b
 | .str a,.str b=>a == b
 | _,_=>false
theorem eqAt_V {A:Around} {s:Shared} {y x:V} {u v:Value} (ry:RelV y u) (rx:RelV x v) (fy:flatV y=true) (fx:flatV x=true):SeqAt.EqAt A s u v (eqV y x):=by
 cases y with
 | non=>
  cases ry
  cases x with
  | non=>cases rx;exact SeqAt.EqAt.same _
  | bl b=>cases rx;exact SeqAt.EqAt.none_bool b
  | int b=>obtain ⟨t,rfl⟩:=rx;exact SeqAt.EqAt.none_int b t
  | str b=>obtain ⟨t,rfl⟩:=rx;exact SeqAt.EqAt.none_str b t
  | _=>exact absurd (show false=true from fx) Bool.false_ne_true
 | bl a=>
  cases ry
  cases x with
  | non=>cases rx;exact SeqAt.EqAt.bool_none a
  | bl b=>cases rx;exact SeqAt.EqAt.bool_bool a b
  | int b=>obtain ⟨t,rfl⟩:=rx;exact SeqAt.EqAt.bool_int a b t
  | str b=>obtain ⟨t,rfl⟩:=rx;exact SeqAt.EqAt.bool_str a b t
  | _=>exact absurd (show false=true from fx) Bool.false_ne_true
 | int a=>
  obtain ⟨t',rfl⟩:=ry
  cases x with
  | non=>cases rx;exact SeqAt.EqAt.int_none a t'
  | bl b=>cases rx;exact SeqAt.EqAt.int_bool a t' b
  | int b=>obtain ⟨t,rfl⟩:=rx;exact SeqAt.EqAt.int_int a t' b t
  | str b=>obtain ⟨t,rfl⟩:=rx;exact SeqAt.EqAt.int_str a t' b t
  | _=>exact absurd (show false=true from fx) Bool.false_ne_true
 | str a=>
  obtain ⟨t',rfl⟩:=ry
  cases x with
  | non=>cases rx;exact SeqAt.EqAt.str_none a t'
  | bl b=>cases rx;exact SeqAt.EqAt.str_bool a t' b
  | int b=>obtain ⟨t,rfl⟩:=rx;exact SeqAt.EqAt.str_int a t' b t
  | str b=>obtain ⟨t,rfl⟩:=rx;exact SeqAt.EqAt.str_str a t' b t
  | _=>exact absurd (show false=true from fx) Bool.false_ne_true
 | _=>exact absurd (show false=true from fy) Bool.false_ne_true
def eqU (x:V) (u:Value):Bool:=match u with
 | .none=>eqV .non x
 | .bool b=>eqV (.bl b) x
 | .int i _=>eqV (.int i) x
 | .str z _=>eqV (.str z) x
 | _=>false
theorem eqU_of {x y:V} {u:Value} (r:RelV y u) (f:flatV y=true):eqU x u=eqV y x:=by
 cases y with
 | non=>cases r;rfl
 | bl b=>cases r;rfl
 | int i=>obtain ⟨t,rfl⟩:=r;rfl
 | str z=>obtain ⟨t,rfl⟩:=r;rfl
 | _=>exact absurd (show false=true from f) Bool.false_ne_true
theorem any_eqU {x:V}:∀{xs:List V} {us:List Value},Vals xs us->xs.all flatV=true->us.any (eqU x)=xs.any fun y=>eqV y x
 | _,_,.nil,_=>rfl
 | y::xs,u::us,.cons r t,f=>by
  rw [List.all_cons,Bool.and_eq_true] at f
  rw [List.any_cons,List.any_cons,eqU_of r f.1,any_eqU t f.2]
theorem mem_eqAt {A:Around} {s:Shared} {x:V} {v:Value} (rx:RelV x v) (fx:flatV x=true):∀{xs:List V} {us:List Value},Vals xs us->xs.all flatV=true->∀u∈us,SeqAt.EqAt A s u v (eqU x u)
 | _,_,.nil,_=>fun u hu=>by cases hu
 | y::xs,u::us,.cons r t,f=>fun u' hu=>by
  rw [List.all_cons,Bool.and_eq_true] at f
  rcases List.mem_cons.mp hu with rfl | hu
  ·rw [eqU_of r f.1];exact eqAt_V r rx f.1 fx
  ·exact mem_eqAt rx fx t f.2 u' hu
def inV (x:V) (xs:List V):Bool:=xs.any fun y=>eqV y x
def rIn (K:PySem.W.Frag) (neg:Bool):R2:=fun x y H Q=>∃p xs,y=.ref p/\(SqL K H p xs\/SqT K H p xs)/\flatV x=true/\xs.all flatV=true/\Q (.bl (if neg then !inV x xs else inV x xs)) H
theorem op_in_seq:OpR X (compareOp .In) (rIn X.K false):=by
 intro pins s σ H x y v u Q I rx ry h
 obtain ⟨p,xs,rfl,hq,fx,fs,q⟩:=h
 cases ry
 rcases hq with hq | hq
 ·obtain ⟨its,r,pl,hz⟩:=I.list hq
  refine SeqAt.in_listAt (eqU x) pl.isList (fun w hw=>mem_eqAt rx fx r fs w (by simpa using hw)) ⟨.bl _,H,I,rfl,?_⟩
  rw [show its.toArray.any (eqU x)=its.any (eqU x) by simp,any_eqU r fs]
  exact q
 ·obtain ⟨its,r,pl,hz⟩:=I.tuple hq
  refine SeqAt.in_tupleAt (eqU x) pl (fun w hw=>mem_eqAt rx fx r fs w (by simpa using hw)) ⟨.bl _,H,I,rfl,?_⟩
  rw [show its.toArray.any (eqU x)=its.any (eqU x) by simp,any_eqU r fs]
  exact q
theorem op_notIn_seq:OpR X (compareOp .NotIn) (rIn X.K true):=by
 intro pins s σ H x y v u Q I rx ry h
 obtain ⟨p,xs,rfl,hq,fx,fs,q⟩:=h
 cases ry
 rcases hq with hq | hq
 ·obtain ⟨its,r,pl,hz⟩:=I.list hq
  refine SeqAt.notIn_listAt (eqU x) pl.isList (fun w hw=>mem_eqAt rx fx r fs w (by simpa using hw)) ⟨.bl _,H,I,rfl,?_⟩
  rw [show its.toArray.any (eqU x)=its.any (eqU x) by simp,any_eqU r fs]
  exact q
 ·obtain ⟨its,r,pl,hz⟩:=I.tuple hq
  refine SeqAt.notIn_tupleAt (eqU x) pl (fun w hw=>mem_eqAt rx fx r fs w (by simpa using hw)) ⟨.bl _,H,I,rfl,?_⟩
  rw [show its.toArray.any (eqU x)=its.any (eqU x) by simp,any_eqU r fs]
  exact q
theorem call_len_seq:CallR X (.builtin "len") (fun xs H Q=>∃p ys,xs=[.ref p]/\(SqL X.K H p ys\/SqT X.K H p ys)/\Q (.int ys.length) H):=by
 intro pins s σ H xs us Q I r h
 obtain ⟨p,ys,rfl,hq,q⟩:=h
 obtain ⟨u,rfl,rx⟩:=vals1 r
 cases rx
 have hn:=line63
 rcases hq with hq | hq
 ·obtain ⟨its,r',pl,hz⟩:=I.list hq
  have hlen:=r'.length
  exact Calls.call_len_list pl.isList (by simp only [List.size_toArray] <;> lia) ⟨.int ys.length,H,I.tok _,⟨s.toks+1,by rw [List.size_toArray,hlen]⟩,q⟩
 ·obtain ⟨its,r',pl,hz⟩:=I.tuple hq
  have hlen:=r'.length
  exact len_tuple pl (by simp only [List.size_toArray] <;> lia) ⟨.int ys.length,H,I.tok _,⟨s.toks+1,by rw [List.size_toArray,hlen]⟩,q⟩
theorem call_list_of:CallR X (.type "list") (fun xs H Q=>∃p ys,xs=[.ref p]/\(SqL X.K H p ys\/SqT X.K H p ys)/\∀l,H l=none->Q (.ref l) (upd H l (.lst ys))):=by
 intro pins s σ H xs us Q I r h
 obtain ⟨p,ys,rfl,hq,q⟩:=h
 obtain ⟨u,rfl,rx⟩:=vals1 r
 cases rx
 have fin:∀(its:List Value),Vals ys its->ys.length<=sizeLine->∀(h':Heap) (c':Nat),(∀b o',s.heap.get? b=some o'->h'.get? b=some o')->
   h'.get? s.heap.objs.size=some { cls:=.type "list",dict:=none,data:=.seq its.toArray c',slots:=#[] }->EP X pins σ Q (.ref s.heap.objs.size) { s with heap:=h' }:=fun its r' hz h' c' kp e=>
  ⟨.ref s.heap.objs.size,_,I.laid (t':=s.toks) kp (Nat.le_refl _) (show ObjOk X.prog X.w _ h' _ (.lst ys) from ⟨hz,its,c',r',e⟩),rfl,q _ (I.hok.fresh (Nat.le_refl _))⟩
 rcases hq with hq | hq
 ·obtain ⟨its,r',pl,hz⟩:=I.list hq
  have hlen:=r'.length
  obtain ⟨o,ho,hc,n,hd⟩:=pl.isList
  exact call_list_seq p (.inl rfl) ho hc hd (fun h' c' kp e=>fin its r' hz h' c' kp e) (by simp only [List.size_toArray] <;> lia)
 ·obtain ⟨its,r',pl,hz⟩:=I.tuple hq
  have hlen:=r'.length
  obtain ⟨o,ho,hc,n,hd⟩:=pl
  exact call_list_seq p (.inr rfl) ho hc hd (fun h' c' kp e=>fin its r' hz h' c' kp e) (by simp only [List.size_toArray] <;> lia)
theorem call_tuple_of:CallR X (.type "tuple") (fun xs H Q=>∃p ys,xs=[.ref p]/\((SqL X.K H p ys/\∀l,H l=none->Q (.ref l) (upd H l (.tup ys)))\/(SqT X.K H p ys/\Q (.ref p) H))):=by
 intro pins s σ H xs us Q I r h
 obtain ⟨p,ys,rfl,h⟩:=h
 obtain ⟨u,rfl,rx⟩:=vals1 r
 cases rx
 rcases h with ⟨hq,q⟩ | ⟨hq,q⟩
 ·obtain ⟨its,r',pl,hz⟩:=I.list hq
  have hlen:=r'.length
  refine call_tuple_list pl.isList (fun h' kp=>?_) (by simp only [List.size_toArray] <;> lia)
  have I1:Inv X pins σ H { s with heap:=h' }:=I.kept (t':=s.toks) kp
  have I2:Inv X pins σ (upd H h'.objs.size (.tup ys)) { s with heap:=h'.push { cls:=.type "tuple",data:=.seq its.toArray } }:=
   I1.laid (t':=s.toks) (fun b o e=>Heap.get?_push_of_some _ e) (Nat.le_refl _) (show ObjOk X.prog X.w _ _ _ (.tup ys) from ⟨hz,its,r',IsTup.new _ _⟩)
  exact ⟨.ref h'.objs.size,_,I2,rfl,q _ (I1.hok.fresh (Nat.le_refl _))⟩
 ·obtain ⟨its,r',pl,hz⟩:=I.tuple hq
  exact call_tuple_same pl ⟨.ref p,H,I,rfl,q⟩
def tyV (K:PySem.W.Frag) (T:String) (x:V) (H:Hp):Prop:=match x with
 | .str _=>T = "str"
 | .int _=>T = "int"
 | .ref p=>(T = "list"/\∃xs,SqL K H p xs)\/(T = "tuple"/\∃o,K.lookup p=some o/\o.cls=.type "tuple"/\o.dict=none)\/
   (T = "dict"/\((∃kvs,H p=some (.dK kvs))\/∃kvs,H p=some (.dT kvs)))\/(T = "set"/\∃S n,H p=some (.set S n))
 | _=>False
theorem tyV_is {pins:List (Addr×Obj)} {σ:St} {H:Hp} {s:Shared} {T:String} {x:V} {v:Value} (I:Inv X pins σ H s) (r:RelV x v) (ty:tyV X.K T x H) :
  s.TypeIs v T/\∀a,v=.ref a->∃ob,s.heap.get? a=some ob/\ob.dict=none:=by
 cases x with
 | str z=>
  obtain ⟨t,rfl⟩:=r
  cases (show T = "str" from ty)
  exact ⟨typeIs_str s z t,fun _ e=>nomatch e⟩
 | int i=>
  obtain ⟨t,rfl⟩:=r
  cases (show T = "int" from ty)
  exact ⟨typeIs_int s i t,fun _ e=>nomatch e⟩
 | ref p=>
  cases r
  rcases ty with ⟨rfl,xs,hq⟩ | ⟨rfl,o,hk,hc,hd⟩ | ⟨rfl,hk⟩ | ⟨rfl,S,n,hk⟩
  ·obtain ⟨its,_,pl,_⟩:=I.list hq
   refine ⟨pl.isList.typeIs,fun a e=>?_⟩
   cases e
   obtain ⟨o,n,e,c,hd,_⟩:=pl
   exact ⟨o,e,hd⟩
  ·refine ⟨⟨o,I.kIn p o hk,hc⟩,fun a e=>?_⟩
   cases e
   exact ⟨o,I.kIn _ o hk,hd⟩
  ·have z:∃o,s.heap.get? p=some o/\o.ExactDict:=by
    rcases hk with ⟨kvs,hk⟩ | ⟨kvs,hk⟩
    ·obtain ⟨_,_,_,_,o,_,_,e,ex,_⟩:=I.hok p _ hk
     exact ⟨o,e,ex⟩
    ·obtain ⟨_,_,_,_,o,_,_,e,ex,_⟩:=I.hok p _ hk
     exact ⟨o,e,ex⟩
   obtain ⟨o,e,ex⟩:=z
   refine ⟨⟨o,e,ex.1⟩,fun a e2=>?_⟩
   cases e2
   exact ⟨o,e,ex.2.1⟩
  ·obtain ⟨o,_,_,_,e,ex,_⟩:=I.hok p _ hk
   refine ⟨⟨o,e,ex.1⟩,fun a e2=>?_⟩
   cases e2
   exact ⟨o,e,ex.2.1⟩
 | _=>exact False.elim ty
def tBM0 (K:PySem.W.Frag) (T:String) (r:V->List V->Hp->VK->Prop) (to:TE):TE:=fun σ H Q=>to σ H fun x H1=>tyV K T x H1/\r x [] H1 Q
def tBM (K:PySem.W.Frag) (T:String) (r:V->List V->Hp->VK->Prop) (to:TE) (t:TA):TE:=fun σ H Q=>to σ H fun x H1=>tyV K T x H1/\t σ H1 fun xs H2=>r x xs H2 Q
variable {o e:Expr} {es:List Expr} {to:TE} {t:TA} {name:Str} {apos cpos:Pos} {T id:String} {r:V->List V->Hp->VK->Prop}
theorem pe_bm (pa:PlainAttrs T) (slot:Slot T name id) (hty:typeOf (.builtin id)=pure (.type "method_descriptor")) (hm:MtR X id r) (ho:PE X o to) (ha:PA X (e::es) t)
  (hbase:attributeBase o name X.env (eval o X.env)=eval o X.env:=by rfl)
  (hfew:((backTo cpos (starEach (e::es) X.env)).all (fun x=>!x.1) && (backToKw cpos (keywordEach [] X.env)).all (fun x=>x.1.isSome)
   && decide ((e::es).length+([]:List Keyword).length+(if ([]:List Keyword).isEmpty then 0 else 1) < 30))=true:=by rfl)
  (hline:(apos.endLine == cpos.line)=true:=by rfl) (hs:starEach (e::es) X.env=(false,eval e X.env)::starEach es X.env:=by rfl) (hplain:(backTo cpos (starEach es X.env)).any (·.1)=false:=by rfl) :
  PE X (.Call (.Attribute o name apos) (e::es) [] cpos) (tBM X.K T r to t):=by
 intro pins s σ H Q I h
 refine wpAny_Call_method_late hbase hfew hline rfl (thn (ho pins s σ H _ I h) fun v s1 ⟨x,H1,I1,r1,ty,q1⟩=>?_)
 obtain ⟨h1,h2⟩:=tyV_is I1 r1 ty
 refine ⟨T,id,pa,slot,hty,h1,h2,?_⟩
 have hA:=ha cpos pins s1 σ H1 _ I1 q1
 rw [hs] at hA ⊢
 refine Calls.callWith_builtin (by show (false || (backTo cpos (starEach es X.env)).any (·.1))=false;rw [hplain] <;> rfl) (Calls.evalArgs_plain ?_)
 exact thn hA fun us s2 ⟨vs,H2,I2,r2,q2⟩=>hm pins s2 σ H2 x vs v us Q I2 r1 r2 q2
end
end L2
namespace L2
open PySem PySem.Spec PyProof.Rows
def MtM (X:Cx) (id:String) (r:V->List V->Hp->VK->Prop):Prop:=
 ∀(pins:List (Addr×Obj)) (s:Shared) (σ:St) (H:Hp) (x:V) (xs:List V) (v:Value) (us:List Value) (Q:VK),Inv X pins σ H s->RelV x v->Vals xs us->r x xs H Q->
  wpAny (model X.prog X.w) X.A (call (.builtin id) (v::us)) (EP X pins σ Q) X.xe s
theorem Vals.one:∀{x:V} {us:List Value},Vals [x] us->∃u,us=[u]/\RelV x u
 | _,_,.cons r .nil=>⟨_,rfl,r⟩
theorem Vals.two:∀{x y:V} {us:List Value},Vals [x,y] us->∃u v,us=[u,v]/\RelV x u/\RelV y v
 | _,_,_,.cons r (.cons q .nil)=>⟨_,_,rfl,r,q⟩
section
variable {X:Cx} {pins:List (Addr×Obj)} {σ:St} {H:Hp} {s:Shared} {l b:Addr} {xs ys zs:List V}
theorem Inv.lset {its its':List Value} {n:Nat} {f:Array Value->Array Value} {t':Nat} (I:Inv X pins σ H s) (hH:H l=some (.lst xs))
  (e:s.heap.get? l=some { cls:=.type "list",data:=.seq its.toArray n }) (hf:f its.toArray=its'.toArray) (hv:Vals ys its') (hz:ys.length<=sizeLine) :
  Inv X pins σ (upd H l (.lst ys)) { s with heap:=s.heap.update l (Obj.mapSeq f),toks:=t' }:=by
 have q:=PySem.IsL.update e f
 rw [hf] at q
 refine I.write (x:=l) (e:=l) (by rw [hH];exact trivial) (.inl rfl) (fun b' u hb hu=>(Heap.get?_update_other s.heap (Obj.mapSeq f) (Ne.symm hb)).trans hu) ⟨_,q⟩ ?_
 exact ⟨hz,its',_,hv,q⟩
theorem Inv.lnew {its:List Value} {t':Nat} (I:Inv X pins σ H s) (hv:Vals ys its) (hz:ys.length<=sizeLine) :
  Inv X pins σ (upd H s.heap.objs.size (.lst ys)) { s with heap:=s.heap.push { cls:=.type "list",data:=.seq its.toArray },toks:=t' }:=
 I.laid (fun _ _ q=>Heap.get?_push_of_some _ q) (Nat.le_refl _) ⟨hz,its,0,hv,Heap.get?_push_size _ rfl⟩
theorem Inv.fresh (I:Inv X pins σ H s):H s.heap.objs.size=none:=I.hok.fresh (Nat.le_refl _)
theorem Inv.lstM (I:Inv X pins σ H s) (hH:H l=some (.lst xs)):xs.length<=sizeLine/\∃(its:List Value) (n:Nat),Vals xs its/\xs.length=its.length/\s.heap.get? l=some { cls:=.type "list",data:=.seq its.toArray n }:=by
 obtain ⟨z,its,n,r,e⟩:=I.hok l _ hH
 exact ⟨z,its,n,r,r.length,e⟩
end
section
variable {X:Cx}
def rAppend:V->List V->Hp->VK->Prop:=fun x vs H Q=>∃l xs y,x=.ref l/\vs=[y]/\H l=some (.lst xs)/\xs.length < sizeLine/\Q .non (upd H l (.lst (xs++[y])))
theorem mt_append:MtM X "list.append" rAppend:=by
 intro pins s σ H x vs v us Q I rx rv h
 obtain ⟨l,xs,y,rfl,rfl,hH,hz,q⟩:=h
 cases rx
 obtain ⟨u,rfl,ru⟩:=rv.one
 obtain ⟨z,its,n,r,hl,e⟩:=I.lstM hH
 refine call_meets F.slot_list_append ⟨_,e,rfl⟩ F.entry_list_append (F.args_list_append_2 _ _) (PySem.list_append l its.toArray n u (by rw [List.size_toArray];lia)) ⟨e,?_⟩
 refine ⟨.non,_,I.lset (its':=its++[u]) hH e (by simp) (r.append (.cons ru .nil)) ?_,rfl,q⟩
 rw [List.length_append,List.length_singleton]
 lia
def rExtend:V->List V->Hp->VK->Prop:=fun x vs H Q=>∃l b xs zs,x=.ref l/\vs=[.ref b]/\H l=some (.lst xs)/\H b=some (.lst zs)/\xs.length+zs.length<=sizeLine/\Q .non (upd H l (.lst (xs++zs)))
def rPopAt:V->List V->Hp->VK->Prop:=fun x vs H Q=>∃l xs i k y,x=.ref l/\vs=[.int i]/\H l=some (.lst xs)/\-(2 ^ 63)<=i/\i < 2 ^ 63/\seqIndex? i xs.length=some k/\xs[k]? = some y/\Q y (upd H l (.lst (xs.eraseIdx k)))
def rReverse:V->List V->Hp->VK->Prop:=fun x vs H Q=>∃l xs,x=.ref l/\vs=[]/\H l=some (.lst xs)/\Q .non (upd H l (.lst xs.reverse))
def rClear:V->List V->Hp->VK->Prop:=fun x vs H Q=>∃l xs,x=.ref l/\vs=[]/\H l=some (.lst xs)/\Q .non (upd H l (.lst []))
def rCat:R2:=fun x y H Q=>∃l b xs zs,x=.ref l/\y=.ref b/\H l=some (.lst xs)/\H b=some (.lst zs)/\xs.length+zs.length<=sizeLine/\∀p,H p=none->Q (.ref p) (upd H p (.lst (xs++zs)))
theorem op_cat:OpR X (binaryOp .Add) rCat:=by
 intro pins s σ H x y v u Q I rx ry h
 obtain ⟨l,b,xs,zs,rfl,rfl,hH,hB,hz,q⟩:=h
 cases rx
 cases ry
 obtain ⟨z,its,n,r,hl,e⟩:=I.lstM hH
 obtain ⟨z2,its2,n2,r2,hl2,e2⟩:=I.lstM hB
 refine PySem.P.add_list e e2 ?_ (by rw [List.size_toArray,List.size_toArray];lia)
 have ea:its.toArray++its2.toArray=(its++its2).toArray:=by simp
 rw [ea]
 exact ⟨.ref _,_,I.lnew (t':=s.toks) (r.append r2) (by rw [List.length_append];lia),rfl,q _ I.fresh⟩
end
section
variable {prog:Program} {w:World} {A:Around} {E:Value->Shared->Prop} {s:Shared}
end
section
variable {X:Cx}
end
end L2
namespace L2
open PySem PySem.Spec PyProof.Rows
section
variable {κ:Type} [DecidableEq κ]
def valV (kvs:List (κ×V)) (k:κ):Option V:=(kvs.find? fun kv=>decide (kv.1=k)).map (·.2)
def putK (kvs:List (κ×V)) (k:κ) (v:V):List (κ×V):=
 if (kvs.any fun kv=>decide (kv.1=k))=true then kvs.map (fun kv=>if kv.1=k then (kv.1,v) else kv) else kvs++[(k,v)]
def dropK (kvs:List (κ×V)) (k:κ):List (κ×V):=kvs.filter fun kv=>decide (kv.1≠k)
theorem valV_pos {p:κ×V} {r:List (κ×V)} {k:κ} (e:p.1=k):valV (p::r) k=some p.2:=by simp [valV,List.find?_cons,e]
theorem valV_neg {p:κ×V} {r:List (κ×V)} {k:κ} (e:¬p.1=k):valV (p::r) k=valV r k:=by simp [valV,List.find?_cons,e]
theorem valV_any (k:κ):∀kvs:List (κ×V),(kvs.any fun kv=>decide (kv.1=k))=(valV kvs k).isSome
 | []=>rfl
 | p::r=>by
  rw [List.any_cons]
  by_cases e:p.1=k
  ·simp only [valV_pos e,decide_eq_true e,Bool.true_or,Option.isSome_some]
  ·rw [valV_neg e,decide_eq_false e,Bool.false_or];exact valV_any k r
theorem length_putK (kvs:List (κ×V)) (k:κ) (v:V):(putK kvs k v).length<=kvs.length+1:=by
 unfold putK
 split
 ·rw [List.length_map];lia
 ·rw [List.length_append,List.length_cons,List.length_nil];lia
theorem putK_new {kvs:List (κ×V)} {k:κ} (v:V) (h:valV kvs k=none):putK kvs k v=kvs++[(k,v)]:=by
 unfold putK
 rw [valV_any,h]
 exact if_neg (by decide)
theorem RelO.isSome_eq {o:Option V} {u:Option Value} (r:RelO o u):o.isSome=u.isSome:=by
 cases o with
 | none=>cases u with
  | none=>rfl
  | some _=>exact (show False from r).elim
 | some _=>cases u with
  | none=>exact (show False from r).elim
  | some _=>rfl
theorem KV.val {kvs:List (κ×V)} {vs:List (κ×Value)} (r:KV kvs vs) (k:κ):RelO (valV kvs k) (valueAt vs k):=by
 unfold KV at r
 induction r with
 | nil=>exact True.intro
 | @cons p q ps qs h t ih=>
  obtain ⟨h1,h2⟩:=h
  by_cases e:p.1=k
  ·have e':q.1=k:=h1.symm.trans e
   have b:valueAt (q::qs) k=some q.2:=by simp [valueAt,List.find?_cons,e']
   rw [valV_pos e,b];exact h2
  ·have e':¬q.1=k:=fun z=>e (h1.trans z)
   have b:valueAt (q::qs) k=valueAt qs k:=by simp [valueAt,List.find?_cons,e']
   rw [valV_neg e,b];exact ih
theorem KV.any {kvs:List (κ×V)} {vs:List (κ×Value)} (r:KV kvs vs) (k:κ):(kvs.any fun kv=>decide (kv.1=k))=vs.any fun kv=>decide (kv.1=k):=by
 unfold KV at r
 induction r with
 | nil=>rfl
 | cons h t ih=>rw [List.any_cons,List.any_cons,ih,h.1]
theorem KV.repl {kvs:List (κ×V)} {vs:List (κ×Value)} (r:KV kvs vs) (k:κ) {y:V} {u:Value} (ry:RelV y u) :
  KV (kvs.map fun kv=>if kv.1=k then (kv.1,y) else kv) (vs.map fun kv=>if kv.1=k then (kv.1,u) else kv):=by
 unfold KV at r ⊢
 induction r with
 | nil=>exact .nil
 | @cons p q ps qs h t ih=>
  rw [List.map_cons,List.map_cons]
  refine .cons ?_ ih
  obtain ⟨h1,h2⟩:=h
  by_cases e:p.1=k
  ·rw [if_pos e,if_pos (h1.symm.trans e)];exact ⟨h1,ry⟩
  ·rw [if_neg e,if_neg (fun z=>e (h1.trans z))];exact ⟨h1,h2⟩
theorem KV.put {kvs:List (κ×V)} {vs:List (κ×Value)} (r:KV kvs vs) (k:κ) {y:V} {u:Value} (ry:RelV y u):KV (putK kvs k y) (stored vs k u):=by
 unfold putK stored
 rw [r.any k]
 by_cases e:(vs.any fun kv=>decide (kv.1=k))=true
 ·rw [if_pos e,if_pos e];exact r.repl k ry
 ·rw [if_neg e,if_neg e];exact Paired.snoc r ⟨rfl,ry⟩
theorem KV.length {kvs:List (κ×V)} {vs:List (κ×Value)} (r:KV kvs vs):kvs.length=vs.length:=Paired.length r
end
theorem kV_is {P:Program} {w:World} {k:Key} {u:Value} (r:RelV (kV k) u):(mixKind P w).is k u=true:=by
 cases k with
 | inl i=>obtain ⟨t,e⟩:=(show ∃t,u=Value.int i t from r);subst e;exact mixKind_int P w i t
 | inr x=>obtain ⟨t,e⟩:=(show ∃t,u=Value.str x t from r);subst e;exact mixKind_str P w x t
theorem items_are {P:Program} {w:World}:∀{ks:List Key} {us:List Value},Vals (ks.map kV) us->ItemsAre (mixKind P w) ks us
 | [],_,r=>by rw [List.map_nil] at r;cases r;exact .nil
 | k::ks,_,r=>by
  rw [List.map_cons] at r
  cases r with
  | cons h t=>exact .cons (kV_is h) (items_are t)
abbrev KT (H:Hp):List (List Key×V)->List (List Key×Addr×Value)->Prop:=Paired fun p q=>p.1=q.1/\H q.2.1=some (.tup (p.1.map kV))/\RelV p.2 q.2.2
theorem KT.val {H:Hp} {kvs:List (List Key×V)} {xs:List (List Key×Addr×Value)} (r:KT H kvs xs) (k:List Key):RelO (valV kvs k) ((atKey xs k).map (·.2)):=by
 induction r with
 | nil=>exact True.intro
 | @cons p q ps qs h t ih=>
  obtain ⟨h1,_,h2⟩:=h
  by_cases e:p.1=k
  ·have e':q.1=k:=h1.symm.trans e
   have b:atKey (q::qs) k=some q.2:=by simp [atKey,List.find?_cons,e']
   rw [valV_pos e,b];exact h2
  ·have e':¬q.1=k:=fun z=>e (h1.trans z)
   have b:atKey (q::qs) k=atKey qs k:=by simp [atKey,List.find?_cons,e']
   rw [valV_neg e,b];exact ih
theorem KT.repl {H:Hp} {kvs:List (List Key×V)} {xs:List (List Key×Addr×Value)} (r:KT H kvs xs) (k:List Key) {y:V} {u:Value} (ry:RelV y u) :
  KT H (kvs.map fun kv=>if kv.1=k then (kv.1,y) else kv) (xs.map (putAt k u)):=by
 induction r with
 | nil=>exact .nil
 | @cons p q ps qs h t ih=>
  rw [List.map_cons,List.map_cons]
  refine .cons ?_ ih
  obtain ⟨h1,h2,h3⟩:=h
  unfold putAt
  by_cases e:p.1=k
  ·rw [if_pos e,if_pos (h1.symm.trans e)];exact ⟨h1,h2,ry⟩
  ·rw [if_neg e,if_neg (fun z=>e (h1.trans z))];exact ⟨h1,h2,h3⟩
theorem KT.put {H:Hp} {kvs:List (List Key×V)} {xs:List (List Key×Addr×Value)} (r:KT H kvs xs) (k:List Key) {b:Addr} {y:V} {u:Value} (hb:H b=some (.tup (k.map kV))) (ry:RelV y u) :
  KT H (putK kvs k y) (storedH xs k b u):=by
 have e:(kvs.any fun kv=>decide (kv.1=k))=(atKey xs k).isSome:=by
  rw [valV_any,(r.val k).isSome_eq,Option.isSome_map]
 unfold putK storedH
 rw [e]
 by_cases q:(atKey xs k).isSome=true
 ·rw [if_pos q,if_pos q];exact r.repl k ry
 ·rw [if_neg q,if_neg q];exact Paired.snoc r ⟨rfl,hb,ry⟩
theorem KT.keeps {H H':Hp} {kvs:List (List Key×V)} {xs:List (List Key×Addr×Value)} (r:KT H kvs xs) (ht:∀b ys,H b=some (.tup ys)->H' b=some (.tup ys)):KT H' kvs xs:=
 Paired.mapP r fun _ _ z=>⟨z.1,ht _ _ z.2.1,z.2.2⟩
section
variable {P:Program} {w:World} {H:Hp} {h:Heap} {a:Addr}
theorem rd_of {u:HO} (ok:HOk P w H h) (e:Rd H a u):ObjOk P w H h a u:=e.ok ok
theorem dk_rd {kvs:List (Key×V)} (ok:HOk P w H h) (e:Rd H a (.dK kvs)):kvs.length<=sizeLine/\(a == sysModules)=false/\∃vs,KV kvs vs/\h.DictOf (mixKind P w) a vs:=
 show ObjOk P w H h a (.dK kvs) from rd_of ok e
theorem dk_of {kvs:List (Key×V)} (ok:HOk P w H h) (e:H a=some (.dK kvs)):kvs.length<=sizeLine/\(a == sysModules)=false/\∃vs,KV kvs vs/\h.DictOf (mixKind P w) a vs:=dk_rd ok (.inl e)
theorem key_of {ks:List Key} (ok:HOk P w H h) (e:H a=some (.tup (ks.map kV))):(tupleKind (mixKind P w)).is h ks a:=by
 obtain ⟨_,its,r,o,h1,h2,n,h3⟩:=(show ObjOk P w H h a (.tup (ks.map kV)) from ok a _ e)
 exact ⟨o,its.toArray,n,h1,h2,h3,by simpa using items_are r⟩
theorem dt_rd {kvs:List (List Key×V)} (ok:HOk P w H h) (e:Rd H a (.dT kvs)):kvs.length<=sizeLine/\(a == sysModules)=false/\
  ∃xs,KT H kvs xs/\h.DictOfH (tupleKind (mixKind P w)) a xs:=by
 obtain ⟨z,y,xs,r,o,es,ep,h1,h2,h3,h4,h5⟩:=(show ObjOk P w H h a (.dT kvs) from rd_of ok e)
 refine ⟨z,y,xs,r,o,es,ep,h1,h2,h3,h4,fun x hx=>?_,h5⟩
 have all:∀{l:List (List Key×V)} {m:List (List Key×Addr×Value)},KT H l m->∀x∈m,(tupleKind (mixKind P w)).is h x.1 x.2.1:=by
  intro l m q
  induction q with
  | nil=>intro x hx;exact nomatch hx
  | @cons p q ps qs hq t ih=>
   intro x hx
   rcases List.mem_cons.mp hx with e | hx
   ·subst e
    exact key_of ok (by rw [<-hq.1];exact hq.2.1)
   ·exact ih x hx
 exact all r x hx
theorem dt_of {kvs:List (List Key×V)} (ok:HOk P w H h) (e:H a=some (.dT kvs)):kvs.length<=sizeLine/\(a == sysModules)=false/\
  ∃xs,KT H kvs xs/\h.DictOfH (tupleKind (mixKind P w)) a xs:=dt_rd ok (.inl e)
end
def DGet (H:Hp) (a:Addr) (y:V) (r:Option V):Prop:=
 (∃kvs k,Rd H a (.dK kvs)/\y=kV k/\r=valV kvs k)\/∃kvs k b,Rd H a (.dT kvs)/\y=.ref b/\H b=some (.tup (k.map kV))/\r=valV kvs k
def DPut (H:Hp) (a:Addr) (y v:V) (H':Hp):Prop:=
 (∃kvs k,H a=some (.dK kvs)/\y=kV k/\kvs.length < sizeLine/\H'=upd H a (.dK (putK kvs k v)))\/
 ∃kvs k b,H a=some (.dT kvs)/\y=.ref b/\H b=some (.tup (k.map kV))/\kvs.length < sizeLine/\H'=upd H a (.dT (putK kvs k v))
theorem DGet.k {H:Hp} {a:Addr} {kvs:List (Key×V)} {k:Key} (e:H a=some (.dK kvs)):DGet H a (kV k) (valV kvs k):=.inl ⟨kvs,k,.inl e,rfl,rfl⟩
theorem DPut.k {H:Hp} {a:Addr} {kvs:List (Key×V)} {k:Key} {v:V} (e:H a=some (.dK kvs)) (hl:kvs.length < sizeLine):DPut H a (kV k) v (upd H a (.dK (putK kvs k v))):=.inl ⟨kvs,k,e,rfl,hl,rfl⟩
section
variable {X:Cx} {pins:List (Addr×Obj)} {σ:St} {H:Hp} {s:Shared} {a:Addr} {y v:V} {u r:Value} {o:Option V} {A:Around} {E:Value->Shared->Prop}
theorem Inv.big (I:Inv X pins σ H s):sysModules < s.heap.objs.size:=by
 have h:mainGlobals < s.heap.objs.size:=(I.mod.glob.keeps I.bk).lt
 exact Nat.lt_trans (by decide) h
theorem d_getItem {Q:Value->Shared->Prop} (hu:A.units+1 < cLine) (I:Inv X pins σ H s) (g:DGet H a y (some v)) (ry:RelV y u) (h:∀w' s',Inv X pins σ H s'->RelV v w'->Q w' s') :
  wpAny (model X.prog X.w) A (getItem (.ref a) u) Q E s:=by
 rcases g with ⟨kvs,k,e,ey,l⟩ | ⟨kvs,k,b,e,ey,eb,l⟩
 ·subst ey
  obtain ⟨z,hd,vs,rel,dd⟩:=dk_rd I.hok e
  obtain ⟨w',hw,rw'⟩:=RelO.some_of (v:=v) (o:=valueAt vs k) (by rw [l];exact rel.val k)
  exact wpAny_getItem_of (kV_is ry) dd.mapOf hw (h w' _ (I.tok _) rw')
 ·subst ey
  cases (show u=Value.ref b from ry)
  obtain ⟨z,hd,xs,rel,dd⟩:=dt_rd I.hok e
  obtain ⟨w',hw,rw'⟩:=RelO.some_of (v:=v) (o:=(atKey xs k).map (·.2)) (by rw [l];exact rel.val k)
  obtain ⟨p,hp,hp2⟩:=Option.map_eq_some_iff.mp hw
  refine wpAny_getItem_heap (tupleKind_room_in1 hu) (key_of I.hok eb) dd hp ?_
  rw [hp2]
  exact h w' _ (I.tok _) rw'
theorem d_write {h':Heap} {t':Nat} {ob:HO} (I:Inv X pins σ H s) (mu:Mut (H a)) (hs:Heap.SameBut a s.heap h') (he:∃q,h'.get? a=some q) (new:ObjOk X.prog X.w (upd H a ob) h' a ob) :
  Inv X pins σ (upd H a ob) { s with heap:=h',toks:=t' }:=
 I.write (x:=a) (e:=a) mu (.inl rfl) (fun b q hb z=>(hs.2 b hb).trans z) he new
theorem dk_new {P:Program} {w:World} {H':Hp} {h':Heap} {kvs:List (Key×V)} {vs:List (Key×Value)} (z:kvs.length<=sizeLine) (hd:(a == sysModules)=false) (rel:KV kvs vs) (dd:h'.DictOf (mixKind P w) a vs) :
  ObjOk P w H' h' a (.dK kvs):=⟨z,hd,vs,rel,dd⟩
theorem d_setItem {H':Hp} {Q:Unit->Shared->Prop} (hu:A.units+1 < cLine) (I:Inv X pins σ H s) (g:DPut H a y v H') (ry:RelV y u) (rv:RelV v r) (h:∀s',Inv X pins σ H' s'->Q () s') :
  wpAny (model X.prog X.w) A (setItem (.ref a) u r) Q E s:=by
 rcases g with ⟨kvs,k,e,ey,l,eH⟩ | ⟨kvs,k,b,e,ey,eb,l,eH⟩
 ·subst ey eH
  obtain ⟨z,hd,vs,rel,dd⟩:=dk_of I.hok e
  have hz:vs.length<=sizeLine:=by rw [<-rel.length];exact z
  have hl:(putK kvs k v).length<=sizeLine:=by have:=length_putK kvs k v;lia
  refine wpAny_setItem_pairs (hsz:=hz) (kV_is ry) dd fun h' dd' hs=>h _ ?_
  have he:∃q,h'.get? a=some q:=let ⟨q,_,_,hq,_⟩:=dd';⟨q,hq⟩
  exact d_write I (by rw [e];exact True.intro) hs he (dk_new hl hd (rel.put k rv) dd')
 ·subst ey eH
  cases (show u=Value.ref b from ry)
  obtain ⟨z,hd,xs,rel,dd⟩:=dt_of I.hok e
  have hz:xs.length<=sizeLine:=by rw [<-Paired.length rel];exact z
  have hl:(putK kvs k v).length<=sizeLine:=by have:=length_putK kvs k v;lia
  refine wpAny_setItem_heap (hsz:=hz) (tupleKind_room_in1 hu) (key_of I.hok eb) dd fun h' dd' hs=>h _ ?_
  obtain ⟨q,es,ep,hq,h2,h3,h4,_,h5⟩:=dd'
  refine d_write I (by rw [e];exact True.intro) hs ⟨q,hq⟩ ⟨hl,hd,_,(rel.put k eb rv).keeps fun c ys ec=>?_,q,es,ep,hq,h2,h3,h4,h5⟩
  rw [upd_ne (ne_of ec e (fun z=>nomatch z))]
  exact ec
end
section
variable {X:Cx} {pins:List (Addr×Obj)} {σ:St} {H:Hp} {s:Shared} {a:Addr} {kvs:List (Key×V)} {k:Key} {u:Value} {A:Around} {E:Value->Shared->Prop}
end
def NoSl (i:Expr):Prop:=∀ov iv,subscripted i false ov iv=operate [ov,iv] (getItem ov iv)
theorem subD_of {prog:Program} {w:World} {A:Around} {E:Value->Shared->Prop} {s:Shared} {env:Env} {value slice:Expr} {pos:Pos} {T id:String} {Q:Value->Shared->Prop}
  (hl:typeLookup (.type T) "__getitem__" = pure (some (.builtin id))) (hs:NoSl slice)
  (h:wpAny (model prog w) A (eval value env) (fun o s₁=>wpAny (model prog w) A (eval slice env) (fun i s₂=>s₂.TypeIs o T/\wpAny (model prog w) A (getItem o i) Q E s₂) E s₁) E s) :
  wpAny (model prog w) A (eval (.Subscript value slice pos) env) Q E s:=by
 refine Subscript_ (wpAny_mono h (fun o s₁ h₁=>wpAny_mono h₁ (fun i s₂ h₂=>?_) fun _ _ x=>x) fun _ _ x=>x)
 obtain ⟨hT,h₂⟩:=h₂
 unfold subscriptTail
 refine wpAny_bind ?_
 rw [getitemInPython_of_ne hT.not_modules]
 refine wpAny_bind (wpAny_specialOf hT hl ?_)
 have fin:wpAny (model prog w) A (subscripted slice false o i) (fun r s₃=>wpAny (model prog w) A (letTemporaryGo value o r >>= fun _=>pure r) Q E s₃) E s₂:=by
  rw [hs o i]
  exact wpAny_operating (wpAny_mono h₂ (fun r s₃ h₃=>wpAny_bind (wpAny_letTemporaryGo (wpAny_pure h₃))) fun _ _ x=>x)
 first
  | exact wpAny_pure (wpAny_bind fin)
  | exact wpAny_bind (wpAny_pure (wpAny_bind fin))
  | exact wpAny_bind fin
theorem dict_typeIs {X:Cx} {pins:List (Addr×Obj)} {σ:St} {H:Hp} {s:Shared} {a:Addr} {y:V} {o:Option V} (I:Inv X pins σ H s) (g:DGet H a y o):s.TypeIs (.ref a) "dict":=by
 rcases g with ⟨kvs,k,e,_,_⟩ | ⟨kvs,k,b,e,_,_,_⟩
 ·obtain ⟨_,_,vs,_,dd⟩:=dk_rd I.hok e
  exact dd.typeIs
 ·obtain ⟨_,_,xs,_,dd⟩:=dt_rd I.hok e
  exact dd.typeIs
def tDGet (td ty:TE):TE:=fun σ H Q=>td σ H fun x H1=>ty σ H1 fun y H2=>∃a v,x=.ref a/\DGet H2 a y (some v)/\Q v H2
def sDPut (td ty tv:TE):TS:=fun D σ H=>tv σ H fun v H1=>td σ H1 fun x H2=>ty σ H2 fun y H3=>∃a H4,x=.ref a/\DPut H3 a y v H4/\D.nx σ H4
section
variable {X:Cx} {o i e value:Expr} {pos pos' tpos:Pos} {td ty tv:TE}
theorem pe_dget (hu:X.A.units+1 < cLine) (ho:PE X o td) (hi:PE X i ty) (hs:NoSl i):PE X (.Subscript o i pos) (tDGet td ty):=by
 intro pins s σ H Q I h
 refine subD_of PySem.F.slot_dict_getitem.lookup hs (thn (ho pins s σ H _ I h) fun u s1 ⟨x,H1,I1,rx,q1⟩=>thn (hi pins s1 σ H1 _ I1 q1) fun iv s2 ⟨y,H2,I2,ry,a,v,ex,g,q2⟩=>?_)
 subst ex
 obtain rfl:u=Value.ref a:=rx
 exact ⟨dict_typeIs I2 g,d_getItem hu I2 g ry fun w' s3 I3 rw'=>⟨v,H2,I3,rw',q2⟩⟩
theorem ps_dput (hu:X.A.units+1 < cLine) (ho:PE X o td) (hi:PE X i ty) (hv:PE X value tv) (hs:swapsWith value (some (.Subscript o i pos')) pos.line X.env=pure false) :
  PS X (.Assign [.Subscript o i pos'] value pos) (sDPut td ty tv):=by
 intro pins s σ H D I h
 refine wpAny_Assign_Subscript (thn (hv pins s σ H _ I h) fun r s1 ⟨v,H1,I1,rv,q1⟩=>thn (ho pins s1 σ H1 _ I1 q1) fun u s2 ⟨x,H2,I2,rx,q2⟩=>thn (hi pins s2 σ H2 _ I2 q2) fun iv s3 ⟨y,H3,I3,ry,a,H4,ex,g,q3⟩=>?_) hs
 subst ex
 obtain rfl:u=Value.ref a:=rx
 exact d_setItem hu I3 g ry rv fun s4 I4=>⟨σ,H4,I4,q3⟩
end
theorem dk_empty {P:Program} {w:World} {H:Hp} (h:Heap) (hb:sysModules < h.objs.size):ObjOk P w H (h.push { cls:=.type "dict",data:=.dict #[] }) h.objs.size (.dK []):=
 ⟨Nat.zero_le _,beq_eq_false_iff_ne.mpr (Ne.symm (Nat.ne_of_lt hb)),[],.nil,Heap.DictOf.new h⟩
def tDNewK:TE:=fun _ H Q=>∀p,H p=none->Q (.ref p) (upd H p (.dK []))
def tDNewT:TE:=fun _ H Q=>∀p,H p=none->Q (.ref p) (upd H p (.dT []))
section
variable {X:Cx} {pos:Pos}
theorem pe_dnewK:PE X (.Dict [] [] pos) tDNewK:=fun pins s σ H Q I h=>
 wpAny_Dict_empty ⟨.ref s.heap.objs.size,_,I.laid (a:=s.heap.objs.size) (o:=.dK []) (t':=s.toks) (fun _ _ q=>Heap.get?_push_of_some _ q) (Nat.le_refl _) (dk_empty s.heap I.big),rfl,h _ (I.hok.fresh (Nat.le_refl _))⟩
end
def mergeK (kvs more:List (Key×V)):List (Key×V):=more.foldl (fun acc kv=>putK acc kv.1 kv.2) kvs
def IsD (H:Hp) (a:Addr):Prop:=(∃kvs,Rd H a (.dK kvs))\/∃kvs,Rd H a (.dT kvs)
section
variable {X:Cx} {pins:List (Addr×Obj)} {σ:St} {H:Hp} {s:Shared} {a:Addr} {y d:V} {u r:Value} {o:Option V} {A:Around} {E:Value->Shared->Prop}
end
def tDPop1 (td ty:TE):TE:=fun σ H Q=>td σ H fun x H1=>∃a,x=.ref a/\IsD H1 a/\ty σ H1 fun y H2=>∃kvs k v,H2 a=some (.dK kvs)/\y=kV k/\valV kvs k=some v/\Q v (upd H2 a (.dK (dropK kvs k)))
section
variable {X:Cx} {o e f:Expr} {apos cpos:Pos} {td ty tx:TE}
end
section
variable {X:Cx} {pins:List (Addr×Obj)} {σ:St} {H:Hp} {s:Shared} {a:Addr} {kvs:List (Key×V)} {A:Around} {E:Value->Shared->Prop}
end
section
variable {X:Cx} {pins:List (Addr×Obj)} {σ:St} {H:Hp} {s:Shared} {a:Addr} {y:V} {u:Value} {A:Around} {E:Value->Shared->Prop}
end
end L2
namespace Att
open PySem PySem.W PySem.Calls PyProof.Rows
theorem ints_of_wellAll {P:Params} {h:Heap}:∀(ns:List Int) (vs:List Value),WellAll P h vs (ns.map WData.int)->IntsAre vs ns:=by
 intro ns
 induction ns with
 | nil=>
  intro vs w
  rw [List.map_nil] at w
  cases w
  exact .nil
 | cons n ns ih=>
  intro vs w
  rw [List.map_cons] at w
  cases w with
  | cons a b=>
   cases a
   exact .cons _ _ (ih _ b)
theorem script_of {l:OpenLaw} {n:Nat} (hn:l.most=some n) {P:Params} {h:Heap} {args:List WData} {vals:List Value}
  (hpre:l.row.toRowW.claim.pre args=true) (hwl:WellAll P h vals args) :
  ∃a vs ns,vals=[Value.ref a]/\args=[WData.list (ns.map WData.int)]/\h.get? a=some { cls:=.type "list",data:=.seq vs.toArray }/\IntsAre vs ns/\ns.length<=n:=by
 have hsh:WShape.hasAll [] args [.list .int]=true:=(pre_splitW hpre).1
 have hc:l.pre.holds [] { args:=args }=true:=(pre_splitW hpre).2
 obtain ⟨d,r,rfl,h1,h2⟩:=hasAllW_cons hsh
 obtain rfl:=hasAllW_nil h2
 obtain ⟨xs,rfl,h3⟩:=hasW_list h1
 obtain ⟨ns,rfl⟩:=items_int h3
 have hlen:ns.length<=n:=by
  unfold OpenLaw.pre at hc
  have h4:(WTm.not (.lt (.lit (.int (n:Int))) (.len (.arg 0)))).holds [] { args:=[.list (ns.map .int)] }=true:=by
   have h4:=(holds_andW hc).1
   rw [hn] at h4
   exact h4
  have h5:=condW_of h4 (w_not (w_lt w_lit (w_len_list (w_arg rfl))))
  rw [List.length_map] at h5
  refine Nat.le_of_not_lt fun q=>?_
  have q':(n:Int) < ((ns.length:Nat):Int):=by lia
  first
   | (rw [decide_eq_true q'] at h5;exact absurd h5 (by decide))
   | (simp at h5;lia)
 cases hwl with
 | cons w1 w2=>
  cases w2
  cases w1 with
  | list ho hall=>exact ⟨_,_,ns,rfl,rfl,ho,ints_of_wellAll ns _ hall,hlen⟩
theorem post_true (l:OpenLaw) (args:List WData):l.row.toRowW.claim.post args (.bool true) args=true:=
 postW_of (r:=l.row.toRowW) (X:=(true == true))
  (show WShape.has [] (.bool true) .bool=true by first | rfl | decide | simp [WShape.has,WShape.arms,WShape.armsAll])
  (show (WTm.eq .res (.lit (.bool true))).value [] { args:=args,res:=some (.bool true),after:=args }=some (.bool (true == true)) from w_eq_bool (w_res rfl) w_lit) rfl
theorem attach_call {l:OpenLaw} {n:Nat} {q:Program} {loose:List Str} {XP:(Str->Option Value)->Heap->Prop} {YP:World->Heap->Prop} {d:DefRec}
  (hn:l.most=some n) (hdf:d.params.defaults=[])
  (call:∀(w:World) (s₀ s₁:Shared) (mg mb:Str->Option Value) (fa:Addr) (o:Obj) (pm cd doc:Value) (a:Addr) (vs:List Value) (ns:List Int),
   Ground q loose [] XP w s₀ mg mb s₁.heap->YP w s₁.heap->
   s₁.heap.get? fa=some o->o.data=.func (docDef d.name d.params d.body d.scope pm cd doc)->s₁.heap.CodeRec cd d.name->mg d.name=some (.ref fa)->
   s₁.heap.get? a=some { cls:=.type "list",data:=.seq vs.toArray }->IntsAre vs ns->ns.length<=n->s₁.gens = #[]->
   codeAny (model l.prog w) callerA (.call (.ref fa) ⟨[.ref a],[]⟩) (fun r s'=>r=.ok (.ret (.bool true))/\OldK s₁.heap s'.heap/\s'.os=s₁.os/\AllBare s'.gens) s₁) :
  WalkO q loose XP YP l.row.toRowW d [] (fun f vs=>PySem.call f vs):=by
 intro w s₀ s₁ mg mb G Y fa o pm cd doc dV kV ho hd hcd hD hmg hg args vals as hpre hlay hrd hwl hlo
 obtain rfl:dV=.none:=Dflts.none hD hdf
 obtain rfl:kV=.none:=Dflts.noKw hD
 obtain ⟨a,vs,ns,rfl,rfl,hobj,hints,hlen⟩:=script_of hn hpre hwl
 refine enter_call (codeAny_mono (call w s₀ s₁ mg mb fa o pm cd doc a vs ns G Y ho (fd_plain hd) hcd hmg hobj hints hlen hg) fun r s' hq=>?_)
 obtain ⟨rfl,h2,h3,h4⟩:=hq
 exact ⟨.inl ⟨.bool true,.bool true,[],rfl,fun _=>rfl,.bool true,post_true l _,fun _=>⟨List.Pairwise.nil,fun _ hm=>(nomatch hm)⟩⟩,h2,h3,h4⟩
section
variable {prog:Program} {w:World} {A:Around} {E:Value->Shared->Prop} {s:Shared} {K:Frag}
end
end Att
namespace L2
open PySem PySem.Spec PyProof.Rows
theorem vals_ints:∀{vs:List Value} {ns:List Int},IntsAre vs ns->Vals (ns.map V.int) vs
 | _,_,.nil=>.nil
 | _,_,.cons n t h=>.cons ⟨t,rfl⟩ (vals_ints h)
end L2
namespace L2
open PySem PySem.Spec PyProof.Rows
end L2
namespace L2
open PySem PySem.Spec PyProof.Rows
def defArgs (s:Stmt):Arguments:=match s with
 | .FunctionDef _ a _ _ _ _ _ _ _ _=>a
 | _=>{ posonlyargs:=[],args:=[],vararg:=none,kwonlyargs:=[],kw_defaults:=[],kwarg:=none,defaults:=[] }
def defBody (s:Stmt):List Stmt:=match s with
 | .FunctionDef _ _ b _ _ _ _ _ _ _=>b
 | _=>[]
def defScope (s:Stmt):Scope:=match s with
 | .FunctionDef _ _ _ _ _ _ sc _ _ _=>sc
 | _=>{ kind:=.function,names:=[],isGenerator:=false,isCoroutine:=false }
abbrev CX0:CXT:=fun _ _ _ _ _ _=>False
abbrev E0:XK:=fun _ _ _=>False
theorem pass0 {X:Cx}:Passes CX0 X E0:=fun _ _ _ _ _ _ _ h=>h.elim
structure Fun (K:PySem.W.Frag) (x qual:Str) (st:Stmt) (f:Addr) (fd:FuncData):Prop where
 ex:∃(oc:Value) (od:Option Addr) (kV doc pm:Value) (an:Option Addr) (cdv ct:Value) (osl:Array (Option Value)),
  fd=PySem.W.fnOf x qual (defArgs st) (defBody st) (defScope st) .none kV doc pm an cdv ct/\K.lookup f=some ⟨oc,od,.func fd,osl⟩/\PySem.W.codeIn K cdv qual=true
 kp:PySem.W.keepIn K (.ref f)=true
section
variable {P:Program} {w:World} {K:PySem.W.Frag} {mg:Str->Option Value} {base:Heap}
theorem Fun.ok {x qual:Str} {st:Stmt} {f:Addr} {fd:FuncData} {N ps:List Str} {k:Nat} {sp:Sp} (F:Fun K x qual st f fd) (S:FnScope N ps (defScope st)) (len:∀vs H Q E,sp vs H Q E->vs.length=ps.length)
  (hbody:∀(cdv:Value) (A:Around) (outer:List Env) (s:Shared) (H:Hp) (vs:List V) (Q:VK) (E:XK),Room k (A.deeper (envOfC qual (defScope st) s.heap.objs.size f cdv))->sp vs H Q E->
   ∃t,PSs (cxOf CX0 P w K mg base N qual (defScope st) f cdv A outer s H E).nox (defBody st) t/\t { nx:=fun _ H'=>Q .non H',rt:=Q } (start N vs) H):FnOk P w K mg base CX0 (k+1) f fd ps sp:=by
 obtain ⟨oc,od,kV,doc,pm,an,cdv,ct,osl,rfl,lk,hcd⟩:=F.ex
 refine fn_of lk hcd S len fun A outer s H vs Q E hr hsp=>?_
 obtain ⟨t,h,q⟩:=hbody cdv A outer s H vs Q E hr hsp
 exact ⟨t,h.nox,q⟩
theorem Fun.binds {x qual:Str} {st:Stmt} {f:Addr} {fd:FuncData} {ps:List Str} (F:Fun K x qual st f fd)
  (h:∀(kV doc pm:Value) (an:Option Addr) (cdv ct:Value) (us:List Value),us.length=ps.length->bindArgs (PySem.W.fnOf x qual (defArgs st) (defBody st) (defScope st) .none kV doc pm an cdv ct) ⟨us,[]⟩=pure (ps.zip us)):Binds K fd ps []:=by
 obtain ⟨oc,od,kV,doc,pm,an,cdv,ct,osl,rfl,lk,hcd⟩:=F.ex
 exact .all (h kV doc pm an cdv ct)
theorem fun_mk {x qual:Str} {st:Stmt} {f:Addr} {oc:Value} {od an:Option Addr} {osl:Array (Option Value)} {kV doc pm cdv ct:Value} (l:K.lookup f=some ⟨oc,od,.func (PySem.W.fnOf x qual (defArgs st) (defBody st) (defScope st) .none kV doc pm an cdv ct),osl⟩)
  (c:PySem.W.codeIn K cdv qual=true) (k:PySem.W.keepIn K (.ref f)=true):Fun K x qual st f (PySem.W.fnOf x qual (defArgs st) (defBody st) (defScope st) .none kV doc pm an cdv ct):=⟨⟨oc,od,kV,doc,pm,an,cdv,ct,osl,rfl,l,c⟩,k⟩
end
theorem hu_of {A:Around} {k:Nat} (hr:Room k A):A.units+1 < cLine:=Nat.lt_of_le_of_lt (Nat.add_le_add_left (by decide:1<=64) _) hr.units
theorem small1000 {n:Nat} (h:n<=1000):n < sizeLine:=Nat.lt_of_le_of_lt h (by decide)
section
variable {X:Cx}
theorem pv (i:Nat) {x:Str} {pos:Pos} (hN:X.N[i]? = some x:=by rfl) (hv:Vis X.env.scope x:=by first | exact Or.inl rfl | exact Or.inr (Or.inl rfl) | exact Or.inr (Or.inr rfl)) (hd:(x == ("__debug__" : Str))=false:=by decide)
  (hcd:(x == ("__classdict__" : Str))=false:=by decide):PE X (.Name x pos) (tVar i):=pe_var hN hv hd hcd
end
def Same (H H':Hp):Prop:=∀b o,H b=some o->H' b=some o
theorem Same.refl (H:Hp):Same H H:=fun _ _ h=>h
theorem Same.trans {H H1 H2:Hp} (a:Same H H1) (b:Same H1 H2):Same H H2:=fun c o h=>b c o (a c o h)
theorem Same.free {H H':Hp} (e:Same H H') {l:Addr} (h:H' l=Option.none):H l=Option.none:=by
 cases q:H l with
 | none=>rfl
 | some o=>
  rw [e l o q] at h
  cases h
section
variable {κ:Type} [DecidableEq κ]
end
end L2
end
section
theorem L2.hide {p:Prop} (h:∀q:Prop,(p->q)->q):p:=h p id
end
section
namespace L2
open PySem PySem.Spec PyProof.Rows
theorem forIn_pureX {α β:Type} {f:α->β->Sem (ForInStep β)} (g:α->β->β):∀(l:List α) (b:β),(∀x∈l,∀c,f x c=pure (.yield (g x c)))->forIn l b f=pure (l.foldl (fun c x=>g x c) b)
 | [],b,_=>rfl
 | x::l,b,h=>by
  rw [List.forIn_cons,h x List.mem_cons_self,pure_bind]
  exact forIn_pureX g l (g x b) fun y hy=>h y (List.mem_cons_of_mem _ hy)
def closL (env:Env) (names:List (Str×NameKind)) (cs:List (Str×Addr)):List (Str×Addr):=
 names.foldl (fun c y=>if y.2 == NameKind.free then (y.1,(env.cells.lookup y.1).getD 0)::c else c) cs
theorem closureFor_closL {scope:Scope} {env:Env} (h:∀y∈scope.names,y.2=.free->∃c,env.cells.lookup y.1=some c):closureFor scope env=pure (closL env scope.names []):=by
 simp only [closureFor]
 rw [forIn_pureX (fun y c=>if y.2 == NameKind.free then (y.1,(env.cells.lookup y.1).getD 0)::c else c) scope.names [] (fun x hx c=>by
  obtain ⟨n,kind⟩:=x
  dsimp only
  by_cases hk:kind=.free
  ·subst hk
   obtain ⟨a,e⟩:=h (n,.free) hx rfl
   have e':env.cells.lookup n=some a:=e
   have:cellOf env n=pure a:=by unfold cellOf;rw [e']
   rw [this,e']
   rfl
  ·have hb:(kind == NameKind.free)=false:=by simpa using hk
   rw [hb];rfl)]
 simp only [pure_bind]
 rfl
theorem closL_mem {env:Env}:∀(names:List (Str×NameKind)) (cs:List (Str×Addr)),(∀y∈names,y.2=.free->∃c,env.cells.lookup y.1=some c)->(∀p∈cs,env.cells.lookup p.1=some p.2)->
  ∀p∈closL env names cs,env.cells.lookup p.1=some p.2
 | [],cs,_,hc=>hc
 | y::r,cs,h,hc=>by
  unfold closL
  rw [List.foldl_cons]
  refine closL_mem r _ (fun z hz=>h z (List.mem_cons_of_mem _ hz)) fun p hp=>?_
  by_cases hk:y.2=.free
  ·have hb:(y.2 == NameKind.free)=true:=by simpa using hk
   rw [if_pos hb] at hp
   rcases List.mem_cons.mp hp with e | hp
   ·obtain ⟨c,e1⟩:=h y List.mem_cons_self hk
    rw [e];dsimp only;rw [e1];rfl
   ·exact hc p hp
  ·have hb:¬(y.2 == NameKind.free)=true:=by simpa using hk
   rw [if_neg hb] at hp
   exact hc p hp
theorem closL_keeps {env:Env} {p:Str×Addr}:∀(names:List (Str×NameKind)) (cs:List (Str×Addr)),p∈cs->p∈closL env names cs
 | [],_,h=>h
 | y::r,cs,h=>by
  unfold closL
  rw [List.foldl_cons]
  refine closL_keeps r _ ?_
  split
  ·exact List.mem_cons_of_mem _ h
  ·exact h
theorem closL_has {env:Env} {x:Str}:∀(names:List (Str×NameKind)) (cs:List (Str×Addr)),(x,NameKind.free)∈names->∃c,(x,c)∈closL env names cs
 | y::r,cs,h=>by
  rcases List.mem_cons.mp h with e | h
  ·subst e
   exact ⟨_,by
    unfold closL;rw [List.foldl_cons]
    refine closL_keeps r _ ?_
    rw [if_pos (by rfl)]
    exact List.mem_cons_self⟩
  ·obtain ⟨c,hc⟩:=closL_has r (if y.2 == NameKind.free then (y.1,(env.cells.lookup y.1).getD 0)::cs else cs) h
   exact ⟨c,by unfold closL;rw [List.foldl_cons];exact hc⟩
theorem lookup_of_all {f:Str->Option Addr} {x:Str}:∀{cs:List (Str×Addr)},(∀p∈cs,f p.1=some p.2)->(∃c,(x,c)∈cs)->cs.lookup x=f x
 | [],_,⟨_,h⟩=>nomatch h
 | (n,a)::r,hc,⟨c,h⟩=>by
  rw [List.lookup_cons]
  by_cases e:x=n
  ·subst e
   rw [beq_self_eq_true]
   exact (hc (x,a) List.mem_cons_self).symm
  ·have hb:(x == n)=false:=by simpa using e
   rw [hb]
   refine lookup_of_all (fun p hp=>hc p (List.mem_cons_of_mem _ hp)) ⟨c,?_⟩
   rcases List.mem_cons.mp h with q | q
   ·exact absurd (congrArg Prod.fst q) e
   ·exact q
theorem relabel_free {env : Env} {y : Str} : ∀ {names : List (Str × NameKind)}, (∀ z ∈ names, z.2 ≠ .cell) →
    ((names.map fun (n, k) => if (k == NameKind.free && env.scope.kind == .function && env.kindOf n == some .cell) then (n, NameKind.cell) else (n, k)).lookup y = some .cell ∨
     (names.map fun (n, k) => if (k == NameKind.free && env.scope.kind == .function && env.kindOf n == some .cell) then (n, NameKind.cell) else (n, k)).lookup y = some .free) → names.lookup y = some .free
  | [], _, h => by rcases h with h | h <;> cases h
  | (n, k) :: r, hc, h => by
    have ih := @relabel_free env y r fun z hz => hc z (List.mem_cons_of_mem _ hz)
    rw [List.map_cons] at h
    rw [List.lookup_cons]
    by_cases e : y = n
    · subst e
      rw [beq_self_eq_true]
      by_cases hb : (k == NameKind.free && env.scope.kind == .function && env.kindOf y == some .cell) = true
      · have hk : k = .free := by
          rw [Bool.and_eq_true, Bool.and_eq_true] at hb
          simpa using hb.1.1
        rw [hk]
      · dsimp only at h
        rw [if_neg hb, List.lookup_cons, beq_self_eq_true] at h
        dsimp only at h
        rcases h with h | h
        · exact absurd (Option.some.inj h) (hc (y, k) List.mem_cons_self)
        · exact h
    · have hn : (y == n) = false := by simpa using e
      rw [hn]
      dsimp only at h ⊢
      apply ih
      by_cases hb : (k == NameKind.free && env.scope.kind == .function && env.kindOf n == some .cell) = true
      · rw [if_pos hb, List.lookup_cons, hn] at h
        exact h
      · rw [if_neg hb, List.lookup_cons, hn] at h
        exact h
structure CB where
 C:Addr
 cl:List (Str×Addr)
 s2:Shared
 H2:Hp
 ex:List Addr
@[reducible] def cxC (X:Cx) (scope:Scope) (N:List Str) (c:CB):Cx:=
 { prog:=X.prog,w:=X.w,K:=X.K,mg:=X.mg,base:=X.base,A:=X.A,N:=N,s₀:=c.s2,H₀:=c.H2,env:=compEnvC scope c.cl c.C X.env,outer:=X.stack,stack:=X.stack,ex:=c.ex,fn:=fun _=>false,calm:=X.calm,pn:=[],xe:=fun _ _=>False }
def subS (σ:St) (idx:List Nat):St:=idx.map fun i=>(σ[i]?).join
def subN (N:List Str) (idx:List Nat):List Str:=idx.map fun i=>N.getD i ""
def PIfs (X:Cx) (ifs:List Expr) (t:TT):Prop:=
 ∀(pins:List (Addr×Obj)) (s:Shared) (σ:St) (H:Hp) (Q:Bool->Hp->Prop),Inv X pins σ H s->t σ H Q->
  wpAny (model X.prog X.w) X.A (forIn ifs true fun c r=>if r=true then do let ok <-isTrue c X.env (eval c X.env);pure (ForInStep.yield ok) else pure (ForInStep.yield r)) (TP X pins σ Q) X.xe s
def tYes:TT:=fun _ H Q=>Q true H
theorem pifs_nil {X:Cx}:PIfs X [] tYes:=fun _ _ _ H _ I h=>wpAny_tests_nil ⟨H,I,h⟩
theorem pifs_one {X:Cx} {e:Expr} {t:TT} (h:PT X e t):PIfs X [e] t:=fun pins s σ H Q I q=>wpAny_tests_one (h pins s σ H Q I q)
def tComp (wi:TI) (k:Nat) (idx:List Nat) (g:CB->TG) (tt:CB->TT) (te:CB->TE):TE:=fun σ H Q=>wi σ H fun J H1=>∀D,H1 D=none->∃W:Nat->Nat->List V->Hp->Prop,(∃m,W 0 m [] (upd H1 D (.lst [])))/\
 ∀i m ys H',W i m ys H'->(J.stop i H'/\Q (.ref D) H')\/(J.go i H'/\∃N:List V->Hp->Prop,(∀ys' H'',N ys' H''->∃m',m' < m/\W (i+1) m' ys' H'')/\∀(c:CB) (own:St),own.length=k->∀x H2,J.yld i H' x H2->g c x (own++subS σ idx) H2 fun σ3 H3=>
  (∃own',own'.length=k/\σ3=own'++subS σ idx)/\tt c σ3 H3 fun b H4=>if b=true then te c σ3 H4 fun y H5=>H5 D=some (.lst ys)/\ys.length < sizeLine/\N (ys++[y]) (upd H5 D (.lst (ys++[y]))) else N ys H4)
structure CScope (X:Cx) (scope:Scope) (xs:List Str) (idx:List Nat):Prop where
 kind:scope.kind=.function
 nocell:∀y∈scope.names,y.2≠.cell
 loc:∀y∈scope.names,y.2=.local->scope.names.lookup y.1=some .local
 free:∀y∈scope.names,y.2=.free->scope.names.lookup y.1=some .free/\(X.env.kindOf y.1=some .cell\/X.env.kindOf y.1=some .free)
 ix:∀i∈idx,∃y,X.N[i]? = some y/\scope.names.lookup y=some .free
section
variable {prog:Program} {w:World} {A:Around} {R:Result->Shared->Prop} {s:Shared}
theorem codeAny_compLoop_any {elt target iter:Expr} {ifs:List Expr} {scope:Scope} {pos:Pos} {it acc:Value} {env:Env} (I:Nat->Shared->Prop)
  (turn:∀n s,I n s->wpAny (model prog w) A (pyNext it) (fun r s₁=>match r with
   | none=>R (.ok .next) s₁
   | some v=>wpAny (model prog w) A (letOwnedTupleGo target it v) (fun _ s₁'=>wpAny (model prog w) A (assign target env v) (fun _ s₂=>
     wpAny (model prog w) A (forIn ifs true fun c r=>if r=true then do let ok <-isTrue c env (eval c env);pure (ForInStep.yield ok) else pure (ForInStep.yield r)) (fun ok s₃=>
      if ok=true then wpAny (model prog w) A (eval elt env) (fun x s₄=>
       wpAny (model prog w) A (call (.builtin "list.append") [acc,x]) (fun _ s₅=>∃m,m < n/\I m s₅) (fun _ _=>False) s₄) (fun _ _=>False) s₃
      else ∃m,m < n/\I m s₃) (fun _ _=>False) s₂) (fun _ _=>False) s₁') (fun _ _=>False) s₁) (fun _ _=>False) s)
  (n:Nat) (h:I n s) :
  codeAny (model prog w) A (.compLoop (.ListComp elt [⟨target,iter,ifs,0⟩] scope pos) 0 it acc env) R s:=by
 refine codeAny_loop rfl I (fun n s hI=>?_) n h
 show wpAny _ A ((compTurn (.ListComp elt [⟨target,iter,ifs,0⟩] scope pos) 0 it acc env).onRaise (fun x=>do noteFrame x env;theTreesLotGoes x)) _ _ s
 refine wpAny_noted ?_
 rw [compTurn_list]
 refine wpAny_bind (wpAny_standAt (wpAny_bind (wpAny_mono (turn n s hI) (fun r s₁ h₁=>?_) fun _ _ h'=>False.elim h')))
 cases r with
 | none=>exact wpAny_pure h₁
 | some v=>
  refine wpAny_bind (wpAny_mono h₁ (fun _ s₁' h₁'=>?_) fun _ _ h'=>False.elim h')
  refine wpAny_bind (wpAny_mono h₁' (fun _ s₂ h₂=>wpAny_bind (wpAny_mono h₂ (fun ok s₃ h₃=>?_) fun _ _ h'=>False.elim h')) fun _ _ h'=>False.elim h')
  cases ok with
  | false=>exact wpAny_pure ⟨rfl,h₃⟩
  | true=>
   exact wpAny_bind (wpAny_bind (wpAny_mono h₃ (fun x s₄ h₄=>wpAny_bind (wpAny_mono h₄ (fun _ s₅ h₅=>wpAny_pure (wpAny_pure ⟨rfl,h₅⟩)) fun _ _ h'=>False.elim h')) fun _ _ h'=>False.elim h'))
end
section
variable {X:Cx} {pins:List (Addr×Obj)} {σ:St} {H:Hp} {s:Shared}
theorem HOk.but {P:Program} {w:World} {h h':Heap} {C:Addr} (x:HOk P w H h) (hn:H C=none) (hs:Heap.SameBut C h h'):HOk P w H h':=fun b ob e=>by
 refine (x b ob e).stay (fun c w' hc q=>(hs.2 c ?_).trans q) (fun _ q=>q) fun _ _ q=>q
 rintro rfl
 rcases hc with rfl | hc
 ·rw [hn] at e;cases e
 ·rw [hn] at hc;cases hc
theorem Un.but {fs ex:List Addr} {H':Hp} {h h1 h2:Heap} {C:Addr} (u:Un fs ex H H' h h1) (hC:h.get? C=none) (hs:Heap.SameBut C h1 h2):Un fs ex H H' h h2:=by
 have ne:∀b o,h.get? b=some o->b≠C:=fun b o e z=>by rw [z,hC] at e;cases e
 exact ⟨fun b o e n h1 h2=>(hs.2 b (ne b o e)).trans (u.keep b o e n h1 h2),fun b o e n h1 h2=>by
   obtain ⟨sl,q⟩:=u.slot b o e n h1 h2
   exact ⟨sl,(hs.2 b (ne b o e)).trans q⟩,u.free,fun b o e h2=>by
   obtain ⟨o',q⟩:=u.there b o e h2
   exact ⟨o',(hs.2 b (ne b o e)).trans q⟩,u.tups,u.frzs,u.tbls⟩
theorem subS_get {idx:List Nat} {j:Nat} {v:V} (h:(subS σ idx)[j]? = some (some v)):∃i,idx[j]? = some i/\σ[i]? = some (some v):=by
 unfold subS at h
 rw [List.getElem?_map] at h
 cases e:idx[j]? with
 | none=>rw [e] at h;cases h
 | some i=>
  rw [e] at h
  refine ⟨i,rfl,?_⟩
  have h':(σ[i]?).join=some v:=Option.some.inj h
  cases q:σ[i]? with
  | none=>rw [q] at h';cases h'
  | some o=>rw [q] at h';cases o with
   | none=>cases h'
   | some z=>cases h';rfl
theorem subN_get {N:List Str} {idx:List Nat} {j i:Nat} {y:Str} (h:idx[j]? = some i) (e:N[i]? = some y):(subN N idx)[j]? = some y:=by
 unfold subN
 rw [List.getElem?_map,h]
 show some (N.getD i "")=some y
 rw [List.getD_eq_getElem?_getD,e];rfl
theorem Inv.block {scope:Scope} {xs:List Str} {idx:List Nat} {fp:List Addr} {C:Addr} {h':Heap} {t':Nat} {H1:Hp} {D:Addr} {m0:Str->Option Value} (I:Inv X pins σ H s) (S:CScope X scope xs idx)
  (hfp:∀b∈fp,FpOk X pins H b) (hfo:∀b∈fp,∃o,s.heap.get? b=some o) (hC:s.heap.objs.size<=C) (hDC:D≠C) (hD:s.heap.objs.size<=D) (hn:h'.Ns C m0) (hk:∀b o,s.heap.get? b=some o->h'.get? b=some o)
  (hl:∃n,h'.get? D=some { cls:=.type "list",data:=.seq #[] n }) :
  Inv (cxC X scope (xs++subN X.N idx) ⟨C,closL X.env scope.names [],s,H,fp⟩) [] (List.replicate xs.length none++subS σ idx) (upd H D (.lst [])) { s with heap:=h',toks:=t' }:=by
 have hfree:∀y∈scope.names,y.2=.free->∃c,X.env.cells.lookup y.1=some c:=fun y hy e=>I.ok.has y.1 (S.free y hy e).2
 have hall:=closL_mem (env:=X.env) scope.names [] hfree (fun p hp=>(nomatch hp))
 have hcell:∀y c,(closL X.env scope.names []).lookup y=some c->X.env.cells.lookup y=some c:=fun y c e=>hall (y,c) (PySem.mem_of_lookup e)
 have hhas:∀y,scope.names.lookup y=some .free->(closL X.env scope.names []).lookup y=X.env.cells.lookup y:=fun y e=>lookup_of_all (f:=fun n=>X.env.cells.lookup n) hall (closL_has scope.names [] (PySem.mem_of_lookup e))
 have lt:∀b,(∃o,s.heap.get? b=some o)->b < s.heap.objs.size:=fun b ⟨o,e⟩=>Heap.lt_size e
 have hDn:H D=none:=I.hok.fresh hD
 refine ⟨⟨I.ok.mod,S.kind,I.ok.glob,I.ok.blt,hC,fun x y c h1 h2=>I.ok.inj x y c (hcell x c h1) (hcell y c h2),fun y hy=>?_,fun _ _ e=>(nomatch e),I.ok.hd,I.ok.frames,.inl rfl,fun b hb=>⟨?_,fun x c e=>(hfp b hb).2.2.2.2.1 x c (hcell x c e)⟩,I.bs,Nat.le_trans I.ok.bsz I.sz,fun b o e hb=>?_,fun b hb z=>?_,I.stack,I.stkFree⟩,
  rfl,I.bare,?_,⟨m0,hn,fun i y v e1 e2 hv=>?_⟩,fun x c e=>?_,?_,fun x c e=>?_,fun p hp=>(nomatch hp),?_,?_⟩
 ·
  have q:scope.names.lookup y=some .free:=relabel_free S.nocell hy
  have q2:=PySem.mem_of_lookup q
  obtain ⟨c,e⟩:=hfree _ q2 rfl
  exact ⟨c,(hhas y q).trans e⟩
 ·
  exact Nat.ne_of_lt (Nat.lt_of_lt_of_le (lt b (hfo b hb)) hC)
 ·
  rcases (hfp b hb).2.2.2.1 with z | z
  ·exact I.ok.noex b o e z
  ·exact absurd (Nat.lt_of_lt_of_le (Heap.lt_size e) (Nat.le_trans I.ok.bsz z)) (Nat.lt_irrefl _)
 ·
  rcases List.mem_cons.mp (I.stkSub b z) with q | q
  ·exact (hfp b hb).2.1 q
  ·exact (hfp b hb).2.2.1 q
 ·
  exact Un.laid hk hD hDn
 ·
  by_cases hi:i < xs.length
  ·rw [List.getElem?_append_left (by simpa using hi)] at e2
   rw [List.getElem?_replicate] at e2
   split at e2 <;> cases e2
  ·have hi':xs.length<=i:=Nat.le_of_not_lt hi
   rw [List.getElem?_append_right (by simpa using hi'),List.length_replicate] at e2
   obtain ⟨i0,ei,es⟩:=subS_get e2
   obtain ⟨y',ey,ef⟩:=S.ix i0 (List.mem_of_getElem? ei)
   have e1':(xs++subN X.N idx)[i]? = some y:=e1
   rw [List.getElem?_append_right hi',subN_get ei ey] at e1'
   cases e1'
   obtain ⟨m,hm,hl'⟩:=I.loc
   have ef2:=S.free (y,.free) (PySem.mem_of_lookup ef) rfl
   have vis:Vis X.env.scope y:=.inr ef2.2
   obtain ⟨u,ru,lk⟩:=hl' i0 y v ey es vis
   refine ⟨u,ru,?_⟩
   rcases lk with ⟨k1,_⟩ | ⟨_,c,ec,hc⟩
   ·rcases ef2.2 with z | z
    ·have z':X.env.kindOf y=some .cell:=z
     rw [k1] at z';cases z'
    ·have z':X.env.kindOf y=some .free:=z
     rw [k1] at z';cases z'
   ·refine .inr ⟨?_,c,(hhas y ef).trans ec,hc.keeps hk⟩
    rcases hv with z | z | z
    ·exfalso
     have z':(relabel scope X.env).names.lookup y=some .local:=z
     have:∀(names:List (Str×NameKind)),names.lookup y=some .free->(names.map fun (n,k)=>if (k == NameKind.free && X.env.scope.kind == .function && X.env.kindOf n == some .cell) then (n,NameKind.cell) else (n,k)).lookup y≠some .local:=by
      intro names
      induction names with
      | nil=>intro h;cases h
      | cons p r ih=>
       obtain ⟨n,k⟩:=p
       intro h
       rw [List.map_cons]
       by_cases e:y=n
       ·subst e
        rw [List.lookup_cons,beq_self_eq_true] at h
        cases h
        dsimp only
        split
        ·rw [List.lookup_cons,beq_self_eq_true];exact fun q=>nomatch q
        ·rw [List.lookup_cons,beq_self_eq_true];exact fun q=>nomatch q
       ·have hn:(y == n)=false:=by simpa using e
        rw [List.lookup_cons,hn] at h
        dsimp only
        split
        ·rw [List.lookup_cons,hn];exact ih h
        ·rw [List.lookup_cons,hn];exact ih h
     exact this scope.names ef z'
    ·exact .inl z
    ·exact .inr z
 ·
  obtain ⟨v,q⟩:=I.cell x c (hcell x c e)
  exact ⟨v,q.keeps hk⟩
 ·
  show upd H D (.lst []) C=none
  rw [upd_ne (Ne.symm hDC)]
  exact I.hok.fresh hC
 ·
  have e':=hcell x c e
  obtain ⟨v,q⟩:=I.cell x c e'
  rw [upd_ne (Nat.ne_of_lt (Nat.lt_of_lt_of_le q.lt hD))]
  exact I.freeC x c e'
 ·
  obtain ⟨n,e⟩:=hl
  exact I.hok.laid hk hD ⟨Nat.zero_le _,[],n,.nil,e⟩
 ·show (List.replicate xs.length none++subS σ idx).length=(xs++subN X.N idx).length
  rw [List.length_append,List.length_append,List.length_replicate]
  unfold subS subN
  rw [List.length_map,List.length_map]
end
section
variable {X:Cx} {elt target iter:Expr} {ifs:List Expr} {scope:Scope} {pos:Pos} {xs:List Str} {idx:List Nat} {wi:TI} {g:CB->TG} {tt:CB->TT} {te:CB->TE}
theorem comp_run {pins:List (Addr×Obj)} {σ:St} {H2:Hp} {s2:Shared} {fp:List Addr} {it:Addr} {tn:Nat->Heap->Prop} {J:It} {Q:V->Hp->Prop} {RR:Value->Addr->Result->Shared->Prop} {E:Value->Shared->Prop} (hc:X.calm=true) (S:CScope X scope xs idx)
  (hg:∀c,PG (cxC X scope (xs++subN X.N idx) c) target (g c)) (ht:∀c,PIfs (cxC X scope (xs++subN X.N idx) c) ifs (tt c)) (he:∀c,PE (cxC X scope (xs++subN X.N idx) c) elt (te c))
  (I2:Inv X pins σ H2 s2) (T:Turn X.prog X.w X.K target J fp it tn) (st2:tn 0 s2.heap) (f2:∀b∈fp,FpOk X pins H2 b)
  (h:∀D,H2 D=none->∃W:Nat->Nat->List V->Hp->Prop,(∃m,W 0 m [] (upd H2 D (.lst [])))/\
   ∀i m ys H',W i m ys H'->(J.stop i H'/\Q (.ref D) H')\/(J.go i H'/\∃N:List V->Hp->Prop,(∀ys' H'',N ys' H''->∃m',m' < m/\W (i+1) m' ys' H'')/\∀(c:CB) (own:St),own.length=xs.length->∀x H2,J.yld i H' x H2->g c x (own++subS σ idx) H2 fun σ3 H3=>
    (∃own',own'.length=xs.length/\σ3=own'++subS σ idx)/\tt c σ3 H3 fun b H4=>if b=true then te c σ3 H4 fun y H5=>H5 D=some (.lst ys)/\ys.length < sizeLine/\N (ys++[y]) (upd H5 D (.lst (ys++[y]))) else N ys H4))
  (hRR:∀D C σ' H' s',s2.heap.objs.size<=C->Inv (cxC X scope (xs++subN X.N idx) ⟨C,closL X.env scope.names [],s2,H2,fp⟩) [] σ' H' s'->Q (.ref D) H'->RR (.ref D) C (.ok .next) s') :
  wpAny (model X.prog X.w) X.A (newList []) (fun acc s₃=>wpAny (model X.prog X.w) X.A (newFunctionEnv scope X.env.globals (closL X.env scope.names []) [] X.env.qual none .none (some X.env)) (fun cenv s₄=>
   codeAny (model X.prog X.w) X.A (.compStart (.ListComp elt [⟨target,iter,ifs,0⟩] scope pos) 0 (.ref it) acc { cenv with scope:=relabel scope X.env }) (RR acc cenv.locals) s₄) E s₃) E s2:=by
 refine wpAny_newObj_type (wpAny_newFunctionEnv S.nocell (by intro y hy;simp at hy) (fun h₁ hns₁ hsb₁=>?_) S.kind)
 dsimp only at hns₁ hsb₁ ⊢
 generalize hH2:s2.heap.push { cls:=.type "list",dict:=none,data:=.seq ([]:List Value).toArray }=HH at hns₁ hsb₁ ⊢
 have hCs:HH.objs.size=s2.heap.objs.size+1:=by rw [<-hH2,Heap.size_push]
 have hDC:s2.heap.objs.size≠HH.objs.size:=by rw [hCs];exact Nat.ne_of_lt (Nat.lt_succ_self _)
 have hCle:s2.heap.objs.size<=HH.objs.size:=by rw [hCs];exact Nat.le_succ _
 have old:∀b o,s2.heap.get? b=some o->h₁.get? b=some o:=fun b o e=>hsb₁.extBut b o (by rw [hCs];exact Nat.ne_of_lt (Nat.lt_succ_of_lt (Heap.lt_size e))) (Heap.get?_push_of_some _ (hH2 ▸ Heap.get?_push_of_some _ e))
 have hacc:∃n,h₁.get? s2.heap.objs.size=some { cls:=.type "list",data:=.seq #[] n }:=⟨_,hsb₁.extBut _ _ hDC (Heap.get?_push_of_some _ (hH2 ▸ Heap.get?_push_size _ rfl))⟩
 have st1:tn 0 h₁:=T.keep _ _ _ st2 fun b _ o e=>old b o e
 obtain ⟨W,⟨m0,w0⟩,turn⟩:=h s2.heap.objs.size I2.fresh
 have loop:∀s₃:Shared,s₃={ s2 with heap:=h₁,toks:=s2.toks+([]:List (Str×Value)).length }->
   codeAny (model X.prog X.w) X.A (.compLoop (.ListComp elt [⟨target,iter,ifs,0⟩] scope pos) 0 (.ref it) (.ref s2.heap.objs.size) (compEnvC scope (closL X.env scope.names []) HH.objs.size X.env)) (RR (.ref s2.heap.objs.size) HH.objs.size) s₃:=by
  rintro s₃ rfl
  have I3:=I2.block (t':=s2.toks+([]:List (Str×Value)).length) (H1:=H2) S f2 (fun b hb=>let ⟨o,e,_⟩:=T.obj _ _ st2 b hb;⟨o,e⟩) hCle hDC (Nat.le_refl _) hns₁ old hacc
  generalize hY:cxC X scope (xs++subN X.N idx) ⟨HH.objs.size,closL X.env scope.names [],s2,H2,fp⟩=Y at I3
  have eY:Y=cxC X scope (xs++subN X.N idx) ⟨HH.objs.size,closL X.env scope.names [],s2,H2,fp⟩:=hY.symm
  have nof:∀b∈fp,b∉Y.fs:=fun b hb z=>by
   rw [eY] at z
   rcases List.mem_cons.mp (I2.stkSub b z) with q | q
   ·exact (f2 b hb).2.1 q
   ·exact (f2 b hb).2.2.1 q
  have stat:∀{H':Hp},(∀b∈fp,H' b=none)->∀b∈fp,FpOk Y [] H' b:=fun {H'} hn b hb=>by
   have lt:b < s2.heap.objs.size:=let ⟨o,e,_⟩:=T.obj _ _ st2 b hb;Heap.lt_size e
   refine ⟨hn b hb,?_,nof b hb,.inl (by rw [eY];exact hb),fun x c e=>?_,fun p hp=>?_⟩
   ·rw [eY];exact Nat.ne_of_lt (Nat.lt_of_lt_of_le lt hCle)
   ·rw [eY] at e
    have hall:=closL_mem (env:=X.env) scope.names [] (fun y hy e=>I2.ok.has y.1 (S.free y hy e).2) (fun p hp=>nomatch hp)
    exact (f2 b hb).2.2.2.2.1 x c (hall (x,c) (PySem.mem_of_lookup e))
   ·rw [eY] at hp;exact nomatch hp
  have T':Turn Y.prog Y.w Y.K target J fp it tn:=by rw [eY];exact T
  have hg':PG Y target (g ⟨HH.objs.size,closL X.env scope.names [],s2,H2,fp⟩):=by rw [eY];exact hg _
  have ht':PIfs Y ifs (tt ⟨HH.objs.size,closL X.env scope.names [],s2,H2,fp⟩):=by rw [eY];exact ht _
  have he':PE Y elt (te ⟨HH.objs.size,closL X.env scope.names [],s2,H2,fp⟩):=by rw [eY];exact he _
  have hcY:Y.calm=true:=by rw [eY];exact hc
  have eA:Y.A=X.A:=by rw [eY]
  have eP:Y.prog=X.prog:=by rw [eY]
  have eW:Y.w=X.w:=by rw [eY]
  have eE:Y.env=compEnvC scope (closL X.env scope.names []) HH.objs.size X.env:=by rw [eY]
  have eX:Y.xe=fun _ _=>False:=by rw [eY]
  have fin:∀σ' H' s',Inv Y [] σ' H' s'->Q (.ref s2.heap.objs.size) H'->RR (.ref s2.heap.objs.size) HH.objs.size (.ok .next) s':=fun σ' H' s' I' q=>hRR _ _ σ' H' s' hCle (by rw [<-eY];exact I') q
  rw [<-eE,<-eA,<-eP,<-eW]
  have fr0:∀b∈fp,(upd H2 s2.heap.objs.size (.lst [])) b=none:=fun b hb=>by
   have lt:b < s2.heap.objs.size:=let ⟨o,e,_⟩:=T.obj _ _ st2 b hb;Heap.lt_size e
   rw [upd_ne (Nat.ne_of_lt lt)];exact (f2 b hb).1
  refine codeAny_compLoop_any (fun n s'=>∃i ys own H',own.length=xs.length/\Inv Y [] (own++subS σ idx) H' s'/\tn i s'.heap/\(∀b∈fp,H' b=none)/\W i n ys H') ?_ m0
   ⟨0,[],_,_,List.length_replicate,I3,st1,fr0,w0⟩
  rintro n s4 ⟨i,ys,own,H4,hown,I4,st4,fr4,w4⟩
  rcases turn i n ys H4 w4 with ⟨stop,qn⟩ | ⟨go,NN,hNN,step⟩
  ·exact thn (T'.done Y rfl rfl rfl hcY i [] s4 _ H4 _ I4 (stat fr4) st4 stop) fun r s5 ⟨hr,I5⟩=>by subst hr;exact fin _ _ _ I5 qn
  ·refine thn (T'.item Y rfl rfl rfl hcY i [] s4 _ H4 _ I4 (stat fr4) st4 go) fun r s5 ⟨u,hr,h5⟩=>?_
   subst hr
   refine thn h5 fun _ s6 ⟨x,H6,I6,r6,y6,st6,fr6⟩=>?_
   have I6':=I6.pinned (stat fr6) (T'.obj _ _ st6)
   have step':=step ⟨HH.objs.size,closL X.env scope.names [],s2,H2,fp⟩ own hown x H6 y6
   refine wpAny_mono (hg' _ s6 _ H6 x u _ I6' r6 step') (fun _ s7 ⟨σ7,H7,I7,q7⟩=>?_) (fun _ _ z=>by rw [eX] at z;exact z)
   obtain ⟨⟨own7,ho7,e7⟩,q7⟩:=q7
   refine wpAny_mono (ht' _ s7 σ7 H7 _ I7 q7) (fun b s8 ⟨H8,I8,q8⟩=>?_) (fun _ _ z=>by rw [eX] at z;exact z)
   have again:∀{H9:Hp} {s9:Shared} {ys':List V},Inv Y ([]++pinsAt fp s6.heap) σ7 H9 s9->NN ys' H9->∃m,m < n/\∃i ys own H',own.length=xs.length/\Inv Y [] (own++subS σ idx) H' s9/\tn i s9.heap/\(∀b∈fp,H' b=none)/\W i m ys H':=fun {H9 s9 ys'} I9 n9=>by
    obtain ⟨m',hm,w9⟩:=hNN _ _ n9
    rw [e7] at I9
    refine ⟨m',hm,i+1,ys',own7,H9,ho7,I9.unpinned,T'.keep _ _ _ st6 fun b hb o e=>(I9.pin (b,o) (List.mem_append_right _ (List.mem_append_right _ (mem_pinsAt hb e)))).1,fun b hb=>?_,w9⟩
    obtain ⟨o,e,d⟩:=T'.obj _ _ st6 b hb
    exact (I9.pin (b,o) (List.mem_append_right _ (List.mem_append_right _ (mem_pinsAt hb e)))).2.1
   cases b with
   | false=>exact again I8 q8
   | true=>
    refine wpAny_mono (he' _ s8 σ7 H8 _ I8 q8) (fun u9 s9 ⟨y,H9,I9,r9,hy,hz,q9⟩=>?_) (fun _ _ z=>by rw [eX] at z;exact z)
    have ap:=mt_append (X:=Y) _ s9 σ7 H9 (.ref s2.heap.objs.size) [y] (.ref s2.heap.objs.size) [u9] (fun _ H10=>NN (ys++[y]) H10) I9 rfl (.cons r9 .nil) ⟨_,ys,y,rfl,rfl,hy,hz,q9⟩
    refine wpAny_mono ap (fun _ s10 ⟨_,H10,I10,_,q10⟩=>again I10 q10) (fun _ _ z=>by rw [eX] at z;exact z)
 exact codeAny_compStart_list (loop _ rfl) (T.self _ 0 _ _ _ st1 (loop _ rfl))
theorem pe_comp (hc:X.calm=true) (S:CScope X scope xs idx) (hi:PI X target iter wi)
  (hg:∀c,PG (cxC X scope (xs++subN X.N idx) c) target (g c)) (ht:∀c,PIfs (cxC X scope (xs++subN X.N idx) c) ifs (tt c)) (he:∀c,PE (cxC X scope (xs++subN X.N idx) c) elt (te c))
  (hs:∀x,foldedSetIterable iter X.env x=pure x:=by intro _;rfl):PE X (.ListComp elt [⟨target,iter,ifs,0⟩] scope pos) (tComp wi xs.length idx g tt te):=by
 intro pins s σ H Q I h
 rw [eval_ListComp]
 have hclos:closureFor scope X.env=pure (closL X.env scope.names []):=closureFor_closL fun y hy e=>I.ok.has y.1 (S.free y hy e).2
 refine wpAny_comprehension_free (use:=none) rfl hs hclos S.kind S.loc (thn (hi pins s σ H _ I h) fun xv s₁ h₁=>thn h₁ fun itv s₂ h₂=>?_)
 obtain ⟨it,fp,tn,J,H2,e,I2,T,st2,f2,hW⟩:=h₂
 subst e
 refine comp_run (Q:=Q) (RR:=fun acc C=>compPost (model X.prog X.w) X.A X.xe none (EP X pins σ Q) acc C) hc S hg ht he I2 T st2 f2 hW ?_
 intro D C σ' H' s' hC I' q
 obtain ⟨m',hn,_⟩:=I'.loc
 refine ⟨m',hn,fun h'' hs''=>?_⟩
 obtain ⟨hh,gg,d,t,os⟩:=s'
 obtain rfl:os=s₂.os:=I'.os
 have Cn:s₂.heap.get? C=none:=Heap.get?_none_of_le hC
 refine ⟨.ref D,H',I2.call (s:=s₂) (h':=h'') (g':=gg) (d':=d) (t':=t) (ch:=fp) (I'.base.but Cn hs'') (I'.hok.but I'.free hs'') I'.bare (fun b hb=>?_),rfl,q⟩
 obtain ⟨_,f1,_,f3,f4,f5⟩:=f2 b hb
 exact ⟨f3,f1,f4,f5⟩
end
theorem comp_range {lo:Int} {n k:Nat} {idx:List Nat} {g:CB->TG} {tt:CB->TT} {te:CB->TE} {σ:St} {Q:VK} {H1:Hp} {D:Addr} (Pv:Nat->List V->Hp->Prop) (h0:Pv 0 [] (upd H1 D (.lst [])))
  (hs:∀i ys H,i < n->Pv i ys H->∀(c:CB) (own:St),own.length=k->g c (.int (lo+i)) (own++subS σ idx) H fun σ3 H3=>
   (∃own',own'.length=k/\σ3=own'++subS σ idx)/\tt c σ3 H3 fun b H4=>if b=true then te c σ3 H4 fun y H5=>H5 D=some (.lst ys)/\ys.length < sizeLine/\Pv (i+1) (ys++[y]) (upd H5 D (.lst (ys++[y]))) else Pv (i+1) ys H4)
  (hd:∀ys H,Pv n ys H->Q (.ref D) H) :
  ∃W:Nat->Nat->List V->Hp->Prop,(∃m,W 0 m [] (upd H1 D (.lst [])))/\
   ∀i m ys H',W i m ys H'->((Itr lo n).stop i H'/\Q (.ref D) H')\/((Itr lo n).go i H'/\∃N:List V->Hp->Prop,(∀ys' H'',N ys' H''->∃m',m' < m/\W (i+1) m' ys' H'')/\∀(c:CB) (own:St),own.length=k->∀x H2,(Itr lo n).yld i H' x H2->g c x (own++subS σ idx) H2 fun σ3 H3=>
    (∃own',own'.length=k/\σ3=own'++subS σ idx)/\tt c σ3 H3 fun b H4=>if b=true then te c σ3 H4 fun y H5=>H5 D=some (.lst ys)/\ys.length < sizeLine/\N (ys++[y]) (upd H5 D (.lst (ys++[y]))) else N ys H4):=by
 refine ⟨fun i m ys H=>m=n - i/\i<=n/\Pv i ys H,⟨n,by simp,Nat.zero_le _,h0⟩,?_⟩
 rintro i m ys H ⟨rfl,hi,p⟩
 by_cases hlt:i < n
 ·refine .inr ⟨hlt,Pv (i+1),fun ys' H' p'=>⟨n - (i+1),by omega,rfl,hlt,p'⟩,fun c own ho x H' y=>?_⟩
  obtain ⟨e,y⟩:=y
  subst e y
  exact hs i ys _ hlt p c own ho
 ·have e:i=n:=by omega
  subst e
  exact .inl ⟨Nat.le_refl _,hd ys H p⟩
theorem comp_list {K:PySem.W.Frag} {a:Addr} {zs:List V} {k:Nat} {idx:List Nat} {g:CB->TG} {tt:CB->TT} {te:CB->TE} {σ:St} {Q:VK} {H1:Hp} {D:Addr} (Pv:Nat->List V->Hp->Prop) (h0:Pv 0 [] (upd H1 D (.lst [])))
  (hl:∀i ys H,i<=zs.length->Pv i ys H->SqL K H a zs)
  (hs:∀i x ys H,zs[i]? = some x->Pv i ys H->∀(c:CB) (own:St),own.length=k->g c x (own++subS σ idx) H fun σ3 H3=>
   (∃own',own'.length=k/\σ3=own'++subS σ idx)/\tt c σ3 H3 fun b H4=>if b=true then te c σ3 H4 fun y H5=>H5 D=some (.lst ys)/\ys.length < sizeLine/\Pv (i+1) (ys++[y]) (upd H5 D (.lst (ys++[y]))) else Pv (i+1) ys H4)
  (hd:∀ys H,Pv zs.length ys H->Q (.ref D) H) :
  ∃W:Nat->Nat->List V->Hp->Prop,(∃m,W 0 m [] (upd H1 D (.lst [])))/\
   ∀i m ys H',W i m ys H'->((Itl K a).stop i H'/\Q (.ref D) H')\/((Itl K a).go i H'/\∃N:List V->Hp->Prop,(∀ys' H'',N ys' H''->∃m',m' < m/\W (i+1) m' ys' H'')/\∀(c:CB) (own:St),own.length=k->∀x H2,(Itl K a).yld i H' x H2->g c x (own++subS σ idx) H2 fun σ3 H3=>
    (∃own',own'.length=k/\σ3=own'++subS σ idx)/\tt c σ3 H3 fun b H4=>if b=true then te c σ3 H4 fun y H5=>H5 D=some (.lst ys)/\ys.length < sizeLine/\N (ys++[y]) (upd H5 D (.lst (ys++[y]))) else N ys H4):=by
 refine ⟨fun i m ys H=>m=zs.length - i/\i<=zs.length/\Pv i ys H,⟨zs.length,by simp,Nat.zero_le _,h0⟩,?_⟩
 rintro i m ys H ⟨rfl,hi,p⟩
 have q:=hl i ys H hi p
 by_cases hlt:i < zs.length
 ·refine .inr ⟨⟨zs,zs[i],q,by simp [hlt]⟩,Pv (i+1),fun ys' H' p'=>⟨zs.length - (i+1),by omega,rfl,hlt,p'⟩,fun c own ho x H' y=>?_⟩
  obtain ⟨e,y⟩:=y
  subst e
  exact hs i x ys _ (y zs q) p c own ho
 ·have e:i=zs.length:=by omega
  subst e
  exact .inl ⟨⟨zs,q,Nat.le_refl _⟩,hd ys H p⟩
theorem own1 {own:St} {k:St} {x:V} (h:own.length=1):(own++k).set 0 (some x)=[some x]++k:=by
 match own,h with
 | [_],_=>rfl
theorem comp_range1 {lo:Int} {n:Nat} {idx:List Nat} {tt:CB->TT} {te:CB->TE} {σ:St} {Q:VK} {H1:Hp} {D:Addr} (Pv:Nat->List V->Hp->Prop) (h0:Pv 0 [] (upd H1 D (.lst [])))
  (hs:∀i ys H,i < n->Pv i ys H->∀(c:CB),tt c (some (.int (lo+i))::subS σ idx) H fun b H4=>if b=true then te c (some (.int (lo+i))::subS σ idx) H4 fun y H5=>H5 D=some (.lst ys)/\ys.length < sizeLine/\Pv (i+1) (ys++[y]) (upd H5 D (.lst (ys++[y]))) else Pv (i+1) ys H4)
  (hd:∀ys H,Pv n ys H->Q (.ref D) H) :
  ∃W:Nat->Nat->List V->Hp->Prop,(∃m,W 0 m [] (upd H1 D (.lst [])))/\
   ∀i m ys H',W i m ys H'->((Itr lo n).stop i H'/\Q (.ref D) H')\/((Itr lo n).go i H'/\∃N:List V->Hp->Prop,(∀ys' H'',N ys' H''->∃m',m' < m/\W (i+1) m' ys' H'')/\∀(c:CB) (own:St),own.length=1->∀x H2,(Itr lo n).yld i H' x H2->gName 0 x (own++subS σ idx) H2 fun σ3 H3=>
    (∃own',own'.length=1/\σ3=own'++subS σ idx)/\tt c σ3 H3 fun b H4=>if b=true then te c σ3 H4 fun y H5=>H5 D=some (.lst ys)/\ys.length < sizeLine/\N (ys++[y]) (upd H5 D (.lst (ys++[y]))) else N ys H4):=
 comp_range (g:=fun _=>gName 0) Pv h0 (fun i ys H hi p c own ho=>by
  show (∃own',own'.length=1/\(own++subS σ idx).set 0 _=own'++subS σ idx)/\tt c ((own++subS σ idx).set 0 _) H _
  rw [own1 ho]
  exact ⟨⟨[_],rfl,rfl⟩,hs i ys H hi p c⟩) hd
theorem comp_list1 {K:PySem.W.Frag} {a:Addr} {zs:List V} {idx:List Nat} {tt:CB->TT} {te:CB->TE} {σ:St} {Q:VK} {H1:Hp} {D:Addr} (Pv:Nat->List V->Hp->Prop) (h0:Pv 0 [] (upd H1 D (.lst [])))
  (hl:∀i ys H,i<=zs.length->Pv i ys H->SqL K H a zs)
  (hs:∀i x ys H,zs[i]? = some x->Pv i ys H->∀(c:CB),tt c (some x::subS σ idx) H fun b H4=>if b=true then te c (some x::subS σ idx) H4 fun y H5=>H5 D=some (.lst ys)/\ys.length < sizeLine/\Pv (i+1) (ys++[y]) (upd H5 D (.lst (ys++[y]))) else Pv (i+1) ys H4)
  (hd:∀ys H,Pv zs.length ys H->Q (.ref D) H) :
  ∃W:Nat->Nat->List V->Hp->Prop,(∃m,W 0 m [] (upd H1 D (.lst [])))/\
   ∀i m ys H',W i m ys H'->((Itl K a).stop i H'/\Q (.ref D) H')\/((Itl K a).go i H'/\∃N:List V->Hp->Prop,(∀ys' H'',N ys' H''->∃m',m' < m/\W (i+1) m' ys' H'')/\∀(c:CB) (own:St),own.length=1->∀x H2,(Itl K a).yld i H' x H2->gName 0 x (own++subS σ idx) H2 fun σ3 H3=>
    (∃own',own'.length=1/\σ3=own'++subS σ idx)/\tt c σ3 H3 fun b H4=>if b=true then te c σ3 H4 fun y H5=>H5 D=some (.lst ys)/\ys.length < sizeLine/\N (ys++[y]) (upd H5 D (.lst (ys++[y]))) else N ys H4):=
 comp_list (g:=fun _=>gName 0) Pv h0 hl (fun i x ys H hi p c own ho=>by
  show (∃own',own'.length=1/\(own++subS σ idx).set 0 _=own'++subS σ idx)/\tt c ((own++subS σ idx).set 0 _) H _
  rw [own1 ho]
  exact ⟨⟨[_],rfl,rfl⟩,hs i x ys H hi p c⟩) hd
end L2
end
section
namespace L2
open PySem PySem.Spec PyProof.Rows
def cutS (z:Str) (lo hi:Option Int):Str:=⟨((z.cps.toList.drop (HT.sIx z.length 0 lo)).take (HT.sIx z.length z.length hi - HT.sIx z.length 0 lo)).toArray⟩
theorem small1000' {n:Nat} (h:n<=1000):n<=sizeLine:=Nat.le_of_lt (Nat.lt_of_le_of_lt h (by decide))
section
variable {X:Cx}
def rSlS:V->Option Int->Option Int->Hp->VK->Prop:=fun x lo hi H Q=>∃z,x=.str z/\z.length<=sizeLine/\Q (.str (cutS z lo hi)) H
def tRev (K:PySem.W.Frag) (te ts:TE):TE:=fun σ H Q=>te σ H fun x H1=>ts σ H1 fun y H2=>∃a xs,x=.ref a/\y=.int (-1)/\SqL K H2 a xs/\∀p,H2 p=none->Q (.ref p) (upd H2 p (.lst xs.reverse))
theorem call_isi (c:Value):CallR X (.builtin "isinstance") (fun vs H Q=>∃x t b n,vs=[x,.ty n]/\TyOf X.K H x t/\PySem.W.kitOne X.K t (.type n)=some b/\Q (.bl b) H):=by
 intro pins s σ H vs us Q I rv h
 obtain ⟨x,t,b,n,rfl,ty,e,q⟩:=h
 obtain ⟨u,v,rfl,ru,rv'⟩:=rv.two
 obtain rfl:v=Value.type n:=rv'
 exact isinst_ok I ru ty e fun tk=>⟨.bl b,H,I.tok _,rfl,q⟩
def eqVs (xs ys:List V):Bool:=xs.length == ys.length && (List.range xs.length).all fun j=>eqV (xs.getD j .non) (ys.getD j .non)
def rClearD:V->List V->Hp->VK->Prop:=fun x vs H Q=>∃a kvs,x=.ref a/\vs=[]/\H a=some (.dK kvs)/\Q .non (upd H a (.dK []))
end
section
variable {X:Cx} {elt target iter:Expr} {ifs:List Expr} {scope:Scope} {pos spos py:Pos} {xs:List Str} {idx:List Nat} {wi:TI} {g:CB->TG} {tt:CB->TT} {te:CB->TE}
theorem ps_setC {i:Nat} {y:Str} (hN:X.N.Nodup) (hi0:X.N[i]? = some y) (hy:X.env.scope.names.lookup y=some .local) (hc:X.calm=true) (S:CScope X scope xs idx) (hi:PI X target iter wi)
  (hg:∀c,PG (cxC X scope (xs++subN X.N idx) c) target (g c)) (ht:∀c,PIfs (cxC X scope (xs++subN X.N idx) c) ifs (tt c)) (he:∀c,PE (cxC X scope (xs++subN X.N idx) c) elt (te c))
  (hsw:swapsWith (.ListComp elt [⟨target,iter,ifs,0⟩] scope pos) (some (.Name y py)) spos.line X.env=pure true:=by rfl)
  (hs:∀x,foldedSetIterable iter X.env x=pure x:=by intro _;rfl):PS X (.Assign [.Name y py] (.ListComp elt [⟨target,iter,ifs,0⟩] scope pos) spos) (tAsg (tComp wi xs.length idx g tt te) (gName i)):=by
 intro pins s σ H D I h
 have hclos:closureFor scope X.env=pure (closL X.env scope.names []):=closureFor_closL fun y hy e=>I.ok.has y.1 (S.free y hy e).2
 rw [exec_Assign_Name_used _ _ _ _ hsw]
 refine wpAny_bind (wpAny_standAt (wpAny_bind ?_))
 show wpAny _ X.A (do let _ <-comprehension (.ListComp elt [⟨target,iter,ifs,0⟩] scope pos) scope X.env _ (newList []) false (eval iter X.env) (some (assign (.Name y py) X.env))) _ _ s
 refine wpAny_bind (wpAny_mono (wpAny_comprehension_free (use:=some (assign (.Name y py) X.env)) (Q:=fun _ s'=>SP X pins D .next s') rfl hs hclos S.kind S.loc
  (thn (hi pins s σ H _ I h) fun xv s₁ h₁=>thn h₁ fun itv s₂ h₂=>?_)) (fun _ s' hq=>wpAny_pure (wpAny_pure hq)) fun _ _ e=>e)
 obtain ⟨it,fp,tn,J,H2,e,I2,T,st2,f2,hW⟩:=h₂
 subst e
 refine comp_run (Q:=fun v H'=>gName i v σ H' D.nx) (RR:=fun acc C=>compPost (model X.prog X.w) X.A X.xe (some (assign (.Name y py) X.env)) (fun _ s'=>SP X pins D .next s') acc C) hc S hg ht he I2 T st2 f2 hW ?_
 intro DD C σ' H' s' hC I' q
 show wpAny _ X.A (assign (.Name y py) X.env (.ref DD)) _ _ _
 obtain ⟨hh,gg,d,t,os⟩:=s'
 obtain rfl:os=s₂.os:=I'.os
 have Cn:s₂.heap.get? C=none:=Heap.get?_none_of_le hC
 have I3:Inv X pins σ H' { s₂ with heap:=hh,gens:=gg,drawn:=d,toks:=t }:=I2.call (s:=s₂) (h':=hh) (g':=gg) (d':=d) (t':=t) (ch:=fp) (I'.base.but Cn (Heap.SameBut.refl _ _)) I'.hok I'.bare (fun b hb=>by
  obtain ⟨_,f1,_,f3,f4,f5⟩:=f2 b hb
  exact ⟨f3,f1,f4,f5⟩)
 obtain ⟨m',hn,_⟩:=I'.loc
 have hLC:X.env.locals≠C:=Nat.ne_of_lt (Nat.lt_of_lt_of_le I2.lt hC)
 refine wpAny_assign_Name (store_ok2 I3 hN hi0 (.inl hy) (v:=.ref DD) rfl (fun s'' I4 ⟨a,hs4,ha⟩=>?_) (.inr hy))
 have haC:C≠a:=by
  rcases ha with e | e
  ·rw [e];exact Ne.symm hLC
  ·obtain ⟨v,q⟩:=I2.cell y a e
   exact Nat.ne_of_gt (Nat.lt_of_lt_of_le q.lt hC)
 refine ⟨m',hn.sameBut hs4 haC,fun h3 hs3=>?_⟩
 obtain ⟨hh4,gg4,d4,t4,os4⟩:=s''
 have I5:Inv X pins (σ.set i (some (.ref DD))) H' { heap:=h3,gens:=gg4,drawn:=d4,toks:=t4,os:=os4 }:=
  I4.turned (s:={ heap:=hh4,gens:=gg4,drawn:=d4,toks:=t4,os:=os4 }) (h':=h3) (t':=t4) (it:=C) (fun b o hb e=>(hs3.2 b hb).trans e) I'.free (Ne.symm hLC) (.inr (Nat.le_trans I2.sz hC)) (fun x c e z=>by
   obtain ⟨v,q⟩:=I2.cell x c e
   exact absurd (Nat.lt_of_lt_of_le q.lt hC) (by rw [z];exact Nat.lt_irrefl _)) (fun p hp z=>by
   have:=(I2.pin p hp).1
   rw [z,Cn] at this;cases this)
 exact ⟨_,H',I5,q⟩
end
end L2
end
section
namespace L2
open PySem PySem.Spec PyProof.Rows
def csOk (osc:Scope) (N:List Str) (scope:Scope) (idx:List Nat):Bool:=
 scope.kind == .function && scope.names.all (fun y=>y.2 != .cell) && scope.names.all (fun y=>y.2 != .local || scope.names.lookup y.1 == some .local) &&
 scope.names.all (fun y=>y.2 != .free || (scope.names.lookup y.1 == some .free && (osc.names.lookup y.1 == some .cell || osc.names.lookup y.1 == some .free))) &&
 idx.all (fun i=>match N[i]? with | some y=>scope.names.lookup y == some .free | none=>false)
theorem cscope_of {X:Cx} {scope:Scope} {xs:List Str} {idx:List Nat} {osc:Scope} {N:List Str} (h:csOk osc N scope idx=true) (e1:X.env.scope=osc:=by rfl) (e2:X.N=N:=by rfl):CScope X scope xs idx:=by
 unfold csOk at h
 simp only [Bool.and_eq_true] at h
 refine hide fun gG hG=>?_
 obtain ⟨⟨⟨⟨h1,h2⟩,h3⟩,h4⟩,h5⟩:=h
 refine hG ?_
 refine ⟨by simpa using h1,fun y hy e=>?_,fun y hy e=>?_,fun y hy e=>?_,fun i hi=>?_⟩
 ·have:=List.all_eq_true.mp h2 y hy
  rw [e] at this;exact absurd this (by decide)
 ·have:=List.all_eq_true.mp h3 y hy
  rw [e] at this;simpa using this
 ·have:=List.all_eq_true.mp h4 y hy
  rw [e] at this
  have t:(scope.names.lookup y.1 == some NameKind.free && (osc.names.lookup y.1 == some .cell || osc.names.lookup y.1 == some .free))=true:=by simpa using this
  rw [Bool.and_eq_true,Bool.or_eq_true] at t
  refine ⟨by simpa using t.1,?_⟩
  show X.env.scope.names.lookup y.1=_\/X.env.scope.names.lookup y.1=_
  rw [e1]
  exact t.2.imp (by simp) (by simp)
 ·have:=List.all_eq_true.mp h5 i hi
  rw [e2]
  cases e:N[i]? with
  | none=>rw [e] at this;cases this
  | some y=>rw [e] at this;exact ⟨y,rfl,by simpa using this⟩
theorem atI_0 {α:Type} (a:α) (xs:List α):atI (a::xs) 0=some a:=atI_nat (j:=0) rfl
theorem atI_1 {α:Type} (a b:α) (xs:List α):atI (a::b::xs) 1=some b:=atI_nat (j:=1) rfl
theorem atI_2 {α:Type} (a b c:α) (xs:List α):atI (a::b::c::xs) 2=some c:=atI_nat (j:=2) rfl
theorem atI_3 {α:Type} (a b c d:α) (xs:List α):atI (a::b::c::d::xs) 3=some d:=atI_nat (j:=3) rfl
theorem atI_4 {α:Type} (a b c d e:α) (xs:List α):atI (a::b::c::d::e::xs) 4=some e:=atI_nat (j:=4) rfl
theorem atI_5 {α:Type} (a b c d e f:α) (xs:List α):atI (a::b::c::d::e::f::xs) 5=some f:=atI_nat (j:=5) rfl
theorem ixN6_1:ixN 6 1=some 1:=rfl
theorem ixN6_2:ixN 6 2=some 2:=rfl
theorem ixN6_3:ixN 6 3=some 3:=rfl
theorem ixN6_4:ixN 6 4=some 4:=rfl
theorem ixN6_5:ixN 6 5=some 5:=rfl
theorem cmulR (i:Int):CMul i 48271/\CMul i 40693/\CMul i 3/\CMul i 4294967296:=⟨.inr ⟨by decide,by decide⟩,.inr ⟨by decide,by decide⟩,.inr ⟨by decide,by decide⟩,.inr ⟨by decide,by decide⟩⟩
theorem cmul1 (i:Int):CMul i 48271:=(cmulR i).1
theorem cmul2 (i:Int):CMul i 40693:=(cmulR i).2.1
theorem cmul3 (i:Int):CMul i 3:=(cmulR i).2.2.1
theorem cmul4 (i:Int):CMul i 4294967296:=(cmulR i).2.2.2
theorem cmul5 (i:Int):CMul 5 i/\CMul 3 i/\CMul 7 i/\CMul 10 i:=⟨.inl ⟨by decide,by decide⟩,.inl ⟨by decide,by decide⟩,.inl ⟨by decide,by decide⟩,.inl ⟨by decide,by decide⟩⟩
theorem cmul5a (i:Int):CMul 5 i:=(cmul5 i).1
theorem cmul5b (i:Int):CMul 3 i:=(cmul5 i).2.1
theorem cmul5c (i:Int):CMul 7 i:=(cmul5 i).2.2.1
theorem cmul5d (i:Int):CMul 10 i:=(cmul5 i).2.2.2
theorem cpow18:CPow 10 18:=⟨by decide,by decide,by decide⟩
def tCut (t u:TS):TS:=fun D σ H=>∃N:St->Hp->Prop,t { D with nx:=N } σ H/\∀σ' H',N σ' H'->u D σ' H'
theorem pss_cut {X:Cx} {st:Stmt} {rest:List Stmt} {t u:TS} (h1:PS X st t) (h2:PSs X rest u):PSs X (st::rest) (tCut t u):=by
 intro pins s σ H D I ⟨N,hn,hu⟩
 refine wpAny_execs_cons (thn (h1 pins s σ H { D with nx:=N } I hn) fun f s1 q=>?_)
 cases f with
 | next=>
  refine hide fun gG hG=>?_
  obtain ⟨σ',H',I',q⟩:=q
  refine hG ?_
  exact h2 pins s1 σ' H' D I' (hu σ' H' q)
 | ret v=>exact q
 | brk=>exact q
 | cont=>exact q
theorem atI_ints {ns:List Int} {k:Int} (h0:0<=k) (h:k < (ns.length:Int)):∃v:Int,atI (ns.map V.int) k=some (.int v):=by
 have hk:k.toNat < ns.length:=by lia
 have ek:k=((k.toNat:Nat):Int):=by lia
 have q:atI (ns.map V.int) ((k.toNat:Nat):Int)=some (.int ns[k.toNat]):=atI_nat (by rw [List.getElem?_map,List.getElem?_eq_getElem hk] <;> rfl)
 rw [<-ek] at q
 exact ⟨_,q⟩
section
variable {X:Cx}
theorem OpR.imp {f:Value->Value->Sem Value} {r r':R2} (h:OpR X f r) (i:∀x y H Q,r' x y H Q->r x y H Q):OpR X f r':=fun pins s σ H x y v u Q I rx ry q=>h pins s σ H x y v u Q I rx ry (i _ _ _ _ q)
theorem IxR.imp {r r':R2} (h:IxR X r) (i:∀x y H Q,r' x y H Q->r x y H Q):IxR X r':=fun value slice pins s σ H x y v u Q I rx ry q hs=>h value slice pins s σ H x y v u Q I rx ry (i _ _ _ _ q) hs
theorem CallR.imp {f:Value} {r r':List V->Hp->VK->Prop} (h:CallR X f r) (i:∀x H Q,r' x H Q->r x H Q):CallR X f r':=fun pins s σ H vs us Q I rv q=>h pins s σ H vs us Q I rv (i _ _ _ q)
theorem SlR.imp {r r':V->Option Int->Option Int->Hp->VK->Prop} (h:SlR X r) (i:∀x lo hi H Q,r' x lo hi H Q->r x lo hi H Q):SlR X r':=fun pins s σ H x v vl vu lo hi sl Q I rx hs pl pu q=>h pins s σ H x v vl vu lo hi sl Q I rx hs pl pu (i _ _ _ _ _ q)
theorem sqL_of {K:PySem.W.Frag} {H:Hp} {a:Addr} {xs:List V} (h:H a=some (.lst xs)):SqL K H a xs:=SqL.of h
theorem sqT_of {K:PySem.W.Frag} {H:Hp} {a:Addr} {xs:List V} (h:H a=some (.tup xs)):SqT K H a xs:=SqT.of h
def qIxL:R2:=fun x y H Q=>∃p i,x=.ref p/\y=.int i/\∃xs,H p=some (.lst xs)/\∃v,atI xs i=some v/\Q v H
theorem ix_l:IxR X qIxL:=ix_list.imp fun x y H Q ⟨p,i,e1,e2,xs,h,v,e3,q⟩=>⟨p,xs,i,v,e1,e2,sqL_of h,e3,q⟩
def qIxT:R2:=fun x y H Q=>∃p i,x=.ref p/\y=.int i/\∃xs,H p=some (.tup xs)/\∃v,atI xs i=some v/\Q v H
theorem ix_t:IxR X qIxT:=ix_tup.imp fun x y H Q ⟨p,i,e1,e2,xs,h,v,e3,q⟩=>⟨p,xs,i,v,e1,e2,sqT_of h,e3,q⟩
def qIxS:R2:=fun x y H Q=>∃z i,x=.str z/\y=.int i/\z.length<=sizeLine/\∃c,atI z.cps.toList i=some c/\Q (.str ⟨#[c]⟩) H
def qSlL:V->Option Int->Option Int->Hp->VK->Prop:=fun x lo hi H Q=>∃a,x=.ref a/\∃xs,H a=some (.lst xs)/\∀p,H p=none->Q (.ref p) (upd H p (.lst (cutV xs lo hi)))
theorem sl_l:SlR X qSlL:=sl_list.imp fun x lo hi H Q ⟨a,e,xs,h,q⟩=>⟨a,xs,e,sqL_of h,q⟩
def qSlT:V->Option Int->Option Int->Hp->VK->Prop:=fun x lo hi H Q=>∃a,x=.ref a/\∃xs,H a=some (.tup xs)/\¬(HT.sIx xs.length 0 lo=0/\HT.sIx xs.length xs.length hi=xs.length)/\∀p,H p=none->Q (.ref p) (upd H p (.tup (cutV xs lo hi)))
theorem sl_t:SlR X qSlT:=sl_tup.imp fun x lo hi H Q ⟨a,e,xs,h,n,q⟩=>⟨a,xs,e,sqT_of h,n,q⟩
def qLenL:List V->Hp->VK->Prop:=fun vs H Q=>∃p,vs=[.ref p]/\∃xs,H p=some (.lst xs)/\Q (.int xs.length) H
theorem call_lenL:CallR X (.builtin "len") qLenL:=call_len_seq.imp fun x H Q ⟨p,e,xs,h,q⟩=>⟨p,xs,e,.inl (sqL_of h),q⟩
def qLenT:List V->Hp->VK->Prop:=fun vs H Q=>∃p,vs=[.ref p]/\∃xs,H p=some (.tup xs)/\Q (.int xs.length) H
theorem call_lenT:CallR X (.builtin "len") qLenT:=call_len_seq.imp fun x H Q ⟨p,e,xs,h,q⟩=>⟨p,xs,e,.inr (sqT_of h),q⟩
def qListL:List V->Hp->VK->Prop:=fun vs H Q=>∃p,vs=[.ref p]/\∃xs,H p=some (.lst xs)/\∀l,H l=none->Q (.ref l) (upd H l (.lst xs))
theorem call_listL:CallR X (.type "list") qListL:=call_list_of.imp fun x H Q ⟨p,e,xs,h,q⟩=>⟨p,xs,e,.inl (sqL_of h),q⟩
def qListT:List V->Hp->VK->Prop:=fun vs H Q=>∃p,vs=[.ref p]/\∃xs,H p=some (.tup xs)/\∀l,H l=none->Q (.ref l) (upd H l (.lst xs))
def qTupleL:List V->Hp->VK->Prop:=fun vs H Q=>∃p,vs=[.ref p]/\∃xs,H p=some (.lst xs)/\∀l,H l=none->Q (.ref l) (upd H l (.tup xs))
theorem call_tupleL:CallR X (.type "tuple") qTupleL:=call_tuple_of.imp fun x H Q ⟨p,e,xs,h,q⟩=>⟨p,xs,e,.inl ⟨sqL_of h,q⟩⟩
def qListD:List V->Hp->VK->Prop:=fun vs H Q=>∃a,vs=[.ref a]/\∃kvs,H a=some (.dK kvs)/\∀p,H p=none->Q (.ref p) (upd H p (.lst (kvs.map fun kv=>kV kv.1)))
def qDictD:List V->Hp->VK->Prop:=fun vs H Q=>∃a,vs=[.ref a]/\∃kvs,H a=some (.dK kvs)/\∀p,H p=none->Q (.ref p) (upd H p (.dK kvs))
def qSorted:List V->Hp->VK->Prop:=fun vs H Q=>∃a,vs=[.ref a]/\∃ss:List Str,H a=some (.lst (ss.map V.str))/\ss.length < 64/\
 ∀ss':List Str,ss'.Perm ss->sortedS ss'=true->∀p,H p=none->Q (.ref p) (upd H p (.lst (ss'.map V.str)))
def qJoin:V->List V->Hp->VK->Prop:=fun x vs H Q=>∃sep a,x=.str sep/\vs=[.ref a]/\∃ss:List Str,H a=some (.lst (ss.map V.str))/\JoinOk sep ss=true/\Q (.str (Txt.join sep ss)) H
def qInL (neg:Bool):R2:=fun x y H Q=>∃p,y=.ref p/\∃xs,H p=some (.lst xs)/\flatV x=true/\xs.all flatV=true/\Q (.bl (if neg then !inV x xs else inV x xs)) H
def qInT (neg:Bool):R2:=fun x y H Q=>∃p,y=.ref p/\∃xs,H p=some (.tup xs)/\flatV x=true/\xs.all flatV=true/\Q (.bl (if neg then !inV x xs else inV x xs)) H
theorem op_inT:OpR X (compareOp .In) (qInT false):=op_in_seq.imp fun x y H Q ⟨p,e,xs,h,f1,f2,q⟩=>⟨p,xs,e,.inr (sqT_of h),f1,f2,q⟩
theorem op_notInT:OpR X (compareOp .NotIn) (qInT true):=op_notIn_seq.imp fun x y H Q ⟨p,e,xs,h,f1,f2,q⟩=>⟨p,xs,e,.inr (sqT_of h),f1,f2,q⟩
def qEqL (neg:Bool):R2:=fun x y H Q=>∃a b,x=.ref a/\y=.ref b/\∃xs,H a=some (.lst xs)/\∃ys,H b=some (.lst ys)/\xs.all flatV=true/\ys.all flatV=true/\Q (.bl (if neg then !eqVs xs ys else eqVs xs ys)) H
def qIsi (K:PySem.W.Frag):List V->Hp->VK->Prop:=fun vs H Q=>∃x n,vs=[x,.ty n]/\∃t,TyOf K H x t/\∃b,PySem.W.kitOne K t (.type n)=some b/\Q (.bl b) H
theorem call_isiT:CallR X (.builtin "isinstance") (qIsi X.K):=(call_isi .none).imp fun x H Q ⟨y,n,e,t,ty,b,h,q⟩=>⟨y,t,b,n,e,ty,h,q⟩
def qSet:V->V->V->Hp->(Hp->Prop)->Prop:=fun o i v H Q=>∃p k,o=.ref p/\i=.int k/\∃xs,H p=some (.lst xs)/\∃j,ixN xs.length k=some j/\Q (upd H p (.lst (xs.set j v)))
theorem set_l:PSet X qSet:=fun pins s σ H o i v ov iv u Q I ro ri rv ⟨p,k,e1,e2,xs,h,j,hj,q⟩=>set_list pins s σ H o i v ov iv u Q I ro ri rv ⟨p,xs,k,j,e1,e2,h,hj,q⟩
theorem get_l:PGet X (fun o i H Q=>qIxL o i H Q):=by
 intro pins s σ H o i ov iv Q I ro ri h
 refine hide fun gG hG=>?_
 obtain ⟨p,i,rfl,rfl,xs,hp,z,he,q⟩:=h
 refine hG ?_
 cases ro
 refine hide fun gG hG=>?_
 obtain ⟨t,rfl⟩:=ri
 obtain ⟨its,r,pl,hz⟩:=I.list (sqL_of hp)
 obtain ⟨j,h1,h2,h3,h4,h5⟩:=atI_get he
 obtain ⟨w,ew,rw'⟩:=r.get h2
 refine hG ?_
 have hl:=r.length
 have hn:=line63
 have fin:EP X pins σ Q w s:=⟨z,H,I,rw',q⟩
 by_cases h0:0<=i
 ·have hj:i.toNat=j:=by
   rw [seqIndex_of h0 h5] at h1
   exact Option.some.inj h1
  exact wpAny_getItem_list pl.isList h0 (by lia) (by rw [hj];simpa using ew) fin
 ·have hj:(i+(its.toArray.size:Int)).toNat=j:=by
   rw [seqIndex_neg (by lia) h4] at h1
   rw [List.size_toArray,<-hl]
   exact Option.some.inj h1
  exact wpAny_getItem_list_neg pl.isList (by lia) (by rw [List.size_toArray] <;> lia) (by lia) (by rw [hj];simpa using ew) fin
end
end L2
namespace L2
open PySem PySem.Spec PyProof.Rows
theorem of1 {α:Type} {C:List α->Prop} (h:∀a,C [a]):∀us:List α,us.length=1->C us
 | [a],_=>h a
theorem of2 {α:Type} {C:List α->Prop} (h:∀a b,C [a,b]):∀us:List α,us.length=2->C us
 | [a,b],_=>h a b
theorem of3 {α:Type} {C:List α->Prop} (h:∀a b c,C [a,b,c]):∀us:List α,us.length=3->C us
 | [a,b,c],_=>h a b c
end L2
end
section
namespace L2
open PySem PySem.Spec PyProof.Rows
structure HC (X:Cx) (N:List Str) (sc:Scope):Prop where
 n:X.N=N
 s:X.env.scope=sc
def okV (N:List Str) (sc:Scope) (i:Nat) (x:Str):Bool:=
 N[i]? == some x && (sc.names.lookup x == some .local || sc.names.lookup x == some .cell || sc.names.lookup x == some .free) && !(x == ("__debug__" : Str)) && !(x == ("__classdict__" : Str))
def okL (N:List Str) (sc:Scope) (i:Nat) (x:Str):Bool:=N[i]? == some x && (sc.names.lookup x == some .local || sc.names.lookup x == some .cell)
def okL1 (N:List Str) (sc:Scope) (i:Nat) (x:Str):Bool:=N[i]? == some x && sc.names.lookup x == some .local
def okG (sc:Scope) (x:Str):Bool:=sc.names.lookup x == some .globalImplicit
section
variable {X:Cx} {N:List Str} {sc:Scope} {x:Str} {pos:Pos}
theorem pvk (hc:HC X N sc) (i:Nat) (h:okV N sc i x=true):PE X (.Name x pos) (tVar i):=by
 unfold okV at h
 simp only [Bool.and_eq_true,Bool.or_eq_true,beq_iff_eq,Bool.not_eq_true'] at h
 obtain ⟨⟨⟨h1,h2⟩,h3⟩,h4⟩:=h
 refine pe_var (by rw [hc.n];exact h1) ?_ h3 h4
 unfold Vis
 rw [hc.s]
 rcases h2 with (h2 | h2) | h2
 ·exact .inl h2
 ·exact .inr (.inl h2)
 ·exact .inr (.inr h2)
theorem glk (hc:HC X N sc) (h:okG sc x=true):Gl X x:=by
 show X.env.scope.names.lookup x=some .globalImplicit
 rw [hc.s];simpa [okG] using h
theorem okL_loc (hc:HC X N sc) {i:Nat} (h:okL N sc i x=true):X.N[i]? = some x/\Loc X.env.scope x:=by
 unfold okL at h
 simp only [Bool.and_eq_true,Bool.or_eq_true,beq_iff_eq] at h
 refine ⟨by rw [hc.n];exact h.1,?_⟩
 unfold Loc;rw [hc.s];exact h.2
theorem okL1_loc (hc:HC X N sc) {i:Nat} (h:okL1 N sc i x=true):X.N[i]? = some x/\X.env.scope.names.lookup x=some .local:=by
 unfold okL1 at h
 simp only [Bool.and_eq_true,beq_iff_eq] at h
 exact ⟨by rw [hc.n];exact h.1,by rw [hc.s];exact h.2⟩
theorem pgk (hc:HC X N sc) (nd:N.Nodup) (hf:∀x,X.fn x=true) (i:Nat) (h:okL N sc i x=true):PG X (.Name x pos) (gName i):=
 pg_name (by rw [hc.n];exact nd) (okL_loc hc h).1 (okL_loc hc h).2 (.inl (hf x))
theorem pgb (hc:HC X N sc) (nd:N.Nodup) (i:Nat) (h:okL1 N sc i x=true):PG X (.Name x pos) (gName i):=
 pg_name (by rw [hc.n];exact nd) (okL1_loc hc h).1 (.inl (okL1_loc hc h).2) (.inr (okL1_loc hc h).2)
theorem psk_set {e:Expr} {te:TE} {pos':Pos} (hc:HC X N sc) (nd:N.Nodup) (hf:∀x,X.fn x=true) (i:Nat) (h:okL N sc i x=true) (he:PE X e te) (hs:swapsWith e (some (.Name x pos')) pos.line X.env=pure false:=by rfl) :
  PS X (.Assign [.Name x pos'] e pos) (tAsg te (gName i)):=
 ps_set (by rw [hc.n];exact nd) (okL_loc hc h).1 (okL_loc hc h).2 he hs (.inl (hf x))
theorem psk_aug {e:Expr} {te:TE} {op:Operator} {ti:TIp} {pos':Pos} (hc:HC X N sc) (nd:N.Nodup) (hf:∀x,X.fn x=true) (i:Nat) (h:okL N sc i x=true) (he:PE X e te) (ho:PIp X op ti):PS X (.AugAssign (.Name x pos') op e pos) (tAug i te ti):=
 ps_aug (by rw [hc.n];exact nd) (okL_loc hc h).1 (okL_loc hc h).2 he ho (.inl (hf x))
end
def relabelS (scope osc:Scope):Scope:=
 { scope with names:=scope.names.map fun (n,k)=>if (k == .free && osc.kind == .function && osc.names.lookup n == some .cell) then (n,.cell) else (n,k) }
theorem relabelS_eq {scope osc:Scope} {env:Env} (h:env.scope=osc):relabel scope env=relabelS scope osc:=by
 subst h;rfl
theorem hc_block {X:Cx} {N:List Str} {osc scope:Scope} {xs:List Str} {idx:List Nat} (hc:HC X N osc) (c:CB):HC (cxC X scope (xs++subN X.N idx) c) (xs++subN N idx) (relabelS scope osc):=
 ⟨by show xs++subN X.N idx=_;rw [hc.n],relabelS_eq hc.s⟩
section
variable {X:Cx} {N:List Str} {osc:Scope} {elt target iter:Expr} {ifs:List Expr} {scope:Scope} {pos spos py:Pos} {xs:List Str} {idx:List Nat} {wi:TI} {g:CB->TG} {tt:CB->TT} {te:CB->TE}
theorem pek_comp (hc:HC X N osc) (xs:List Str) (idx:List Nat) (hcalm:X.calm=true) (S:csOk osc N scope idx=true) (hi:PI X target iter wi)
  (hg:∀c,HC (cxC X scope (xs++subN X.N idx) c) (xs++subN N idx) (relabelS scope osc)->PG (cxC X scope (xs++subN X.N idx) c) target (g c))
  (ht:∀c,HC (cxC X scope (xs++subN X.N idx) c) (xs++subN N idx) (relabelS scope osc)->PIfs (cxC X scope (xs++subN X.N idx) c) ifs (tt c))
  (he:∀c,HC (cxC X scope (xs++subN X.N idx) c) (xs++subN N idx) (relabelS scope osc)->PE (cxC X scope (xs++subN X.N idx) c) elt (te c))
  (hs:∀x,foldedSetIterable iter X.env x=pure x:=by intro _;rfl):PE X (.ListComp elt [⟨target,iter,ifs,0⟩] scope pos) (tComp wi xs.length idx g tt te):=
 pe_comp hcalm (cscope_of S hc.s hc.n) hi (fun c=>hg c (hc_block hc c)) (fun c=>ht c (hc_block hc c)) (fun c=>he c (hc_block hc c)) hs
theorem psk_comp {y:Str} (hc:HC X N osc) (nd:N.Nodup) (i:Nat) (h:okL1 N osc i y=true) (xs:List Str) (idx:List Nat) (hcalm:X.calm=true) (S:csOk osc N scope idx=true) (hi:PI X target iter wi)
  (hg:∀c,HC (cxC X scope (xs++subN X.N idx) c) (xs++subN N idx) (relabelS scope osc)->PG (cxC X scope (xs++subN X.N idx) c) target (g c))
  (ht:∀c,HC (cxC X scope (xs++subN X.N idx) c) (xs++subN N idx) (relabelS scope osc)->PIfs (cxC X scope (xs++subN X.N idx) c) ifs (tt c))
  (he:∀c,HC (cxC X scope (xs++subN X.N idx) c) (xs++subN N idx) (relabelS scope osc)->PE (cxC X scope (xs++subN X.N idx) c) elt (te c))
  (hsw:swapsWith (.ListComp elt [⟨target,iter,ifs,0⟩] scope pos) (some (.Name y py)) spos.line X.env=pure true)
  (hs:∀x,foldedSetIterable iter X.env x=pure x:=by intro _;rfl):PS X (.Assign [.Name y py] (.ListComp elt [⟨target,iter,ifs,0⟩] scope pos) spos) (tAsg (tComp wi xs.length idx g tt te) (gName i)):=
 ps_setC (by rw [hc.n];exact nd) (okL1_loc hc h).1 (okL1_loc hc h).2 hcalm (cscope_of S hc.s hc.n) hi (fun c=>hg c (hc_block hc c)) (fun c=>ht c (hc_block hc c)) (fun c=>he c (hc_block hc c)) hsw hs
end
end L2
namespace L2
open PySem PySem.Spec PyProof.Rows
@[irreducible] def QSs (X:Cx) (st:List Stmt) (t:TS):Prop:=PSs X st t
theorem QSs.to {X:Cx} {st:List Stmt} {t:TS} (h:QSs X st t):PSs X st t:=by unfold QSs at h;exact h
theorem QSs.of {X:Cx} {st:List Stmt} {t:TS} (h:PSs X st t):QSs X st t:=by unfold QSs;exact h
section
variable {X:Cx} {st:Stmt} {rest:List Stmt} {t u:TS} {pos:Pos}
theorem qss_nil:QSs X [] tNext:=.of pss_nil
theorem qss_one (h1:PS X st t):QSs X [st] t:=.of (pss_one h1)
theorem qss_cons (h1:PS X st t) (h2:QSs X rest u):QSs X (st::rest) (tSeq t u):=.of (pss_cons h1 h2.to)
theorem qss_cut (h1:PS X st t) (h2:QSs X rest u):QSs X (st::rest) (tCut t u):=.of (pss_cut h1 h2.to)
theorem qs_if {c:Expr} {a b:List Stmt} {tc:TT} (hc:PT X c tc) (ha:QSs X a t) (hb:QSs X b u):PS X (.If c a b pos) (tIfS tc t u):=ps_if hc ha.to hb.to
theorem qs_while {c:Expr} {body:List Stmt} {tc:TT} {tb:TS} (hp:PassesOwn (model X.prog X.w) X.A X.env X.xe) (hc:PT X c tc) (hb:QSs X body tb):PS X (.While c body [] pos) (tWhile tc tb):=ps_while hp hc hb.to
theorem qs_for {tg iter:Expr} {body:List Stmt} {wi:TI} {g:TG} {tb:TS} (hp:PassesOwn (model X.prog X.w) X.A X.env X.xe) (hc:X.calm=true) (hi:PI X tg iter wi) (hg:PG X tg g) (hb:QSs X body tb)
  (hs:∀x,foldedSetIterable iter X.env x=pure x:=by intro _;rfl):PS X (.For tg iter body [] pos) (tFor wi g tb):=ps_for hp hc hi hg hb.to hs
end
theorem Fun.okK {P:Program} {w:World} {K:PySem.W.Frag} {mg:Str->Option Value} {base:Heap} {x qual:Str} {st:Stmt} {f:Addr} {fd:FuncData} {N ps:List Str} {k:Nat} {sp:Sp} (F:Fun K x qual st f fd) (S:FnScope N ps (defScope st)) (len:∀vs H Q E,sp vs H Q E->vs.length=ps.length)
  (hbody:∀(cdv:Value) (A:Around) (outer:List Env) (s:Shared) (H:Hp) (vs:List V) (Q:VK) (E:XK),Room k (A.deeper (envOfC qual (defScope st) s.heap.objs.size f cdv))->sp vs H Q E->
   HC (cxOf CX0 P w K mg base N qual (defScope st) f cdv A outer s H E).nox N (defScope st)->(∀x,(cxOf CX0 P w K mg base N qual (defScope st) f cdv A outer s H E).nox.fn x=true)->
   ∃t,QSs (cxOf CX0 P w K mg base N qual (defScope st) f cdv A outer s H E).nox (defBody st) t/\t { nx:=fun _ H'=>Q .non H',rt:=Q } (start N vs) H):FnOk P w K mg base CX0 (k+1) f fd ps sp:=
 F.ok S len fun cdv A outer s H vs Q E hr h=>let ⟨t,h1,h2⟩:=hbody cdv A outer s H vs Q E hr h ⟨rfl,rfl⟩ fun _=>rfl;⟨t,h1.to,h2⟩
end L2
namespace L2
open PySem PySem.Spec PyProof.Rows
def ForAll (J:It) (g:TG) (tb:TS) (D:Ends) (σ:St) (H:Hp):Prop:=∃W:Nat->Nat->St->Hp->Prop,(∃m,W 0 m σ H)/\∀i m σ H,W i m σ H->
 (J.stop i H/\D.nx σ H)\/(J.go i H/\∃N:St->Hp->Prop,(∀σ' H',N σ' H'->∃m',m' < m/\W (i+1) m' σ' H')/\∀x H',J.yld i H x H'->g x σ H' fun σ2 H2=>tb { D with nx:=N,ct:=N,bk:=D.nx } σ2 H2)
theorem tFor_eq {wi:TI} {g:TG} {tb:TS} {D:Ends} {σ:St} {H:Hp}:tFor wi g tb D σ H=wi σ H (fun J H1=>ForAll J g tb D σ H1):=rfl
def CompAll (J:It) (k:Nat) (idx:List Nat) (g:CB->TG) (tt:CB->TT) (te:CB->TE) (σ:St) (Q:VK) (H1:Hp):Prop:=∀D,H1 D=none->∃W:Nat->Nat->List V->Hp->Prop,(∃m,W 0 m [] (upd H1 D (.lst [])))/\
 ∀i m ys H',W i m ys H'->(J.stop i H'/\Q (.ref D) H')\/(J.go i H'/\∃N:List V->Hp->Prop,(∀ys' H'',N ys' H''->∃m',m' < m/\W (i+1) m' ys' H'')/\∀(c:CB) (own:St),own.length=k->∀x H2,J.yld i H' x H2->g c x (own++subS σ idx) H2 fun σ3 H3=>
  (∃own',own'.length=k/\σ3=own'++subS σ idx)/\tt c σ3 H3 fun b H4=>if b=true then te c σ3 H4 fun y H5=>H5 D=some (.lst ys)/\ys.length < sizeLine/\N (ys++[y]) (upd H5 D (.lst (ys++[y]))) else N ys H4)
theorem tComp_eq {wi:TI} {k:Nat} {idx:List Nat} {g:CB->TG} {tt:CB->TT} {te:CB->TE} {σ:St} {H:Hp} {Q:VK}:tComp wi k idx g tt te σ H Q=wi σ H (fun J H1=>CompAll J k idx g tt te σ Q H1):=rfl
theorem forAll_rng {lo:Int} {n:Nat} {g:TG} {tb:TS} {D:Ends} {σ:St} {H:Hp} (Pv:Nat->St->Hp->Prop) (h0:Pv 0 σ H)
  (hs:∀i σ H,i < n->Pv i σ H->g (.int (lo+i)) σ H fun σ2 H2=>tb { D with nx:=Pv (i+1),ct:=Pv (i+1),bk:=D.nx } σ2 H2) (hd:∀σ H,Pv n σ H->D.nx σ H):ForAll (Itr lo n) g tb D σ H:=for_range Pv h0 hs hd
theorem forAll_list {K:PySem.W.Frag} {a:Addr} {xs:List V} {g:TG} {tb:TS} {D:Ends} {σ:St} {H:Hp} (Pv:Nat->St->Hp->Prop) (h0:Pv 0 σ H) (hl:∀i σ H,i<=xs.length->Pv i σ H->H a=some (.lst xs))
  (hs:∀i x σ H,xs[i]? = some x->Pv i σ H->g x σ H fun σ2 H2=>tb { D with nx:=Pv (i+1),ct:=Pv (i+1),bk:=D.nx } σ2 H2) (hd:∀σ H,Pv xs.length σ H->D.nx σ H):ForAll (Itl K a) g tb D σ H:=
 for_list Pv h0 (fun i σ H hi p=>sqL_of (hl i σ H hi p)) hs hd
theorem forAll_tup {K:PySem.W.Frag} {a:Addr} {xs:List V} {g:TG} {tb:TS} {D:Ends} {σ:St} {H:Hp} (Pv:Nat->St->Hp->Prop) (h0:Pv 0 σ H) (hl:∀i σ H,i<=xs.length->Pv i σ H->H a=some (.tup xs))
  (hs:∀i x σ H,xs[i]? = some x->Pv i σ H->g x σ H fun σ2 H2=>tb { D with nx:=Pv (i+1),ct:=Pv (i+1),bk:=D.nx } σ2 H2) (hd:∀σ H,Pv xs.length σ H->D.nx σ H):ForAll (Itt K a) g tb D σ H:=
 for_tup Pv h0 (fun i σ H hi p=>sqT_of (hl i σ H hi p)) hs hd
theorem compAll_rng {lo:Int} {n:Nat} {idx:List Nat} {tt:CB->TT} {te:CB->TE} {σ:St} {Q:VK} {H1:Hp} (Pv:Addr->Nat->List V->Hp->Prop) (h0:∀D,H1 D=none->Pv D 0 [] (upd H1 D (.lst [])))
  (hs:∀D,H1 D=none->∀i ys H,i < n->Pv D i ys H->∀(c:CB),tt c (some (.int (lo+i))::subS σ idx) H fun b H4=>if b=true then te c (some (.int (lo+i))::subS σ idx) H4 fun y H5=>H5 D=some (.lst ys)/\ys.length < sizeLine/\Pv D (i+1) (ys++[y]) (upd H5 D (.lst (ys++[y]))) else Pv D (i+1) ys H4)
  (hd:∀D,H1 D=none->∀ys H,Pv D n ys H->Q (.ref D) H):CompAll (Itr lo n) 1 idx (fun _=>gName 0) tt te σ Q H1:=
 fun D hD=>comp_range1 (Pv D) (h0 D hD) (hs D hD) (hd D hD)
theorem compAll_list {K:PySem.W.Frag} {a:Addr} {zs:List V} {idx:List Nat} {tt:CB->TT} {te:CB->TE} {σ:St} {Q:VK} {H1:Hp} (Pv:Addr->Nat->List V->Hp->Prop) (h0:∀D,H1 D=none->Pv D 0 [] (upd H1 D (.lst [])))
  (hl:∀D,H1 D=none->∀i ys H,i<=zs.length->Pv D i ys H->H a=some (.lst zs))
  (hs:∀D,H1 D=none->∀i x ys H,zs[i]? = some x->Pv D i ys H->∀(c:CB),tt c (some x::subS σ idx) H fun b H4=>if b=true then te c (some x::subS σ idx) H4 fun y H5=>H5 D=some (.lst ys)/\ys.length < sizeLine/\Pv D (i+1) (ys++[y]) (upd H5 D (.lst (ys++[y]))) else Pv D (i+1) ys H4)
  (hd:∀D,H1 D=none->∀ys H,Pv D zs.length ys H->Q (.ref D) H):CompAll (Itl K a) 1 idx (fun _=>gName 0) tt te σ Q H1:=
 fun D hD=>comp_list1 (Pv D) (h0 D hD) (fun i ys H hi p=>sqL_of (hl D hD i ys H hi p)) (hs D hD) (hd D hD)
end L2
namespace L2
open PySem PySem.Spec PyProof.Rows
def tTxtsL (ss:List Str):TA:=fun _ H Q=>Q (List.map V.str ss) H
end L2
end
section
namespace L2
open PySem PySem.Spec PyProof.Rows
structure ZE (X:Cx) (e:Expr) (t:TE):Prop where
 to:PE X e t
structure ZT (X:Cx) (e:Expr) (t:TT):Prop where
 to:PT X e t
structure ZW (X:Cx) (e:Expr) (t:TT):Prop where
 to:PW X e t
structure ZA (X:Cx) (e:List Expr) (t:TA):Prop where
 to:PA X e t
structure ZS (X:Cx) (e:Stmt) (t:TS):Prop where
 to:PS X e t
structure ZSs (X:Cx) (e:List Stmt) (t:TS):Prop where
 to:PSs X e t
structure ZG (X:Cx) (e:Expr) (t:TG):Prop where
 to:PG X e t
structure ZIfs (X:Cx) (e:List Expr) (t:TT):Prop where
 to:PIfs X e t
structure ZO (X:Cx) (e:Option Expr) (t:TO):Prop where
 to:PO X e t
structure ZI (X:Cx) (tg iter:Expr) (t:TI):Prop where
 to:PI X tg iter t
theorem zpe_bl {X:Cx} {b:Bool} {j:Nat} {pos:Pos}:ZE X (Expr.Constant (Const.bool b) j pos) (tC (V.bl b)):=⟨pe_bl⟩
theorem zpe_int {X:Cx} {i:Int} {j:Nat} {pos:Pos}:ZE X (Expr.Constant (Const.int i) j pos) (tC (V.int i)):=⟨pe_int⟩
theorem zpe_str {X:Cx} {x:Str} {j:Nat} {pos:Pos}:ZE X (Expr.Constant (Const.str x) j pos) (tC (V.str x)):=⟨pe_str⟩
theorem zpe_non {X:Cx} {j:Nat} {pos:Pos}:ZE X (Expr.Constant Const.none j pos) (tC V.non):=⟨pe_non⟩
theorem zpvk {X:Cx} {N:List Str} {sc:Scope} {x:Str} {pos:Pos} (h1:HC X N sc) (i:Nat) (h2:okV N sc i x=true):ZE X (Expr.Name x pos) (tVar i):=⟨pvk h1 i h2⟩
theorem zpe_bltn {X:Cx} {x:Str} {v:V} {u:Value} {pos:Pos} (h1:Gl X x) (h2:Cx.mg X x=none) (h3:bootBuiltins x=some u) (h4:RelV v u) (h5:autoParam (x≠Str.ofString "__name__") pe_bltn._auto_1) (h6:autoParam ((x == Str.ofString "__debug__")=false) pe_bltn._auto_2):ZE X (Expr.Name x pos) (tC v):=⟨pe_bltn h1 h2 h3 h4 h5 h6⟩
theorem zpe_lst {X:Cx} {es:List Expr} {t:TA} {pos:Pos} (h1:ZA X es t):ZE X (Expr.List es pos) (tLst t):=⟨pe_lst h1.to⟩
theorem zpe_tup {X:Cx} {es:List Expr} {t:TA} {pos:Pos} {x1:Nat} (h1:ZA X es t):ZE X (Expr.Tuple es x1 pos) (tTup t):=⟨pe_tup h1.to⟩
theorem zpe_dnewK {X:Cx} {pos:Pos}:ZE X (Expr.Dict [] [] pos) tDNewK:=⟨pe_dnewK⟩
theorem zpe_op {X:Cx} {a b:Expr} {ta tb:TE} {pos:Pos} {op:Operator} {r:R2} (h1:OpR X (binaryOp op) r) (h2:ZE X a ta) (h3:ZE X b tb):ZE X (Expr.BinOp a op b pos) (tOp r ta tb):=⟨pe_op h1 h2.to h3.to⟩
theorem zpe_not {X:Cx} {a:Expr} {ta:TE} {pos:Pos} (h1:ZE X a ta):ZE X (Expr.UnaryOp UnaryOp.Not a pos) (tNotV ta):=⟨pe_not h1.to⟩
theorem zpe_cmpR {X:Cx} {a b:Expr} {ta tb:TE} {pos:Pos} {op:CmpOp} {r:R2} (h1:OpR X (compareOp op) r) (h2:ZE X a ta) (h3:ZE X b tb) (h4:behindInMarks op b=false):ZE X (Expr.Compare a [op] [b] pos) (tOp r ta tb):=⟨pe_cmpR h1 h2.to h3.to h4⟩
theorem zpe_one {X:Cx} {a:Expr} {pos:Pos} {op:BoolOp} {t:TE} (h1:ZE X a t):ZE X (Expr.BoolOp op [a] pos) t:=⟨pe_one h1.to⟩
theorem zpe_and {X:Cx} {a b:Expr} {ta tb:TE} {pos:Pos} {rest:List Expr} (h1:ZE X a ta) (h2:ZE X (Expr.BoolOp BoolOp.And (b::rest) pos) tb):ZE X (Expr.BoolOp BoolOp.And (a::b::rest) pos) (tAndV ta tb):=⟨pe_and h1.to h2.to⟩
theorem zpo_none {X:Cx}:ZO X none tNoPart:=⟨po_none⟩
theorem zpo_some {X:Cx} {e:Expr} {te:TE} (h1:ZE X e te):ZO X (some e) (tPart te):=⟨po_some h1.to⟩
theorem zpe_slice {X:Cx} {e:Expr} {te:TE} {lo hi:Option Expr} {tl th:TO} {pos p2:Pos} {r:V->Option Int->Option Int->Hp->VK->Prop} (h1:SlR X r) (h2:ZE X e te) (h3:ZO X lo tl) (h4:ZO X hi th):ZE X (Expr.Subscript e (Expr.Slice lo hi none p2) pos) (tSl r te tl th):=⟨pe_slice h1 h2.to h3.to h4.to⟩
theorem zpe_dget {X:Cx} {o i:Expr} {pos:Pos} {td ty:TE} (h1:Around.units (Cx.A X)+1 < cLine) (h2:ZE X o td) (h3:ZE X i ty) (h4:NoSl i):ZE X (Expr.Subscript o i pos) (tDGet td ty):=⟨pe_dget h1 h2.to h3.to h4⟩
theorem zpe_ix {X:Cx} {a b:Expr} {ta tb:TE} {pos:Pos} {r:R2} (h1:IxR X r) (h2:ZE X a ta) (h3:ZE X b tb) (h4:PlainIx b):ZE X (Expr.Subscript a b pos) (tOp r ta tb):=⟨pe_ix h1 h2.to h3.to h4⟩
theorem zpek_comp {X : Cx} {N : List Str} {osc : Scope} {elt target iter : Expr} {ifs : List Expr} {scope : Scope} {pos : Pos} {wi : TI} {g : CB → TG} {tt : CB → TT} {te : CB → TE} (h1 : HC X N osc) (xs : List Str) (idx : List Nat) (h2 : Cx.calm X = true) (h3 : csOk osc N scope idx = true) (h4 : ZI X target iter wi) (h5 : (∀ (c : CB),
                HC (cxC X scope (xs ++ subN (Cx.N X) idx) c) (xs ++ subN N idx) (relabelS scope osc) →
                  ZG (cxC X scope (xs ++ subN (Cx.N X) idx) c) target (g c))) (h6 : (∀ (c : CB),
                  HC (cxC X scope (xs ++ subN (Cx.N X) idx) c) (xs ++ subN N idx) (relabelS scope osc) →
                    ZIfs (cxC X scope (xs ++ subN (Cx.N X) idx) c) ifs (tt c))) (h7 : (∀ (c : CB),
                    HC (cxC X scope (xs ++ subN (Cx.N X) idx) c) (xs ++ subN N idx) (relabelS scope osc) →
                      ZE (cxC X scope (xs ++ subN (Cx.N X) idx) c) elt (te c))) (h8 : autoParam (∀ (x : Value), foldedSetIterable iter (Cx.env X) x = pure x) pek_comp._auto_1) : ZE X (Expr.ListComp elt [{ target := target, iter := iter, ifs := ifs, is_async := 0 }] scope pos)
                      (tComp wi (List.length xs) idx g tt te) := ⟨pek_comp h1 xs idx h2 h3 h4.to (fun c z => (h5 c z).to) (fun c z => (h6 c z).to) (fun c z => (h7 c z).to) h8⟩
theorem zpa_nil {X:Cx}:ZA X [] tNil:=⟨pa_nil⟩
theorem zpa_cons {X:Cx} {e:Expr} {es:List Expr} {te:TE} {t:TA} (h1:ZE X e te) (h2:ZA X es t) (h3:autoParam (starEach (e::es) (Cx.env X)=(false,eval e (Cx.env X))::starEach es (Cx.env X)) pa_cons._auto_1):ZA X (e::es) (tCons te t):=⟨pa_cons h1.to h2.to h3⟩
theorem zpgb {X:Cx} {N:List Str} {sc:Scope} {x:Str} {pos:Pos} (h1:HC X N sc) (h2:List.Nodup N) (i:Nat) (h3:okL1 N sc i x=true):ZG X (Expr.Name x pos) (gName i):=⟨pgb h1 h2 i h3⟩
theorem zpifs_nil {X:Cx}:ZIfs X [] tYes:=⟨pifs_nil⟩
theorem zpifs_one {X:Cx} {e:Expr} {t:TT} (h1:ZT X e t):ZIfs X [e] t:=⟨pifs_one h1.to⟩
theorem zpi_range1 {X:Cx} {tg a:Expr} {ta:TA} {p pos:Pos} (h1:Gl X (Str.ofString "range")) (h2:Cx.mg X (Str.ofString "range")=none) (h3:ZA X [a] ta) (h4:autoParam (starEach [a] (Cx.env X)=[(false,eval a (Cx.env X))]) pi_range1._auto_1):ZI X tg (Expr.Call (Expr.Name (Str.ofString "range") p) [a] [] pos) (iRng1 ta):=⟨pi_range1 h1 h2 h3.to h4⟩
theorem zpi_list {X:Cx} {tg l:Expr} {tl:TE} (h1:ZE X l tl):ZI X tg l (iList (Cx.K X) tl):=⟨pi_list h1.to⟩
theorem zpi_tup {X:Cx} {tg l:Expr} {tl:TE} (h1:ZE X l tl):ZI X tg l (iTup (Cx.K X) tl):=⟨pi_tup h1.to⟩
theorem zpt_cmpR {X:Cx} {a b:Expr} {ta tb:TE} {pos:Pos} {op:CmpOp} {r:R2} (h1:OpR X (compareOp op) r) (h2:ZE X a ta) (h3:ZE X b tb) (h4:behindInMarks op b=false):ZT X (Expr.Compare a [op] [b] pos) (tTest (tOp r ta tb)):=⟨pt_cmpR h1 h2.to h3.to h4⟩
theorem zpt_not {X:Cx} {a:Expr} {pos:Pos} {tA:TT} (h1:ZT X a tA):ZT X (Expr.UnaryOp UnaryOp.Not a pos) (tNot tA):=⟨pt_not h1.to⟩
theorem zPWpt {X:Cx} {e:Expr} {t:TT} (h1:ZW X e t):ZT X e t:=⟨PW.pt h1.to⟩
theorem zpt_val {X:Cx} {e:Expr} {t:TE} (h1:ZE X e t) (h2:autoParam
    (∀(whole:Sem Value),
     PySem.isTrue e (Cx.env X) whole=do
      let v <-whole
      standAt (Expr.pos e)
      holding [v] (truthy v))
    pt_val._auto_1):ZT X e (tB t):=⟨pt_val h1.to h2⟩
theorem zpw_and1 {X:Cx} {a:Expr} {pos:Pos} {tA:TT} (h1:ZT X a tA):ZW X (Expr.BoolOp BoolOp.And [a] pos) tA:=⟨pw_and1 h1.to⟩
theorem zpw_or1 {X:Cx} {a:Expr} {pos:Pos} {tA:TT} (h1:ZT X a tA):ZW X (Expr.BoolOp BoolOp.Or [a] pos) tA:=⟨pw_or1 h1.to⟩
theorem zpw_and {X:Cx} {a b:Expr} {pos:Pos} {tA tB':TT} {rest:List Expr} (h1:ZT X a tA) (h2:ZW X (Expr.BoolOp BoolOp.And (b::rest) pos) tB'):ZW X (Expr.BoolOp BoolOp.And (a::b::rest) pos) (tAnd tA tB'):=⟨pw_and h1.to h2.to⟩
theorem zpw_or {X:Cx} {a b:Expr} {pos:Pos} {tA tB':TT} {rest:List Expr} (h1:ZT X a tA) (h2:ZW X (Expr.BoolOp BoolOp.Or (b::rest) pos) tB'):ZW X (Expr.BoolOp BoolOp.Or (a::b::rest) pos) (tOr tA tB'):=⟨pw_or h1.to h2.to⟩
theorem zpe_call {X : Cx} {CX : CXT} {k : Nat} {f : Addr} {fd : FuncData} {ps : List Str} {sp : Sp} {dvs : List V} {ds : List Value} {E : XK} {x : Str} {p pos : Pos} {e : Expr} {es : List Expr} {t : TA} (h1 : FnOk (Cx.prog X) (Cx.w X) (Cx.K X) (Cx.mg X) (Cx.base X) CX k f fd ps sp) (h2 : Room k (Cx.A X)) (h3 : Gl X x) (h4 : Cx.mg X x = some (Value.ref f)) (h5 : W.keepIn (Cx.K X) (Value.ref f) = true) (h6 : Binds (Cx.K X) fd ps ds) (h7 : Vals dvs ds) (h8 : Passes CX X E) (h9 : ZA X (e :: es) t) (h10 : autoParam ((x == Str.ofString "__debug__") = false) pe_call._auto_1) (h11 : autoParam (starEach (e :: es) (Cx.env X) = (false, eval e (Cx.env X)) :: starEach es (Cx.env X))
                          pe_call._auto_2) (h12 : autoParam
                            ((List.any (backTo pos (starEach es (Cx.env X))) fun (x : Bool × Sem Value) => Prod.fst x) =
                              false)
                            pe_call._auto_3) : ZE X (Expr.Call (Expr.Name x p) (e :: es) [] pos) (tCall sp dvs E t) := ⟨pe_call h1 h2 h3 h4 h5 h6 h7 h8 h9.to h10 h11 h12⟩
theorem zpe_callTy {X : Cx} {x : Str} {p pos : Pos} {e : Expr} {es : List Expr} {t : TA} {T : String} {r : List V → Hp → VK → Prop} (h1 : CallR X (Value.type T) r) (h2 : Gl X x) (h3 : Cx.mg X x = none) (h4 : bootBuiltins x = some (Value.type T)) (h5 : ZA X (e :: es) t) (h6 : autoParam (x ≠ Str.ofString "__name__") pe_callTy._auto_1) (h7 : autoParam ((x == Str.ofString "__debug__") = false) pe_callTy._auto_2) (h8 : autoParam (starEach (e :: es) (Cx.env X) = (false, eval e (Cx.env X)) :: starEach es (Cx.env X))
                    pe_callTy._auto_3) (h9 : autoParam
                      ((List.any (backTo pos (starEach es (Cx.env X))) fun (x : Bool × Sem Value) => Prod.fst x) =
                        false)
                      pe_callTy._auto_4) : ZE X (Expr.Call (Expr.Name x p) (e :: es) [] pos) (tCB r t) := ⟨pe_callTy h1 h2 h3 h4 h5.to h6 h7 h8 h9⟩
theorem zpe_callB {X : Cx} {x : Str} {p pos : Pos} {e : Expr} {es : List Expr} {t : TA} {id : String} {r : List V → Hp → VK → Prop} (h1 : CallR X (Value.builtin id) r) (h2 : Gl X x) (h3 : Cx.mg X x = none) (h4 : bootBuiltins x = some (Value.builtin id)) (h5 : ZA X (e :: es) t) (h6 : autoParam (x ≠ Str.ofString "__name__") pe_callB._auto_1) (h7 : autoParam ((x == Str.ofString "__debug__") = false) pe_callB._auto_2) (h8 : autoParam (starEach (e :: es) (Cx.env X) = (false, eval e (Cx.env X)) :: starEach es (Cx.env X))
                    pe_callB._auto_3) (h9 : autoParam
                      ((List.any (backTo pos (starEach es (Cx.env X))) fun (x : Bool × Sem Value) => Prod.fst x) =
                        false)
                      pe_callB._auto_4) : ZE X (Expr.Call (Expr.Name x p) (e :: es) [] pos) (tCB r t) := ⟨pe_callB h1 h2 h3 h4 h5.to h6 h7 h8 h9⟩
theorem zpe_bm {X : Cx} {o e : Expr} {es : List Expr} {to : TE} {t : TA} {name : Str} {apos cpos : Pos} {T id : String} {r : V → List V → Hp → VK → Prop} (h1 : PlainAttrs T) (h2 : Slot T name id) (h3 : typeOf (Value.builtin id) = pure (Value.type "method_descriptor")) (h4 : MtR X id r) (h5 : ZE X o to) (h6 : ZA X (e :: es) t) (h7 : autoParam (attributeBase o name (Cx.env X) (eval o (Cx.env X)) = eval o (Cx.env X)) pe_bm._auto_1) (h8 : autoParam
                    ((((List.all (backTo cpos (starEach (e :: es) (Cx.env X))) fun (x : Bool × Sem Value) =>
                            !Prod.fst x) &&
                          List.all (backToKw cpos (keywordEach [] (Cx.env X))) fun (x : Option Str × Sem Value) =>
                            Option.isSome (Prod.fst x)) &&
                        decide
                          ((List.length (e :: es) + List.length ([] : List Keyword) + if List.isEmpty ([] : List Keyword) = true then 0 else 1) < 30)) =
                      true)
                    pe_bm._auto_2) (h9 : autoParam ((Pos.endLine apos == Pos.line cpos) = true) pe_bm._auto_3) (h10 : autoParam (starEach (e :: es) (Cx.env X) = (false, eval e (Cx.env X)) :: starEach es (Cx.env X))
                        pe_bm._auto_4) (h11 : autoParam
                          ((List.any (backTo cpos (starEach es (Cx.env X))) fun (x : Bool × Sem Value) => Prod.fst x) =
                            false)
                          pe_bm._auto_5) : ZE X (Expr.Call (Expr.Attribute o name apos) (e :: es) [] cpos) (tBM (Cx.K X) T r to t) := ⟨pe_bm h1 h2 h3 h4 h5.to h6.to h7 h8 h9 h10 h11⟩
theorem zps_ret {X:Cx} {e:Expr} {te:TE} {pos:Pos} (h1:ZE X e te):ZS X (Stmt.Return (some e) pos) (tRet te):=⟨ps_ret h1.to⟩
theorem zps_expr {X:Cx} {e:Expr} {te:TE} {pos:Pos} (h1:ZE X e te) (h2:autoParam (swapsWith e none (Pos.line pos) (Cx.env X)=pure false) ps_expr._auto_1):ZS X (Stmt.Expr e pos) (tDrop te):=⟨ps_expr h1.to h2⟩
theorem zpsk_comp {X : Cx} {N : List Str} {osc : Scope} {elt target iter : Expr} {ifs : List Expr} {scope : Scope} {pos spos py : Pos} {wi : TI} {g : CB → TG} {tt : CB → TT} {te : CB → TE} {y : Str} (h1 : HC X N osc) (h2 : List.Nodup N) (i : Nat) (h3 : okL1 N osc i y = true) (xs : List Str) (idx : List Nat) (h4 : Cx.calm X = true) (h5 : csOk osc N scope idx = true) (h6 : ZI X target iter wi) (h7 : (∀ (c : CB),
                      HC (cxC X scope (xs ++ subN (Cx.N X) idx) c) (xs ++ subN N idx) (relabelS scope osc) →
                        ZG (cxC X scope (xs ++ subN (Cx.N X) idx) c) target (g c))) (h8 : (∀ (c : CB),
                        HC (cxC X scope (xs ++ subN (Cx.N X) idx) c) (xs ++ subN N idx) (relabelS scope osc) →
                          ZIfs (cxC X scope (xs ++ subN (Cx.N X) idx) c) ifs (tt c))) (h9 : (∀ (c : CB),
                          HC (cxC X scope (xs ++ subN (Cx.N X) idx) c) (xs ++ subN N idx) (relabelS scope osc) →
                            ZE (cxC X scope (xs ++ subN (Cx.N X) idx) c) elt (te c))) (h10 : swapsWith
                              (Expr.ListComp elt [{ target := target, iter := iter, ifs := ifs, is_async := 0 }] scope
                                pos)
                              (some (Expr.Name y py)) (Pos.line spos) (Cx.env X) =
                            pure true) (h11 : autoParam (∀ (x : Value), foldedSetIterable iter (Cx.env X) x = pure x) psk_comp._auto_1) : ZS X
                              (Stmt.Assign [Expr.Name y py]
                                (Expr.ListComp elt [{ target := target, iter := iter, ifs := ifs, is_async := 0 }] scope
                                  pos)
                                spos)
                              (tAsg (tComp wi (List.length xs) idx g tt te) (gName i)) := ⟨psk_comp h1 h2 i h3 xs idx h4 h5 h6.to (fun c z => (h7 c z).to) (fun c z => (h8 c z).to) (fun c z => (h9 c z).to) h10 h11⟩
theorem zpsk_set {X:Cx} {N:List Str} {sc:Scope} {x:Str} {pos:Pos} {e:Expr} {te:TE} {pos':Pos} (h1:HC X N sc) (h2:List.Nodup N) (h3:(∀(x:Str),Cx.fn X x=true)) (i:Nat) (h4:okL N sc i x=true) (h5:ZE X e te) (h6:autoParam (swapsWith e (some (Expr.Name x pos')) (Pos.line pos) (Cx.env X)=pure false) psk_set._auto_1):ZS X (Stmt.Assign [Expr.Name x pos'] e pos) (tAsg te (gName i)):=⟨psk_set h1 h2 h3 i h4 h5.to h6⟩
theorem zps_dput {X:Cx} {o i value:Expr} {pos pos':Pos} {td ty tv:TE} (h1:Around.units (Cx.A X)+1 < cLine) (h2:ZE X o td) (h3:ZE X i ty) (h4:ZE X value tv) (h5:swapsWith value (some (Expr.Subscript o i pos')) (Pos.line pos) (Cx.env X)=pure false):ZS X (Stmt.Assign [Expr.Subscript o i pos'] value pos) (sDPut td ty tv):=⟨ps_dput h1 h2.to h3.to h4.to h5⟩
theorem zps_asg {X : Cx} {pos : Pos} {tg e : Expr} {te : TE} {g : TG} (h1 : ZE X e te) (h2 : ZG X tg g) (h3 : autoParam (swapsWithSole [tg] e (Pos.line pos) (Cx.env X) = pure false) ps_asg._auto_1) (h4 : autoParam (swappedStores [tg] e (Cx.env X) = pure none) ps_asg._auto_2) (h5 : autoParam
              (List.map (fun (x : Bool × (Value → Sem Unit)) => Prod.snd x) (assignEach [tg] (Cx.env X)) =
                [assign tg (Cx.env X)])
              ps_asg._auto_3) : ZS X (Stmt.Assign [tg] e pos) (tAsg te g) := ⟨ps_asg h1.to h2.to h3 h4 h5⟩
theorem zpg_sub {X : Cx} {pos : Pos} {o i : Expr} {to ti : TE} {t : TSet} (h1 : ZE X o to) (h2 : ZE X i ti) (h3 : PSet X t) (h4 : autoParam
            (∀ (v : Value),
              assign (Expr.Subscript o i pos) (Cx.env X) v = do
                let ov ← holding [v] (eval o (Cx.env X))
                let iv ← holding [v, ov] (eval i (Cx.env X))
                standAt pos
                holding [v, ov, iv] (setItem ov iv v)
                release [v, ov, iv] [])
            pg_sub._auto_1) : ZG X (Expr.Subscript o i pos) (gSub to ti t) := ⟨pg_sub h1.to h2.to h3 h4⟩
theorem zps_augS {X : Cx} {pos : Pos} {o i e : Expr} {to ti te : TE} {tget : V → V → Hp → VK → Prop} {tip : TIp} {tset : TSet} {op : Operator} {tpos : Pos} (h1 : ZE X o to) (h2 : ZE X i ti) (h3 : PGet X tget) (h4 : ZE X e te) (h5 : PIp X op tip) (h6 : PSet X tset) (h7 : autoParam
                  (∀ (ov iv new : Value),
                    augStore i ov iv new = do
                      holding [new, ov, iv] (setItem ov iv new)
                      release [new, ov, iv] []
                      pure Flow.next)
                  ps_augS._auto_1) : ZS X (Stmt.AugAssign (Expr.Subscript o i tpos) op e pos) (tAugS to ti te tget tip tset) := ⟨ps_augS h1.to h2.to h3 h4.to h5 h6 h7⟩
theorem zpsk_aug {X:Cx} {N:List Str} {sc:Scope} {x:Str} {pos:Pos} {e:Expr} {te:TE} {op:Operator} {ti:TIp} {pos':Pos} (h1:HC X N sc) (h2:List.Nodup N) (h3:(∀(x:Str),Cx.fn X x=true)) (i:Nat) (h4:okL N sc i x=true) (h5:ZE X e te) (h6:PIp X op ti):ZS X (Stmt.AugAssign (Expr.Name x pos') op e pos) (tAug i te ti):=⟨psk_aug h1 h2 h3 i h4 h5.to h6⟩
theorem zqs_if {X:Cx} {t u:TS} {pos:Pos} {c:Expr} {a b:List Stmt} {tc:TT} (h1:ZT X c tc) (h2:ZSs X a t) (h3:ZSs X b u):ZS X (Stmt.If c a b pos) (tIfS tc t u):=⟨qs_if h1.to (.of h2.to) (.of h3.to)⟩
theorem zqs_while {X:Cx} {pos:Pos} {c:Expr} {body:List Stmt} {tc:TT} {tb:TS} (h1:PassesOwn (model (Cx.prog X) (Cx.w X)) (Cx.A X) (Cx.env X) (Cx.xe X)) (h2:ZT X c tc) (h3:ZSs X body tb):ZS X (Stmt.While c body [] pos) (tWhile tc tb):=⟨qs_while h1 h2.to (.of h3.to)⟩
theorem zpgk {X:Cx} {N:List Str} {sc:Scope} {x:Str} {pos:Pos} (h1:HC X N sc) (h2:List.Nodup N) (h3:(∀(x:Str),Cx.fn X x=true)) (i:Nat) (h4:okL N sc i x=true):ZG X (Expr.Name x pos) (gName i):=⟨pgk h1 h2 h3 i h4⟩
theorem zqs_for {X:Cx} {pos:Pos} {tg iter:Expr} {body:List Stmt} {wi:TI} {g:TG} {tb:TS} (h1:PassesOwn (model (Cx.prog X) (Cx.w X)) (Cx.A X) (Cx.env X) (Cx.xe X)) (h2:Cx.calm X=true) (h3:ZI X tg iter wi) (h4:ZG X tg g) (h5:ZSs X body tb) (h6:autoParam (∀(x:Value),foldedSetIterable iter (Cx.env X) x=pure x) qs_for._auto_1):ZS X (Stmt.For tg iter body [] pos) (tFor wi g tb):=⟨qs_for h1 h2 h3.to h4.to (.of h5.to) h6⟩
theorem zqss_nil {X:Cx}:ZSs X [] tNext:=⟨QSs.to qss_nil⟩
theorem zqss_one {X:Cx} {st:Stmt} {t:TS} (h1:ZS X st t):ZSs X [st] t:=⟨QSs.to (qss_one h1.to)⟩
theorem zqss_cons {X:Cx} {st:Stmt} {rest:List Stmt} {t u:TS} (h1:ZS X st t) (h2:ZSs X rest u):ZSs X (st::rest) (tSeq t u):=⟨QSs.to (qss_cons h1.to (.of h2.to))⟩
theorem zqss_cut {X:Cx} {st:Stmt} {rest:List Stmt} {t u:TS} (h1:ZS X st t) (h2:ZSs X rest u):ZSs X (st::rest) (tCut t u):=⟨QSs.to (qss_cut h1.to (.of h2.to))⟩
theorem Fun.okZ {P:Program} {w:World} {K:PySem.W.Frag} {mg:Str->Option Value} {base:Heap} {x qual:Str} {st:Stmt} {f:Addr} {fd:FuncData} {N ps:List Str} {k:Nat} {sp:Sp} (F:Fun K x qual st f fd) (S:FnScope N ps (defScope st)) (len:∀vs H Q E,sp vs H Q E->vs.length=ps.length)
  (hbody:∀(cdv:Value) (A:Around) (outer:List Env) (s:Shared) (H:Hp) (vs:List V) (Q:VK) (E:XK),Room k (A.deeper (envOfC qual (defScope st) s.heap.objs.size f cdv))->sp vs H Q E->
   HC (cxOf CX0 P w K mg base N qual (defScope st) f cdv A outer s H E).nox N (defScope st)->(∀x,(cxOf CX0 P w K mg base N qual (defScope st) f cdv A outer s H E).nox.fn x=true)->
   ∃t,ZSs (cxOf CX0 P w K mg base N qual (defScope st) f cdv A outer s H E).nox (defBody st) t/\t { nx:=fun _ H'=>Q .non H',rt:=Q } (start N vs) H):FnOk P w K mg base CX0 (k+1) f fd ps sp:=
 F.okK S len fun cdv A outer s H vs Q E hr h hc hf=>let ⟨t,h1,h2⟩:=hbody cdv A outer s H vs Q E hr h hc hf;⟨t,.of h1.to,h2⟩
end L2
end
section
namespace L2
open PySem PySem.Spec PyProof.Rows
def byT (w:World):Bool:=w.params.followText "set-order"
theorem lay_led (t:SetTable) (es:Array (Int×Value)) (h:Int) (x:Value):(layNew t es h x).2.1.led=t.led:=by
 unfold layNew
 split
 ·dsimp only;unfold SetTable.orStandIn
  split <;> rfl
 ·rfl
theorem laid_led {mask finger moves:Nat} {led plain:Bool} {hs:Array Int} {t':SetTable} {o:Array Nat} (h:SetTable.laid mask finger moves led plain hs=some (t',o)):t'.led=led/\t'.plain=plain:=by
 unfold SetTable.laid at h
 cases q:SetTable.layClean mask hs with
 | none=>rw [q] at h;cases h
 | some owner=>rw [q] at h;cases h;exact ⟨rfl,rfl⟩
theorem relay_led (t:SetTable) (es:Array (Int×Value)) (k:Nat):(relayAll t es k).2.1.led=t.led:=by
 unfold relayAll
 split
 ·rename_i t' o q
  dsimp only
  split
  ·exact (laid_led q).1
  ·rfl
 ·rfl
def entS (w:World) (p:Str×Tok):Int×Value:=(hashStr w p.1,.str p.1 p.2)
def sObj (es:Array (Int×Value)) (ep:Nat) (t:SetTable):Obj:={ cls:=.type "set",dict:=none,data:=.set es ep t }
structure SetT (w:World) (h:Heap) (a:Addr) (l:List (Str×Tok)):Prop where
 ex:∃es ep t,h.get? a=some (sObj es ep t)/\es.toList=l.map (entS w)/\t.fits es.size=true/\t.led = !byT w/\(l≠[]->t.plain=false)
 nd:(l.map (·.1)).Nodup
 sz:l.length < scanBound
section
variable {P:Program} {w:World} {A:Around} {E:Value->Shared->Prop} {s:Shared} {a:Addr} {l:List (Str×Tok)}
end
end L2
end
section
namespace L2
open PySem PySem.Spec PyProof.Rows
section
variable {P:Program} {w:World} {A:Around} {R:Result->Shared->Prop} {I:Addr} {fp wr:List Addr} {G:Array GenState->Array GenState->Prop} {n:Nat} {Pv:Nat->Value->Prop} {St:Nat->Shared->Prop}
end
section
variable {P:Program} {w:World} {A:Around} {E:Value->Shared->Prop} {s:Shared}
theorem set_new {x:Value} {Q:Value->Shared->Prop} (h:Q (.ref s.heap.objs.size) { s with heap:=s.heap.push (sObj #[] 0 (.fresh 0 0 (!byT w))) }) :
  codeAny (model P w) A (.call (.builtin "set.__new__") ⟨[.type "set",x],[]⟩) (wants Q E) s:=by
 refine codeAny_of_tree ?_
 refine wpAny_bind (m:=checkBuiltinCall "set.__new__" ⟨[.type "set",x],[]⟩) (wpAny_of_eq (PySem.F.newCall_set_1 x) (wpAny_pure ⟨plainId_quiet PySem.F.plain_set_new _,codeAny_builtin PySem.F.entry_set_new ?_⟩))
 rw [Around.under_plainId PySem.F.plain_set_new _]
 unfold Builtin.«set.__new__» Builtin.Frozenset.newClass
 have hsub:=sub_set_self
 obtain ⟨hp,g,d,tk,os⟩:=s
 dsimp only
 wp_walk
 refine wpAny_askSetting (wpAny_pure ?_)
 dsimp only
 simp only [newObj]
 refine wpAny_bind (wpAny_alloc (wpAny_pure (wpAny_pure h)))
end
end L2
end
section
namespace L2
open PySem PySem.Spec PyProof.Rows
theorem si_slot_next:Slot "set_iterator" "__next__" "set_iterator.__next__":=
 .of (owner:="set_iterator") (n:="__next__") (by rw [typeLookup_type,builtinLookup_eq_fast];kernel_rfl) (by decide +kernel) (by decide +kernel) (by decide +kernel)
  (.inl (by decide +kernel)) (by rw [isSubtype_type];kernel_rfl)
theorem si_slot_iter:Slot "set_iterator" "__iter__" "set_iterator.__iter__":=
 .of (owner:="set_iterator") (n:="__iter__") (by rw [typeLookup_type,builtinLookup_eq_fast];kernel_rfl) (by decide +kernel) (by decide +kernel) (by decide +kernel)
  (.inl (by decide +kernel)) (by rw [isSubtype_type];kernel_rfl)
theorem si_entry_next:entryFor table "set_iterator.__next__" = some Builtin.«set_iterator.__next__»:=entryFor_of_tree (by kernel_rfl)
theorem si_entry_iter:entryFor table "set_iterator.__iter__" = some Builtin.«dict_keyiterator.__iter__»:=
 entryFor_alias (id':="dict_keyiterator.__iter__") (by kernel_rfl) rfl (by decide +kernel) (by kernel_rfl)
theorem se_entry_iter:entryFor table "set.__iter__" = some Builtin.«frozenset.__iter__»:=
 entryFor_alias (id':="frozenset.__iter__") (by kernel_rfl) rfl (by decide +kernel) (by kernel_rfl)
theorem si_owner:Manifest.owners.lookup (String.ofList "rotareti_tes".toList.reverse)=some Manifest.sig_set_iterator:=by kernel_rfl
theorem si_args_next (a:Value):argsOk "set_iterator.__next__" ⟨[a],[]⟩:=by
 unfold argsOk;rw [signature?_of (id:="set_iterator.__next__") (n:="__txen__".toList) (o:="rotareti_tes".toList) (by kernel_rfl) si_owner];kernel_rfl
theorem si_args_iter (a:Value):argsOk "set_iterator.__iter__" ⟨[a],[]⟩:=by
 unfold argsOk;rw [signature?_of (id:="set_iterator.__iter__") (n:="__reti__".toList) (o:="rotareti_tes".toList) (by kernel_rfl) si_owner];kernel_rfl
end L2
end
section
namespace L2
open PySem PySem.Spec PyProof.Rows
def siObj (first:Value) (i n ep:Nat) (a:Addr):Obj:={ cls:=.type "set_iterator",data:=.fields #[first,.int i 0,.ref a,.int n 0,.int ep 0] }
section
variable {P:Program} {w:World} {A:Around} {E:Value->Shared->Prop} {s:Shared} {a I:Addr} {es:Array (Int×Value)} {t:SetTable} {ep i n:Nat} {first:Value}
theorem si_type (hI:s.heap.get? I=some (siObj first i n ep a)):s.TypeIs (.ref I) "set_iterator":=⟨_,hI,rfl⟩
theorem si_self {Q:Value->Shared->Prop} (hI:s.heap.get? I=some (siObj first i n ep a)) (q:Q (.ref I) s):wpAny (model P w) A (pyIter (.ref I)) Q E s:=by
 refine wpAny_pyIter_slot (si_type hI) si_slot_iter (wpAny_call_entry si_slot_iter (si_type hI) si_entry_iter ?_ (si_args_iter _))
 exact wpAny_pure ⟨_,rfl,"set_iterator",_,si_type hI,si_slot_next.lookup,q⟩
theorem si_int {slot:Nat} {tk:Tok} {r:Option (Value×Nat)} {Q:Option Value->Shared->Prop} (hh:A.handled=none) (hI:s.heap.get? I=some (siObj (.int slot tk) i n ep a)) (hS:s.heap.get? a=some (sObj es ep t)) (hf:t.fits es.size=true) (hn:es.size=n)
  (hx:∀(B:Around) (E':Value->Shared->Prop) (Q':Option (Value×Nat)->Shared->Prop),Q' r s->wpAny (model P w) B (setNext a slot i ep) Q' E' s)
  (q:match r with
   | some (x,nx)=>∀h',h'.get? I=some (siObj (.int (nx:Int) 0) (i+1) n ep a)->Heap.SameBut I s.heap h'->Q (some x) { s with heap:=h' }
   | none=>∀h',Heap.ExtBut I s.heap h'->Q none { s with heap:=h' }):wpAny (model P w) A (pyNext (.ref I)) Q E s:=by
 have hT:=si_type hI
 unfold pyNext
 refine wpAny_bind (wpAny_attempt (wpAny_callSpecial?_slot (name:=Str.ofString "__next__") hT si_slot_next (wpAny_call_entry si_slot_next hT si_entry_next ?_ (si_args_next _))))
 unfold Builtin.«set_iterator.__next__»
 refine wpAny_bind (m:=slotArgs _ _ _) (wpAny_pure ?_)
 refine wpAny_bind (wpAny_fieldsOf hI rfl ?_)
 refine wpAny_bind (m:=setEntries a) (wpAny_setEntries_of hS rfl hf ?_)
 rw [if_neg (by rw [hn];simp)]
 refine wpAny_bind (m:=setNext a slot i ep) (hx _ _ _ ?_)
 cases r with
 | some p=>
  obtain ⟨x,nx⟩:=p
  dsimp only at q ⊢
  refine wpAny_bind (m:=setField (.ref I) 0 (rawInt nx)) (wpAny_setField_rec hI (by simp) fun h1 e1 sb1=>?_)
  refine wpAny_bind (m:=setField (.ref I) 1 (rawInt (i+1))) (wpAny_setField_rec e1 (by simp) fun h2 e2 sb2=>?_)
  exact wpAny_pure ⟨x,rfl,wpAny_pure (q h2 (by rw [e2];rfl) (sb1.trans sb2))⟩
 | none=>
  dsimp only at q ⊢
  refine wpAny_bind (m:=setField (.ref I) 2 .none) (wpAny_setField_rec hI (by simp) fun h1 e1 sb1=>?_)
  refine wpAny_bind (m:=newExc (.type "StopIteration") []) ?_
  simp only [newExc,newTuple]
  refine wpAny_bind (wpAny_newObj_type ?_ (by size_fits))
  refine wpAny_bind (m:=firstArgMember _ _) (wpAny_of_eq (a:=Value.none) (by first | rfl | (simp only [firstArgMember];rfl)) ?_)
  refine wpAny_newObj_type (wpAny_raiseNew_none hh ?_) (by size_fits)
  refine wpAny_bind (wpAny_isInstance (T:="StopIteration") (b:=true) ⟨_,Heap.get?_push_size _ rfl,rfl⟩ isSubtype_stop ?_)
  exact wpAny_pure (q _ ((sb1.extBut.push _).push _))
theorem si_tup {p:Addr} {vs:Array Value} {c:Nat} {r:Option Value} {Q:Option Value->Shared->Prop} (hh:A.handled=none) (hI:s.heap.get? I=some (siObj (.ref p) i n ep a)) (hS:s.heap.get? a=some (sObj es ep t)) (hf:t.fits es.size=true) (hn:es.size=n)
  (hp:s.heap.get? p=some { cls:=.type "tuple",data:=.seq vs c })
  (hv:match r with | some x=>∃(k:Nat) (z:Int),vs[i]? = some (.int k 0)/\es[k]? = some (z,x) | none=>vs[i]? = none)
  (q:match r with
   | some x=>∀h',h'.get? I=some (siObj (.ref p) (i+1) n ep a)->Heap.SameBut I s.heap h'->Q (some x) { s with heap:=h' }
   | none=>∀h',Heap.ExtBut I s.heap h'->Q none { s with heap:=h' }):wpAny (model P w) A (pyNext (.ref I)) Q E s:=by
 have hT:=si_type hI
 unfold pyNext
 refine wpAny_bind (wpAny_attempt (wpAny_callSpecial?_slot (name:=Str.ofString "__next__") hT si_slot_next (wpAny_call_entry si_slot_next hT si_entry_next ?_ (si_args_next _))))
 unfold Builtin.«set_iterator.__next__»
 refine wpAny_bind (m:=slotArgs _ _ _) (wpAny_pure ?_)
 refine wpAny_bind (wpAny_fieldsOf hI rfl ?_)
 refine wpAny_bind (m:=setEntries a) (wpAny_setEntries_of hS rfl hf ?_)
 rw [if_neg (by rw [hn];simp)]
 refine wpAny_bind (m:=seqItems? (.ref p)) (wpAny_seqItems hp rfl ?_)
 cases r with
 | some x=>
  obtain ⟨k,z,e1,e2⟩:=hv
  dsimp only at q ⊢
  simp only [Int.toNat_natCast,e1]
  refine wpAny_bind (m:=setNextDrawn a k ep) ?_
  unfold setNextDrawn
  refine wpAny_bind (wpAny_setState_of hS rfl hf ?_)
  dsimp only
  rw [if_neg (by simp)]
  simp only [e2]
  refine wpAny_pure ?_
  refine wpAny_bind (m:=setField (.ref I) 1 (rawInt (i+1))) (wpAny_setField_rec hI (by simp) fun h2 e2 sb2=>?_)
  exact wpAny_pure ⟨x,rfl,wpAny_pure (q h2 (by rw [e2];rfl) sb2)⟩
 | none=>
  dsimp only at q hv ⊢
  simp only [Int.toNat_natCast,hv]
  refine wpAny_bind (m:=setField (.ref I) 0 (rawInt 0)) (wpAny_setField_rec hI (by simp) fun h0 e0 sb0=>?_)
  refine wpAny_bind (m:=setField (.ref I) 2 .none) (wpAny_setField_rec e0 (by simp) fun h1 e1 sb1=>?_)
  refine wpAny_bind (m:=newExc (.type "StopIteration") []) ?_
  simp only [newExc,newTuple]
  refine wpAny_bind (wpAny_newObj_type ?_ (by size_fits))
  refine wpAny_bind (m:=firstArgMember _ _) (wpAny_of_eq (a:=Value.none) (by first | rfl | (simp only [firstArgMember];rfl)) ?_)
  refine wpAny_newObj_type (wpAny_raiseNew_none hh ?_) (by size_fits)
  refine wpAny_bind (wpAny_isInstance (T:="StopIteration") (b:=true) ⟨_,Heap.get?_push_size _ rfl,rfl⟩ isSubtype_stop ?_)
  exact wpAny_pure (q _ (((sb0.trans sb1).extBut.push _).push _))
end
end L2
end
section
namespace L2
open PySem PySem.Spec PyProof.Rows
theorem erase_perm {α:Type}:∀(l:List α) (i:Nat) (x:α),l[i]? = some x->(x::l.eraseIdx i).Perm l
 | [],i,x,h=>by cases i <;> cases h
 | y::l,0,x,h=>by cases h;exact List.Perm.refl _
 | y::l,i+1,x,h=>by
  rw [List.getElem?_cons_succ] at h
  rw [List.eraseIdx_cons_succ]
  exact (List.Perm.swap y x _).trans ((erase_perm l i x h).cons y)
theorem pick_go {α:Type} (next:Nat->Nat):∀(f k:Nat) (l:List α) (out:Array α),l.length=f->(pickOrder.go next f k l out).toList.Perm (out.toList++l)
 | 0,k,l,out,h=>by
  rw [List.length_eq_zero_iff.mp h,List.append_nil]
  unfold pickOrder.go
  exact List.Perm.refl _
 | f+1,k,l,out,h=>by
  unfold pickOrder.go
  have lt:next k % l.length < l.length:=Nat.mod_lt _ (by lia)
  have e:l[next k % l.length]? = some l[next k % l.length]:=List.getElem?_eq_getElem lt
  rw [e]
  dsimp only
  refine (pick_go next f (k+1) _ _ (by rw [List.length_eraseIdx_of_lt lt];lia)).trans ?_
  rw [Array.toList_push,List.append_assoc]
  exact (erase_perm l _ _ e).append_left _
theorem pick_perm {α:Type} (next:Nat->Nat) (xs:Array α):(pickOrder next xs).toList.Perm xs.toList:=by
 unfold pickOrder
 have:=pick_go next xs.size 0 xs.toList #[] Array.length_toList
 simpa using this
section
variable {P:Program} {w:World} {A:Around} {E:Value->Shared->Prop}
theorem draw_perm {α:Type}:∀(n:Nat) (xs:List α) (s:Shared) (Q:List α->Shared->Prop),xs.length=n->(∀ys d,ys.Perm xs->Q ys { s with drawn:=d })->wpAny (model P w) A (drawOrder n xs) Q E s
 | 0,xs,s,Q,h,q=>by
  have:xs=[]:=List.length_eq_zero_iff.mp h
  subst this
  unfold drawOrder
  exact wpAny_pure (by cases s;exact q [] _ (List.Perm.refl _))
 | n+1,[],s,Q,h,q=>by cases h
 | n+1,x::xs,s,Q,h,q=>by
  unfold drawOrder
  have lt:w.draws .order (s.drawn.get .order) % (x::xs).length < (x::xs).length:=Nat.mod_lt _ (by simp)
  refine wpAny_bind (m:=choose .order (x::xs).length) (fun Γ p hΓ=>?_)
  refine ⟨by simp,?_⟩
  have e:(x::xs)[w.draws .order (s.drawn.get .order) % (x::xs).length]? = some (x::xs)[w.draws .order (s.drawn.get .order) % (x::xs).length]:=List.getElem?_eq_getElem lt
  show wpAny (model P w) A (match (x::xs)[w.draws .order (s.drawn.get .order) % (x::xs).length]? with
   | some y=>do let r <-drawOrder n ((x::xs).eraseIdx (w.draws .order (s.drawn.get .order) % (x::xs).length));pure (y::r)
   | none=>unsupported "internal:drawOrder") Q E { s with drawn:=s.drawn.bump .order }
  rw [e]
  dsimp only
  refine wpAny_bind (draw_perm n _ _ _ (by rw [List.length_eraseIdx_of_lt lt];simp at h ⊢;lia) fun ys d hp=>wpAny_pure ?_)
  exact q _ d ((hp.cons _).trans (erase_perm _ _ _ e))
variable {s:Shared} {a:Addr} {es:Array (Int×Value)} {t:SetTable} {ep slot i:Nat}
theorem byText_ask {Q:Bool->Shared->Prop} (q:Q (byT w) s):wpAny (model P w) A setsByText Q E s:=by
 unfold setsByText
 exact wpAny_bind (wpAny_askSetting (wpAny_pure q))
theorem next_byText {Q:Option (Value×Nat)->Shared->Prop} (hb:byT w=true) (hS:s.heap.get? a=some (sObj es ep t)) (hf:t.fits es.size=true) (q:Q (((pickOrder (w.params.setOrder a ep) es)[i]?).map fun e=>(e.2,slot)) s) :
  wpAny (model P w) A (setNext a slot i ep) Q E s:=by
 unfold setNext
 refine wpAny_bind (wpAny_setState_of hS rfl hf (wpAny_bind (byText_ask ?_)))
 rw [hb]
 dsimp only
 rw [if_pos rfl,if_neg (by simp)]
 refine wpAny_bind ?_
 unfold setWalk
 refine wpAny_bind (wpAny_setState_of hS rfl hf (wpAny_bind (byText_ask ?_)))
 rw [hb,if_pos rfl]
 exact wpAny_bind (wpAny_askSetting (wpAny_pure (wpAny_pure q)))
end
end L2
end
section
namespace L2
open PySem PySem.Spec PyProof.Rows
section
variable {P:Program} {w:World} {B:Around} {a I:Addr} {es:Array (Int×Value)} {t:SetTable} {ep n:Nat} {ord:List Value}
theorem walks_int (slotAt:Nat->Nat) (hh:B.handled=none) (hne:a≠I) (hf:t.fits es.size=true) (hn:es.size=n) (ho:ord.length=n)
  (hx:∀i,i<=n->∀(s:Shared) (C:Around) (E':Value->Shared->Prop) (Q':Option (Value×Nat)->Shared->Prop),s.heap.get? a=some (sObj es ep t)->Q' ((ord[i]?).map fun v=>(v,slotAt (i+1))) s->wpAny (model P w) C (setNext a (slotAt i) i ep) Q' E' s) :
  WalksS P w B I [I,a] [I] (fun x y=>y=x) n (fun i v=>ord[i]? = some v) (fun i s=>s.heap.get? I=some (siObj (.int (slotAt i) 0) i n ep a)/\s.heap.get? a=some (sObj es ep t)) where
 sub:=fun b hb=>by rw [List.mem_singleton.mp hb];exact List.mem_cons_self
 grefl:=fun _=>rfl
 gtrans:=fun _ _ _ h1 h2=>h2.trans h1
 frame:=fun i s h' tk st _ k=>⟨k I (by simp) _ st.1,k a (by simp) _ st.2⟩
 item:=fun i s Q E hi st q=>by
  have e:ord[i]? = some ord[i]:=List.getElem?_eq_getElem (by rw [ho];exact hi)
  refine si_int (r:=some (ord[i],slotAt (i+1))) hh st.1 st.2 hf hn (fun C E' Q' hq=>hx i (Nat.le_of_lt hi) s C E' Q' st.2 (by rw [e];exact hq)) fun h' h1 h2=>?_
  exact q _ _ e ⟨h1,h2.extBut a _ hne st.2⟩ ⟨fun b o hb z=>h2.extBut b o (fun y=>hb (by rw [y];exact List.mem_singleton.mpr rfl)) z,rfl,rfl,rfl,Nat.le_refl _⟩
 done:=fun s Q E st q=>by
  have e:ord[n]? = none:=List.getElem?_eq_none (by rw [ho];exact Nat.le_refl _)
  refine si_int (r:=none) hh st.1 st.2 hf hn (fun C E' Q' hq=>hx n (Nat.le_refl _) s C E' Q' st.2 (by rw [e];exact hq)) fun h' h1=>?_
  exact q _ ⟨fun b o hb z=>h1 b o (fun y=>hb (by rw [y];exact List.mem_singleton.mpr rfl)) z,rfl,rfl,rfl,Nat.le_refl _⟩
 self:=fun i s Q E st q=>si_self st.1 q
theorem walks_tup {p:Addr} {pl:List Nat} {c:Nat} (hh:B.handled=none) (hne:a≠I) (hnp:p≠I) (hf:t.fits es.size=true) (hn:es.size=n) (ho:ord.length=n) (hl:pl.length=n)
  (hx:∀i:Nat,i < n->∃(k:Nat) (z:Int) (x:Value),pl[i]? = some k/\es[k]? = some (z,x)/\ord[i]? = some x) :
  WalksS P w B I [I,a,p] [I] (fun x y=>y=x) n (fun i v=>ord[i]? = some v)
   (fun i s=>s.heap.get? I=some (siObj (.ref p) i n ep a)/\s.heap.get? a=some (sObj es ep t)/\s.heap.get? p=some { cls:=.type "tuple",data:=.seq (pl.map fun (j:Nat)=>Value.int j 0).toArray c }) where
 sub:=fun b hb=>by rw [List.mem_singleton.mp hb];exact List.mem_cons_self
 grefl:=fun _=>rfl
 gtrans:=fun _ _ _ h1 h2=>h2.trans h1
 frame:=fun i s h' tk st _ k=>⟨k I (by simp) _ st.1,k a (by simp) _ st.2.1,k p (by simp) _ st.2.2⟩
 item:=fun i s Q E hi st q=>by
  obtain ⟨k,z,x,e1,e2,e3⟩:=hx i hi
  refine si_tup (r:=some x) hh st.1 st.2.1 hf hn st.2.2 ⟨k,z,by simp [e1],e2⟩ fun h' h1 h2=>?_
  exact q _ _ e3 ⟨h1,h2.extBut a _ hne st.2.1,h2.extBut p _ hnp st.2.2⟩ ⟨fun b o hb z=>h2.extBut b o (fun y=>hb (by rw [y];exact List.mem_singleton.mpr rfl)) z,rfl,rfl,rfl,Nat.le_refl _⟩
 done:=fun s Q E st q=>by
  refine si_tup (r:=none) hh st.1 st.2.1 hf hn st.2.2 (by simp [hl]) fun h' h1=>?_
  exact q _ ⟨fun b o hb z=>h1 b o (fun y=>hb (by rw [y];exact List.mem_singleton.mpr rfl)) z,rfl,rfl,rfl,Nat.le_refl _⟩
 self:=fun i s Q E st q=>si_self st.1 q
end
section
variable {P:Program} {w:World} {A:Around} {E:Value->Shared->Prop} {s:Shared} {a:Addr} {l:List (Str×Tok)}
end
end L2
end
section
namespace L2
open PySem PySem.Spec PyProof.Rows
section
variable {P:Program} {w:World} {A:Around} {E:Value->Shared->Prop} {s:Shared} {a:Addr} {l:List (Str×Tok)}
theorem set_hint {Q:Bool->Shared->Prop} (hT:s.TypeIs (.ref a) "set") (q:Q false s):wpAny (model P w) A (Builtin.List.listLengthHint (.ref a)) Q E s:=by
 unfold Builtin.List.listLengthHint
 refine wpAny_bind (wpAny_specialOf hT PySem.F.slot_set_len.lookup ?_)
 generalize hid:("set.__len__" : String)=id0
 wp_delta
 rw [show splitId id0=some ("set","__len__") from by subst hid;decide +kernel]
 subst hid
 refine wpAny_bind (wpAny_isInstance (T:="set") (b:=true) hT (by rw [isSubtype_type];kernel_rfl) ?_)
 refine wpAny_ite_split (fun z=>absurd z (by decide)) (fun _=>wpAny_ite_split (fun _=>?_) (fun z=>absurd (by decide +kernel) z))
 exact wpAny_bind (wpAny_typeOf hT (wpAny_pure q))
end
theorem Inv.same {X:Cx} {pins:List (Addr×Obj)} {σ:List (Option V)} {H:Hp} {s s':Shared} (I:Inv X pins σ H s) (hh:s'.heap=s.heap) (hg:s'.gens=s.gens) (ho:s'.os=s.os):Inv X pins σ H s':=
 ⟨I.ok,by rw [ho];exact I.os,by rw [hg];exact I.bare,by rw [hh];exact I.base,by rw [hh];exact I.loc,by rw [hh];exact I.cell,I.free,I.freeC,by rw [hh];exact I.pin,by rw [hh];exact I.hok,I.len⟩
def TxS (w:World) (p:Addr) (ss:List Str):HO:=.ext fun h=>∃l,SetT w h p l/\∀z,z∈l.map (·.1)↔z∈ss
section
variable {X:Cx}
theorem nodup_sub {α:Type} [DecidableEq α]:∀{l m:List α},l.Nodup->(∀x∈l,x∈m)->l.length<=m.length
 | [],m,_,_=>Nat.zero_le _
 | x::l,m,h,k=>by
  have hx:=k x List.mem_cons_self
  have:=nodup_sub (m:=m.erase x) (List.nodup_cons.mp h).2 fun y hy=>(List.mem_erase_of_ne (fun (e:y=x)=>(List.nodup_cons.mp h).1 (by rw [<-e];exact hy))).mpr (k y (List.mem_cons_of_mem _ hy))
  rw [List.length_erase_of_mem hx] at this
  have p:0 < m.length:=List.length_pos_of_mem hx
  rw [List.length_cons];lia
end
end L2
end
section
namespace L2
open PySem PySem.Spec PyProof.Rows
theorem tyV_str (K:PySem.W.Frag) (z:Str) (H:Hp):tyV K "str" (.str z) H=True:=eq_true rfl
end L2
end
section
namespace L2
open PySem PySem.Spec PyProof.Rows
section
variable {X:Cx}
def qSetS (w:World):List V->Hp->VK->Prop:=fun vs H Q=>∃a,vs=[.ref a]/\∃ss:List Str,H a=some (.lst (ss.map V.str))/\ss.length < 4000/\∀p,H p=none->Q (.ref p) (upd H p (TxS w p ss))
def qSortSet (w:World):List V->Hp->VK->Prop:=fun vs H Q=>∃a,vs=[.ref a]/\∃ss:List Str,H a=some (TxS w a ss)/\ss.length < 64/\
 ∀ss':List Str,(∀z,z∈ss'↔z∈ss)->ss'.Nodup->sortedS ss'=true->∀p,H p=none->Q (.ref p) (upd H p (.lst (ss'.map V.str)))
def qAllB:List V->Hp->VK->Prop:=fun vs H Q=>∃a,vs=[.ref a]/\∃bs:List Bool,H a=some (.lst (bs.map V.bl))/\Q (.bl (bs.all id)) H
theorem bools_at:∀{bs:List Bool} {us:List Value},Vals (bs.map V.bl) us->∀(i:Nat) (v:Value),us[i]? = some v->v=.bool (bs.getD i true):=by
 intro bs
 induction bs with
 | nil=>intro us r i v h;cases r;cases i <;> cases h
 | cons b bs ih=>
  intro us r i v h
  rw [List.map_cons] at r
  cases r with
  | cons r1 r2=>
   cases r1
   cases i with
   | zero=>cases h;rfl
   | succ i=>exact ih r2 i v (by simpa using h)
theorem all_range:∀(bs:List Bool),((List.range bs.length).all fun i=>bs.getD i true)=bs.all id
 | []=>rfl
 | b::bs=>by
  rw [List.length_cons,List.range_succ_eq_map,List.all_cons,List.all_map,List.all_cons,<-all_range bs]
  rfl
theorem call_allB (hh:X.A.handled=none):CallR X (.builtin "all") qAllB:=by
 intro pins s σ H vs us Q I rv h
 obtain ⟨a,rfl,bs,hq,q⟩:=h
 obtain ⟨u,rfl,ru⟩:=vals1 rv
 cases ru
 obtain ⟨its,r,pl,hz⟩:=I.list (sqL_of hq)
 have hl:=r.length
 rw [List.length_map] at hl
 have lt:a < s.heap.objs.size:=let ⟨_,e,_⟩:=pl.isList;Heap.lt_size e
 refine call_all_walkS (wpAny_pyIter_list pl.isList ⟨s.heap.objs.size,_,_,_,its.toArray.size,_,_,fun i=>bs.getD i true,rfl,(Walks.list (A:=X.A.in1) hh _ a (Nat.ne_of_lt lt) its.toArray).toS,⟨⟨_,Heap.get?_push_size _ rfl,rfl,rfl⟩,(pl.isList).push _⟩,?_,fun s' mv=>?_⟩)
 ·intro i v s1 Q1 E1 hv hq1
  have:v=.bool (bs.getD i true):=bools_at r i v (by simpa using hv)
  subst this
  exact wpAny_pure hq1
 ·rw [List.size_toArray,<-hl,all_range]
  have k:∀b o,s.heap.get? b=some o->s'.heap.get? b=some o:=fun b o e=>mv.heap b o (fun z=>absurd (Heap.lt_size e) (by rw [List.mem_singleton.mp z];exact Nat.lt_irrefl _)) (Heap.get?_push_of_some _ e)
  have I1:Inv X pins σ H { s with heap:=s'.heap,toks:=s.toks }:=I.un (Un.kept k) (I.hok.kept k)
  exact ⟨.bl (bs.all id),H,I1.same rfl mv.gens mv.os,rfl,q⟩
end
end L2
end
section
namespace L2
open PySem PySem.Spec PyProof.Rows
section
variable {P:Program} {w:World} {κ:Type} [DecidableEq κ] {knd:PySem.KeyKind P w κ} {A:Around} {E:Value->Shared->Prop} {s:Shared} {a b:Addr} {kvs kvs2:List (κ×Value)}
end
section
variable {X:Cx}
def qEqD (neg:Bool):R2:=fun x y H Q=>∃a b,x=.ref a/\y=.ref b/\∃kvs,H a=some (.dK kvs)/\H b=some (.dK kvs)/\(∀kv∈kvs,∃c,kv.2=.bl c)/\Q (.bl (!neg)) H
def rUpdateD:V->List V->Hp->VK->Prop:=fun x vs H Q=>∃a b,x=.ref a/\vs=[.ref b]/\a≠b/\∃kvs,H a=some (.dK kvs)/\∃more,H b=some (.dK more)/\kvs.length+more.length<=sizeLine/\Q .non (upd H a (.dK (mergeK kvs more)))
end
end L2
end
section
namespace L2
open PySem PySem.Spec PyProof.Rows
section
variable {X:Cx} {pins:List (Addr×Obj)} {s:Shared} {σ:St} {H:Hp} {A:Around}
theorem vals_at {xs:List V} {us:List Value} {j:Nat} {x:V} (r:Vals xs us) (h:j < us.toArray.size) (e:xs[j]? = some x):RelV x us.toArray[j]:=by
 have h':j < us.length:=by simpa using h
 obtain ⟨u,eu,ru⟩:=r.get e
 have:=List.getElem?_eq_getElem h'
 rw [eu] at this
 have e1:us.toArray[j]=u:=by simpa using (Option.some.inj this).symm
 rw [e1];exact ru
end
end L2
end
section
namespace L2
open PySem PySem.Spec PyProof.Rows
section
variable {P:Program} {w:World} {A:Around} {E:Value->Shared->Prop} {s:Shared}
end
section
variable {X:Cx}
end
end L2
end
section
namespace L2
open PySem PySem.Spec PyProof.Rows
section
variable {X:Cx} {tg:Expr}
end
section
variable {X:Cx}
end
end L2
end
section
namespace L2
open PySem PySem.Spec PyProof.Rows
theorem compAll_tup {K:PySem.W.Frag} {a:Addr} {zs:List V} {idx:List Nat} {tt:CB->TT} {te:CB->TE} {σ:St} {Q:VK} {H1:Hp} (Pv:Addr->Nat->List V->Hp->Prop) (h0:∀D,H1 D=none->Pv D 0 [] (upd H1 D (.lst [])))
  (hl:∀D,H1 D=none->∀i ys H,i<=zs.length->Pv D i ys H->H a=some (.tup zs))
  (hs:∀D,H1 D=none->∀i x ys H,zs[i]? = some x->Pv D i ys H->∀(c:CB),tt c (some x::subS σ idx) H fun b H4=>if b=true then te c (some x::subS σ idx) H4 fun y H5=>H5 D=some (.lst ys)/\ys.length < sizeLine/\Pv D (i+1) (ys++[y]) (upd H5 D (.lst (ys++[y]))) else Pv D (i+1) ys H4)
  (hd:∀D,H1 D=none->∀ys H,Pv D zs.length ys H->Q (.ref D) H):CompAll (Itt K a) 1 idx (fun _=>gName 0) tt te σ Q H1:=by
 intro D hD
 refine ⟨fun i m ys H=>m=zs.length - i/\i<=zs.length/\Pv D i ys H,⟨zs.length,by simp,Nat.zero_le _,h0 D hD⟩,?_⟩
 rintro i m ys H ⟨rfl,hi,p⟩
 by_cases hlt:i < zs.length
 ·refine .inr ⟨⟨zs,zs[i],sqT_of (hl D hD i ys H hi p),List.getElem?_eq_getElem hlt⟩,Pv D (i+1),fun ys' H' p'=>⟨zs.length - (i+1),by omega,rfl,hlt,p'⟩,fun c own ho y H' yl=>?_⟩
  obtain ⟨e,hy⟩:=yl
  subst e
  have ey:=hy zs (sqT_of (hl D hD i ys H' hi p))
  show (∃own',own'.length=1/\(own++subS σ idx).set 0 _=own'++subS σ idx)/\tt c ((own++subS σ idx).set 0 _) H' _
  rw [own1 ho]
  exact ⟨⟨[_],rfl,rfl⟩,hs D hD i y ys H' ey p c⟩
 ·have e:i=zs.length:=by omega
  subst e
  exact .inl ⟨⟨zs,sqT_of (hl D hD _ ys H hi p),Nat.le_refl _⟩,hd D hD ys H p⟩
section
variable {X:Cx}
end
end L2
end
section
namespace L2
open PySem PySem.Spec PyProof.Rows
section
variable {X:Cx}
def qIsB (neg:Bool):R2:=fun x y H Q=>∃c d,x=.bl c/\y=.bl d/\Q (.bl (if neg then c != d else c == d)) H
end
end L2
end
section
namespace L2
open PySem PySem.Spec PyProof.Rows
section
variable {X:Cx}
theorem cat_tup0 {prog:Program} {w:World} {A:Around} {E:Value->Shared->Prop} {s:Shared} {t b:Addr} {ws:List Value} {Q:Value->Shared->Prop} (ht:IsTup s.heap t (([]:List Value)).toArray) (hb:IsTup s.heap b ws.toArray)
  (h1:Q (.ref b) s):wpAny (model prog w) A (binaryOp .Add (.ref t) (.ref b)) Q E s:=by
 obtain ⟨⟨cls,dd,data,sl⟩,ho,hc,n,hd⟩:=id ht
 obtain ⟨⟨cls2,dd2,data2,sl2⟩,ho2,hc2,n2,hd2⟩:=id hb
 simp only at hc hd hc2 hd2
 subst hc hd hc2 hd2
 exact concat_meets ⟨_,ho,rfl⟩ ⟨_,ho2,rfl⟩ noFill_tuple_add seq_tuple_add PySem.F.slot_tuple_add PySem.F.entry_tuple_add (PySem.F.args_tuple_add_2 _ _)
   (tuple_addW0 t b _ ws.toArray n n2 dd dd2 sl sl2 rfl) ⟨ho,ho2,h1⟩
def qCatT:R2:=fun x y H Q=>∃a b,x=.ref a/\y=.ref b/\∃xs,H a=some (.tup xs)/\∃ys,H b=some (.tup ys)/\xs.length+ys.length<=sizeLine/\
 ∀p H',Same H H'->(∀c,c≠p->H' c=H c)->H' p=some (.tup (xs++ys))->Q (.ref p) H'
theorem op_catTQ:OpR X (binaryOp .Add) qCatT:=by
 intro pins s σ H x y v u Q I rx ry h
 obtain ⟨a,b,rfl,rfl,xs,ha,ys,hb,hz,q⟩:=h
 by_cases hx:xs=[]
 ·subst hx
  cases rx;cases ry
  obtain ⟨its,r1,p1,_⟩:=I.tuple (sqT_of ha)
  obtain ⟨its2,r2,p2,_⟩:=I.tuple (sqT_of hb)
  cases r1
  exact cat_tup0 p1 p2 ⟨.ref b,H,I,rfl,q b H (Same.refl H) (fun _ _=>rfl) hb⟩
 ·exact op_catT pins s σ H _ _ v u Q I rx ry ⟨a,b,xs,ys,rfl,rfl,sqT_of ha,sqT_of hb,hx,hz,fun e=>q a H (Same.refl H) (fun _ _=>rfl) (by rw [e,List.append_nil];exact ha),fun _ p hp=>q p _ (fun b u e=>by rw [upd_ne (ne_of_none e hp)];exact e) (fun c hc=>upd_ne hc) upd_same⟩
end
end L2
end
section
namespace L2
open PySem PySem.Spec PyProof.Rows
section
variable {X:Cx}
def Itst (lo st:Int) (n:Nat):It:=⟨fun i _=>i < n,fun i H x H'=>H'=H/\x=.int (lo+i * st),fun i _=>n<=i⟩
def iRng3 (ta:TA):TI:=fun σ H R=>ta σ H fun vs H1=>∃i j:Int,vs=[.int i,.int j,.int 2]/\(0<=i/\i<=1000/\-1<=j/\j<=1000)/\R (Itst i 2 ((j - i+1) / 2).toNat) H1
end
end L2
end
section
namespace L2
open PySem PySem.Spec PyProof.Rows Builtin Builtin.Str
section
variable {X:Cx}
end
end L2
end
section
namespace L2
open PySem PySem.W PyProof.Rows
abbrev at0 (p:Array Nat) (i:Nat):Nat:=p.getD i 0
section
variable {b:Nat->Nat->Bool} {n:Nat}
end
end L2
end
section
namespace L2
open PySem PySem.W PyProof.Rows
end L2
end
section
namespace L2
open PySem PySem.W PyProof.Rows
section
variable {prog:Program} {w:World} {A:Around} {E:Value->Shared->Prop} {s:Shared} {κ:SortKind} {r:Keyed->Int} {U:Keyed->Prop}
end
end L2
end
section
namespace L2
open PySem PySem.W PyProof.Rows
section
variable {r:Keyed->Int} {tot o ra rb p:List Keyed}
end
section
variable {r:Keyed->Int} {a b o:Array Keyed} {x y k:Nat}
end
section
variable {prog:Program} {w:World} {A:Around} {E:Value->Shared->Prop} {s:Shared} {κ:SortKind} {r:Keyed->Int} {U:Keyed->Prop}
end
end L2
end
section
namespace L2
open PySem PySem.W PyProof.Rows
section
variable {r:Keyed->Int} {tot o ra rb p:List Keyed}
end
section
variable {r:Keyed->Int} {a b o:Array Keyed} {x y e:Nat}
end
section
variable {prog:Program} {w:World} {A:Around} {E:Value->Shared->Prop} {s:Shared} {κ:SortKind} {r:Keyed->Int} {U:Keyed->Prop}
end
end L2
end
section
namespace L2
open PySem PySem.W PyProof.Rows
section
variable {prog:Program} {w:World} {A:Around} {E:Value->Shared->Prop} {s:Shared} {κ:SortKind} {r:Keyed->Int} {a₀:Array Keyed}
end
end L2
end
section
namespace L2
open PySem PySem.W PyProof.Rows
section
variable {prog:Program} {w:World} {A:Around} {E:Value->Shared->Prop} {s:Shared} {κ:SortKind} {r:Keyed->Int} {a₀:Array Keyed}
end
end L2
end
section
namespace L2
open PySem PySem.W PyProof.Rows
section
variable {r:Keyed->Int} {xs ys:Array Keyed}
end
section
variable {prog:Program} {w:World} {A:Around} {E:Value->Shared->Prop} {s:Shared} {κ:SortKind} {r:Keyed->Int} {a₀:Array Keyed}
end
end L2
end
section
namespace L2
open PySem PySem.W PyProof.Rows
section
variable {prog:Program} {w:World} {A:Around} {E:Value->Shared->Prop} {s:Shared} {κ:SortKind} {r:Keyed->Int} {a₀:Array Keyed}
end
end L2
end
section
namespace L2
open PySem PySem.W PyProof.Rows
section
variable {prog:Program} {w:World} {A:Around} {E:Value->Shared->Prop} {s:Shared} {κ:SortKind}
end
end L2
end
section
namespace L2
open PySem PySem.Spec PySem.W PyProof.Rows Builtin
def setLt (x y:List Int):Bool:=decide (x.length < y.length) || (decide (x.length=y.length) && HT.lexLt x y)
section
variable {P:Program} {w:World} {A:Around} {E:Value->Shared->Prop} {s:Shared}
end
end L2
end
section
namespace L2
open PySem PySem.Spec PySem.W PyProof.Rows Builtin
section
variable {P:Program} {w:World} {H H1:Hp} {h h1 h2:Heap} {e a:Addr} {o:HO} {fs:List Addr}
end
section
variable {X:Cx} {pins:List (Addr×Obj)} {σ:St} {H:Hp} {s:Shared}
structure Mid (X:Cx) (H:Hp) (s:Shared) (D S:Addr) (e1:Nat) (H':Hp) (s':Shared) (kA:Array Value):Prop where
 os:s'.os=s.os
 bare:AllBare s'.gens
 un:Un (frs X.stack) [] H H' s.heap s'.heap
 hok:HOk X.prog X.w H' s'.heap
 same:Same H H'
 nD:H' D=none
 nS:H' S=none
 oD:s'.heap.get? D=some (seqObj "list" #[] e1)
 oS:∃e,s'.heap.get? S=some (seqObj "list" kA e)
end
end L2
end
section
namespace L2
open PySem PySem.Spec PySem.W PyProof.Rows Builtin
section
variable {P:Program} {w:World} {H':Hp} {h:Heap} {p a:Addr}
end
section
variable {X:Cx} {pins:List (Addr×Obj)} {σ:St} {H:Hp} {s:Shared}
end
end L2
end
section
namespace L2
open PySem PySem.Spec PySem.W PyProof.Rows Builtin
section
variable {X:Cx} {pins:List (Addr×Obj)} {σ:St} {H:Hp} {s:Shared}
end
end L2
end
section
namespace L2
open PySem PySem.Spec PySem.W PyProof.Rows Builtin
section
variable {P:Program} {w:World} {A:Around} {E:Value->Shared->Prop} {s:Shared} {d it:Addr} {es:Array DictEntry} {ep i:Nat}
end
end L2
end
section
namespace L2
open PySem PySem.Spec PySem.W PyProof.Rows Builtin
def SetsAt (H:Hp) (bs:List Addr) (ts:List (List Int)):Prop:=bs.length=ts.length/\∀(i:Nat) b t,bs[i]? = some b->ts[i]? = some t->H b=some (.tup (List.map V.int t))
def qSortT (x:V) (H:Hp) (Q:VK):Prop:=∃d,x=.ref d/\∃kvs ss,H d=some (.dT kvs)/\kvs.map (·.1)=ss.map (List.map Sum.inl)/\ss.length < 100000/\
 ∀D H' bs ts,Same H H'->H D=none->H' D=some (.lst (List.map V.ref bs))->SetsAt H' bs ts->ts.Perm ss->ts.Pairwise (fun a b=>setLt a b=true)->Q (.ref D) H'
def tSortK (te:TE):TE:=fun σ H Q=>te σ H fun x H1=>qSortT x H1 Q
section
variable {X:Cx} {k:Nat} {f:Addr} {fd:FuncData} {pm g:Str} {e:Expr} {te:TE} {p kp kpos pos:Pos}
end
end L2
end
section
namespace L2
open PySem PySem.Spec PySem.W PyProof.Rows Builtin
section
variable {X:Cx}
def CDivB (i j:Int):Prop:=0 < j/\j < 2 ^ 300
theorem op_fdivB:OpR X (binaryOp .FloorDiv) (rI CDivB fun i j=>.int (i / j)):=opI fun i j _ _ _ _ _ hc q=>by
 have h1:(0:Int) < j:=hc.1
 have h2:j < 2 ^ 300:=hc.2
 refine floordiv_int (by omega) (by rw [Int.fdiv_eq_ediv_of_nonneg i (by omega)];exact q) (.inl (PyProof.noPylong_of_log2 ?_))
 have h3:j.natAbs < 2 ^ 300:=by omega
 have h4:j.natAbs≠0:=by omega
 have:=(Nat.log2_lt h4).mpr h3
 omega
def qAnyB:List V->Hp->VK->Prop:=fun vs H Q=>∃a,vs=[.ref a]/\∃bs:List Bool,H a=some (.lst (bs.map V.bl))/\Q (.bl (bs.any id)) H
theorem bools_atF:∀{bs:List Bool} {us:List Value},Vals (bs.map V.bl) us->∀(i:Nat) (v:Value),us[i]? = some v->v=.bool (bs.getD i false):=by
 intro bs
 induction bs with
 | nil=>intro us r i v h;cases r;cases i <;> cases h
 | cons b bs ih=>
  intro us r i v h
  rw [List.map_cons] at r
  cases r with
  | cons r1 r2=>
   cases r1
   cases i with
   | zero=>cases h;rfl
   | succ i=>exact ih r2 i v (by simpa using h)
theorem any_range:∀(bs:List Bool),((List.range bs.length).any fun i=>bs.getD i false)=bs.any id
 | []=>rfl
 | b::bs=>by
  rw [List.length_cons,List.range_succ_eq_map,List.any_cons,List.any_map,List.any_cons,<-any_range bs]
  rfl
theorem call_anyB (hh:X.A.handled=none):CallR X (.builtin "any") qAnyB:=by
 intro pins s σ H vs us Q I rv h
 obtain ⟨a,rfl,bs,hq,q⟩:=h
 obtain ⟨u,rfl,ru⟩:=vals1 rv
 cases ru
 obtain ⟨its,r,pl,hz⟩:=I.list (sqL_of hq)
 have hl:=r.length
 rw [List.length_map] at hl
 have lt:a < s.heap.objs.size:=let ⟨_,e,_⟩:=pl.isList;Heap.lt_size e
 refine call_any_walk (wpAny_pyIter_list pl.isList ⟨s.heap.objs.size,_,_,its.toArray.size,_,_,fun i=>bs.getD i false,rfl,Walks.list (A:=X.A.in1) hh _ a (Nat.ne_of_lt lt) its.toArray,⟨⟨_,Heap.get?_push_size _ rfl,rfl,rfl⟩,(pl.isList).push _⟩,?_,fun h' tk mv=>?_⟩)
 ·intro i v s1 Q1 E1 hv hq1
  have:v=.bool (bs.getD i false):=bools_atF r i v (by simpa using hv)
  subst this
  exact wpAny_pure hq1
 ·rw [List.size_toArray,<-hl,any_range]
  have k:∀b o,s.heap.get? b=some o->h'.get? b=some o:=fun b o e=>mv b o (fun z=>absurd (Heap.lt_size e) (by rw [List.mem_singleton.mp z];exact Nat.lt_irrefl _)) (Heap.get?_push_of_some _ e)
  exact ⟨.bl (bs.any id),H,I.un (t':=tk) (Un.kept k) (I.hok.kept k),rfl,q⟩
variable {k:Nat} {f:Addr} {fd:FuncData} {pm g:Str} {e:Expr} {te:TE} {p kp kpos pos:Pos}
def rInsert:V->List V->Hp->VK->Prop:=fun x vs H Q=>∃l i y,x=.ref l/\vs=[.int i,y]/\∃xs,H l=some (.lst xs)/\0<=i/\i<=xs.length/\xs.length < 100000/\Q .non (upd H l (.lst (xs.take i.toNat++y::xs.drop i.toNat)))
end
end L2
namespace L2
open PySem PySem.Spec PySem.W PyProof.Rows Builtin
end L2
end
section
namespace L2
open PySem PySem.Spec PyProof.Rows
def Itrv (K:PySem.W.Frag) (a:Addr) (n:Nat):It:=
 ⟨fun i H=>i < n/\∃xs,SqL K H a xs/\xs.length=n,fun i H x H'=>H'=H/\∀xs,SqL K H a xs->xs[n - 1 - i]? = some x,fun i _=>i=n⟩
section
variable {X:Cx} {tg:Expr}
def iRev (K:PySem.W.Frag) (ta:TA):TI:=fun σ H R=>ta σ H fun vs H1=>∃a,vs=[.ref a]/\∃xs,SqL K H1 a xs/\R (Itrv K a xs.length) H1
end
end L2
end
section
namespace L2
open PySem PySem.Spec PyProof.Rows
theorem all_same {α:Type} [DecidableEq α] {cl dl:List α}:((List.range (min cl.length dl.length)).all (fun j=>decide (cl[j]? = dl[j]?)) && cl.length == dl.length)=decide (cl=dl):=by
 rw [Bool.eq_iff_iff,Bool.and_eq_true,List.all_eq_true,decide_eq_true_iff,beq_iff_eq]
 constructor
 ·rintro ⟨h,l⟩
  apply List.ext_getElem?
  intro i
  by_cases hi:i < cl.length
  ·exact of_decide_eq_true (h i (List.mem_range.mpr (by lia)))
  ·rw [List.getElem?_eq_none (by lia),List.getElem?_eq_none (by lia)]
 ·rintro rfl
  exact ⟨fun j _=>decide_eq_true rfl,rfl⟩
section
variable {X:Cx} {pins:List (Addr×Obj)} {s:Shared} {σ:St} {H:Hp} {A:Around}
theorem eq_int_items {x y:List Int} {us ws:List Value} (r1:Vals (List.map V.int x) us) (r2:Vals (List.map V.int y) ws) (j:Nat) (h1:j < us.toArray.size) (h2:j < ws.toArray.size) :
  SeqAt.EqAt A s us.toArray[j] ws.toArray[j] (decide (x[j]? = y[j]?)):=by
 have l1:=r1.length
 have l2:=r2.length
 rw [List.length_map] at l1 l2
 have j1:j < x.length:=by rw [l1];simpa using h1
 have j2:j < y.length:=by rw [l2];simpa using h2
 have e1:x[j]? = some x[j]:=List.getElem?_eq_getElem j1
 have e2:y[j]? = some y[j]:=List.getElem?_eq_getElem j2
 have h:=eqAt_V (A:=A) (s:=s) (vals_at (x:=.int x[j]) r1 h1 (by rw [List.getElem?_map,e1];rfl)) (vals_at (x:=.int y[j]) r2 h2 (by rw [List.getElem?_map,e2];rfl)) rfl rfl
 have e3:eqV (.int x[j]) (.int y[j])=decide (x[j]? = y[j]?):=by
  rw [e1,e2,Bool.eq_iff_iff,decide_eq_true_iff,Option.some.injEq]
  show (x[j] == y[j])=true↔_
  rw [beq_iff_eq]
 rw [e3] at h
 exact h
def qEqTI (neg:Bool):R2:=fun x y H Q=>∃a b,x=.ref a/\y=.ref b/\∃u v:List Int,H a=some (.tup (List.map V.int u))/\H b=some (.tup (List.map V.int v))/\Q (.bl (if neg then !decide (u=v) else decide (u=v))) H
theorem op_eqTI (hu:X.A.units+1 < cLine):OpR X (compareOp .Eq) (qEqTI false):=by
 intro pins s σ H x y v u Q I rx ry h
 obtain ⟨a,b,rfl,rfl,cl,dl,h1,h2,q⟩:=h
 cases rx;cases ry
 obtain ⟨us,r1,t1,_⟩:=I.tuple (sqT_of h1)
 obtain ⟨ws,r2,t2,_⟩:=I.tuple (sqT_of h2)
 have l1:=r1.length
 have l2:=r2.length
 rw [List.length_map] at l1 l2
 refine SeqAt.eq_tupleAt (e:=fun j=>decide (cl[j]? = dl[j]?)) t1 t2 (by lia) (fun j h1 h2=>eq_int_items r1 r2 j h1 h2) ⟨.bl _,H,I,rfl,?_⟩
 rw [List.size_toArray,List.size_toArray,<-l1,<-l2,all_same]
 exact q
theorem op_neTI (hu:X.A.units+1 < cLine):OpR X (compareOp .NotEq) (qEqTI true):=by
 intro pins s σ H x y v u Q I rx ry h
 obtain ⟨a,b,rfl,rfl,cl,dl,h1,h2,q⟩:=h
 cases rx;cases ry
 obtain ⟨us,r1,t1,_⟩:=I.tuple (sqT_of h1)
 obtain ⟨ws,r2,t2,_⟩:=I.tuple (sqT_of h2)
 have l1:=r1.length
 have l2:=r2.length
 rw [List.length_map] at l1 l2
 refine SeqAt.RcNeAt.tuples (e:=fun j=>decide (cl[j]? = dl[j]?)) t1 t2 (by lia) (fun j h1 h2=>eq_int_items r1 r2 j h1 h2) _ _ _ _ ⟨.bl _,H,I,rfl,?_⟩
 rw [List.size_toArray,List.size_toArray,<-l1,<-l2,all_same]
 exact q
def qEqSL (neg:Bool):R2:=fun x y H Q=>∃a b,x=.ref a/\y=.ref b/\∃ps qs cl dl,H a=some (.lst (List.map V.ref ps))/\H b=some (.lst (List.map V.ref qs))/\SetsAt H ps cl/\SetsAt H qs dl/\Q (.bl (if neg then !decide (cl=dl) else decide (cl=dl))) H
end
end L2
end
section
namespace L2
open PySem PySem.Spec PyProof.Rows
section
variable {X:Cx} {pins:List (Addr×Obj)} {σ:St} {H:Hp} {s:Shared}
end
section
variable {X:Cx} {elt target iter:Expr} {ifs:List Expr} {scope:Scope} {pos:Pos} {cs xs:List Str} {idx:List Nat} {wi:TI} {g:CB->TG} {tt:CB->TT} {te:CB->TE}
end
section
variable {X:Cx} {N:List Str} {osc:Scope} {elt target iter:Expr} {ifs:List Expr} {scope:Scope} {pos:Pos} {wi:TI} {g:CB->TG} {tt:CB->TT} {te:CB->TE}
end
end L2
end
section
namespace L2
open PySem PySem.Spec PyProof.Rows
section
variable {prog:Program} {w:World} {A:Around} {E:Value->Shared->Prop} {s:Shared}
end
section
variable {X:Cx}
end
end L2
end
section
namespace L2
open PySem PySem.Spec PyProof.Rows
def Up (xs:Array Nat):Prop:=xs.toList.Pairwise (· < ·)
theorem Up.lt {xs:Array Nat} (u:Up xs) {i k:Nat} (h:i < k) (hk:k < xs.size):xs.getD i 0 < xs.getD k 0:=by
 have h1:i < xs.toList.length:=by rw [Array.length_toList];lia
 have h2:k < xs.toList.length:=by rw [Array.length_toList];lia
 have:=(List.pairwise_iff_getElem.mp u) i k h1 h2 h
 rw [Array.getElem_toList,Array.getElem_toList] at this
 rw [Array.getD_eq_getD_getElem?,Array.getD_eq_getD_getElem?,Array.getElem?_eq_getElem (by lia),Array.getElem?_eq_getElem hk]
 exact this
theorem getD_any {xs:Array Nat} {i j:Nat} (h:i < xs.size):xs.getD i j=xs.getD i 0:=by
 rw [Array.getD_eq_getD_getElem?,Array.getD_eq_getD_getElem?,Array.getElem?_eq_getElem h];rfl
theorem below_go {xs:Array Nat} {j:Nat} (u:Up xs):∀(f lo hi:Nat),hi - lo<=f->lo<=hi->hi<=xs.size->(∀i,i < lo->xs.getD i 0 < j)->(∀i,hi<=i->i < xs.size->j<=xs.getD i 0)->
  SetTable.below.go xs j f lo hi<=xs.size/\(∀i,i < SetTable.below.go xs j f lo hi->xs.getD i 0 < j)/\∀i,SetTable.below.go xs j f lo hi<=i->i < xs.size->j<=xs.getD i 0
 | 0,lo,hi,h0,h1,h2,a,b=>by
  have e:lo=hi:=by lia
  subst e
  exact ⟨h2,a,b⟩
 | f+1,lo,hi,h0,h1,h2,a,b=>by
  unfold SetTable.below.go
  by_cases c:lo < hi
  ·rw [if_pos c]
   dsimp only
   have hm:(lo+hi) / 2 < xs.size:=by lia
   rw [getD_any hm]
   by_cases d:xs.getD ((lo+hi) / 2) 0 < j
   ·rw [if_pos d]
    refine below_go u f _ _ (by lia) (by lia) h2 (fun i hi'=>?_) b
    by_cases e:i=(lo+hi) / 2
    ·rw [e];exact d
    ·have:=u.lt (i:=i) (k:=(lo+hi) / 2) (by lia) hm;lia
   ·rw [if_neg d]
    refine below_go u f _ _ (by lia) (by lia) (by lia) a fun i hi' hz=>?_
    by_cases e:i=(lo+hi) / 2
    ·rw [e];lia
    ·have:=u.lt (i:=(lo+hi) / 2) (k:=i) (by lia) hz;lia
  ·rw [if_neg c]
   have e:lo=hi:=by lia
   subst e
   exact ⟨h2,a,b⟩
theorem below_spec {xs:Array Nat} (u:Up xs) (j:Nat):SetTable.below xs j<=xs.size/\(∀i,i < SetTable.below xs j->xs.getD i 0 < j)/\∀i,SetTable.below xs j<=i->i < xs.size->j<=xs.getD i 0:=
 below_go u xs.size 0 xs.size (by lia) (Nat.zero_le _) (Nat.le_refl _) (fun i h=>absurd h (Nat.not_lt_zero _)) (fun i h1 h2=>absurd h2 (by lia))
def slotAtP (xs:Array Nat) (i:Nat):Nat:=if i=0 then 0 else xs.getD (i - 1) 0+1
theorem below_at {xs:Array Nat} (u:Up xs) {i:Nat} (hi:i<=xs.size):SetTable.below xs (slotAtP xs i)=i:=by
 obtain ⟨h0,h1,h2⟩:=below_spec u (slotAtP xs i)
 generalize SetTable.below xs (slotAtP xs i)=r at h0 h1 h2 ⊢
 unfold slotAtP at h1 h2
 rcases Nat.lt_trichotomy r i with h | h | h
 ·have:=h2 (i - 1) (by lia) (by lia)
  rw [if_neg (by lia)] at this
  lia
 ·exact h
 ·have:=h1 i h
  by_cases e:i=0
  ·rw [if_pos e] at this;lia
  ·rw [if_neg e] at this
   have:=u.lt (i:=i - 1) (k:=i) (by lia) (by lia)
   lia
theorem below_mem {xs:Array Nat} (u:Up xs) {j:Nat} (h:j∈xs.toList):xs[SetTable.below xs j]? = some j:=by
 obtain ⟨k,hk,e⟩:=List.getElem_of_mem h
 rw [Array.length_toList] at hk
 rw [Array.getElem_toList] at e
 have ek:xs.getD k 0=j:=by rw [Array.getD_eq_getD_getElem?,Array.getElem?_eq_getElem hk];exact e
 obtain ⟨h0,h1,h2⟩:=below_spec u j
 have:SetTable.below xs j=k:=by
  generalize SetTable.below xs j=r at h0 h1 h2 ⊢
  rcases Nat.lt_trichotomy r k with h | h | h
  ·have a:=h2 r (Nat.le_refl _) (by lia)
   have b:=u.lt (i:=r) (k:=k) h hk
   lia
  ·exact h
  ·have:=h1 k h;lia
 rw [this,Array.getElem?_eq_getElem hk,e]
theorem insertAt_list {α:Type} (xs:Array α) (p:Nat) (x:α):(SetTable.insertAt xs p x).toList=xs.toList.take p++x::xs.toList.drop p:=by
 unfold SetTable.insertAt
 simp [Array.toList_extract,List.extract]
 exact List.take_of_length_le (by simp)
theorem up_insert {xs:Array Nat} (u:Up xs) {j:Nat} (h:j∉xs.toList):Up (SetTable.insertAt xs (SetTable.below xs j) j):=by
 obtain ⟨h0,h1,h2⟩:=below_spec u j
 generalize SetTable.below xs j=r at h0 h1 h2 ⊢
 unfold Up
 rw [insertAt_list,List.pairwise_append]
 have lt:∀a∈xs.toList.take r,a < j:=fun a ha=>by
  obtain ⟨k,hk,e⟩:=List.getElem_of_mem ha
  rw [List.length_take,Array.length_toList] at hk
  rw [List.getElem_take,Array.getElem_toList] at e
  have:=h1 k (by lia)
  rw [Array.getD_eq_getD_getElem?,Array.getElem?_eq_getElem (by lia)] at this
  rw [<-e];exact this
 have gt:∀a∈xs.toList.drop r,j < a:=fun a ha=>by
  have hm:=List.mem_of_mem_drop ha
  obtain ⟨k,hk,e⟩:=List.getElem_of_mem ha
  rw [List.length_drop,Array.length_toList] at hk
  rw [List.getElem_drop,Array.getElem_toList] at e
  have:=h2 (r+k) (by lia) (by lia)
  rw [Array.getD_eq_getD_getElem?,Array.getElem?_eq_getElem (by lia)] at this
  have h3:j<=a:=by rw [<-e];exact this
  have h4:j≠a:=fun z=>h (by rw [z];exact hm)
  lia
 refine ⟨u.sublist (List.take_sublist _ _),List.pairwise_cons.mpr ⟨gt,u.sublist (List.drop_sublist _ _)⟩,fun a ha b hb=>?_⟩
 rcases List.mem_cons.mp hb with e | hb
 ·rw [e];exact lt a ha
 ·have:=lt a ha;have:=gt b hb;lia
theorem probe_free {t:SetTable} {hashAt:Nat->Int} {h:Int}:∀(f:Nat) (p:SetTable.Probe) (j:Nat) (d:Option Nat),(∀q,p.dummy=some q->t.slot q=.dummy)->SetTable.probe.go t hashAt h f p=some (.empty j d)->
  t.slot j=.empty/\∀q,d=some q->t.slot q=.dummy
 | 0,p,j,d,_,e=>by cases e
 | f+1,p,j,d,hd,e=>by
  unfold SetTable.probe.go at e
  have adv:∀p:SetTable.Probe,(t.advance p).dummy=p.dummy:=fun p=>by unfold SetTable.advance;split <;> rfl
  cases hs:t.slot p.j with
  | empty=>
   rw [hs] at e
   dsimp only at e
   cases e
   exact ⟨hs,hd⟩
  | dummy=>
   rw [hs] at e
   refine probe_free f _ j d (fun q hq=>?_) e
   rw [adv] at hq
   cases hq
   exact hs
  | live i=>
   rw [hs] at e
   dsimp only at e
   split at e
   ·cases e
   ·refine probe_free f _ j d (fun q hq=>?_) e
    rw [adv] at hq
    exact hd q hq
theorem free_notin {t:SetTable} (u:Up t.place) {h:Int} {j:Nat} {b:Bool} (e:t.freeSlot h=some (j,b)):j∉t.place.toList:=by
 unfold SetTable.freeSlot at e
 have key:∀q,t.slot q=.empty\/t.slot q=.dummy->q∉t.place.toList:=fun q hq hm=>by
  have z:=below_mem u hm
  have sl:t.slot q=.live (SetTable.below t.place q):=by
   unfold SetTable.slot
   dsimp only
   rw [z];simp
  rw [sl] at hq
  rcases hq with h | h <;> cases h
 cases hp:t.probe (fun _=>h+1) h (t.probeStart h) with
 | none=>rw [hp] at e;cases e
 | some m=>
  rw [hp] at e
  cases m with
  | candidate j i n=>cases e
  | empty j0 d=>
   obtain ⟨a,c⟩:=probe_free _ _ _ _ (fun q hq=>by cases hq) hp
   dsimp only at e
   cases d with
   | none=>cases e;exact key _ (.inl a)
   | some q=>cases e;exact key _ (.inr (c q rfl))
theorem up_range (n:Nat):Up (Array.range n):=by
 unfold Up
 rw [Array.toList_range]
 exact List.pairwise_lt_range
theorem lay_up {t:SetTable} (u:Up t.place) (es:Array (Int×Value)) (h:Int) (x:Value):Up (layNew t es h x).2.1.place:=by
 unfold layNew
 split
 ·rename_i slot wasD q
  dsimp only
  unfold SetTable.orStandIn
  split
  ·exact up_insert u (free_notin u q)
  ·exact up_range _
 ·exact up_range _
theorem laid_up {mask finger moves:Nat} {led plain:Bool} {hs:Array Int} {t':SetTable} {o:Array Nat} (h:SetTable.laid mask finger moves led plain hs=some (t',o)):Up t'.place:=by
 unfold SetTable.laid at h
 cases q:SetTable.layClean mask hs with
 | none=>rw [q] at h;cases h
 | some owner=>
  rw [q] at h
  cases h
  unfold Up
  rw [List.toList_toArray,List.pairwise_map,List.pairwise_filterMap]
  refine List.pairwise_lt_range.imp fun {a b} hab c hc d hd=>?_
  cases ha:owner.getD a none with
  | none=>rw [ha] at hc;cases hc
  | some k=>
   cases hb:owner.getD b none with
   | none=>rw [hb] at hd;cases hd
   | some k'=>
    rw [ha] at hc;rw [hb] at hd
    cases hc;cases hd
    exact hab
theorem relay_up {t:SetTable} (es:Array (Int×Value)) (k:Nat):Up (relayAll t es k).2.1.place:=by
 unfold relayAll
 split
 ·rename_i t' o q
  dsimp only
  split
  ·exact laid_up q
  ·exact up_range _
 ·exact up_range _
end L2
end
section
namespace L2
open PySem PySem.Spec PyProof.Rows
def entI (p:Int×Tok):Int×Value:=(hashInt p.1,.int p.1 p.2)
structure SetI (w:World) (h:Heap) (a:Addr) (l:List (Int×Tok)):Prop where
 ex:∃es ep t,h.get? a=some (sObj es ep t)/\es.toList=l.map (entI)/\t.fits es.size=true/\t.led = !byT w/\Up t.place
 nd:(l.map (·.1)).Nodup
 sz:l.length < scanBound
theorem SetI.at {w:World} {h h':Heap} {a:Addr} {l:List (Int×Tok)} (x:SetI w h a l) (k:∀o,h.get? a=some o->h'.get? a=some o):SetI w h' a l:=
 ⟨let ⟨es,ep,t,e,r⟩:=x.ex;⟨es,ep,t,k _ e,r⟩,x.nd,x.sz⟩
section
variable {P:Program} {w:World} {A:Around} {E:Value->Shared->Prop} {s:Shared} {a:Addr} {l:List (Int×Tok)}
theorem elems_ofI (l:List (Int×Tok)):ElemsOf (intKind P w) (l.map (entI)):=by
 intro e he
 obtain ⟨p,_,rfl⟩:=List.mem_map.mp he
 exact ⟨⟨p.1,intKind_is P w _ _,rfl⟩,rfl⟩
theorem find_entI (x:Int):∀l:List (Int×Tok),(∀j,(l.map (entI)).findIdx? (fun e=>(intKind P w).is x e.2)=some j->x∈l.map (·.1))/\((l.map (entI)).findIdx? (fun e=>(intKind P w).is x e.2)=none->x∉l.map (·.1)):=by
 intro l
 refine ⟨fun j h=>?_,fun h hm=>?_⟩
 ·obtain ⟨hj,hp,_⟩:=List.findIdx?_eq_some_iff_getElem.mp h
  rw [List.getElem_map] at hp
  rw [List.length_map] at hj
  have:(l[j]).1=x:=(intKind P w).inj _ _ _ (intKind_is P w _ _) hp
  exact List.mem_map.mpr ⟨l[j],List.getElem_mem hj,this⟩
 ·obtain ⟨p,hp,rfl⟩:=List.mem_map.mp hm
  have:=List.findIdx?_eq_none_iff.mp h (entI p) (List.mem_map_of_mem hp)
  rw [show (intKind P w).is p.1 (entI p).2=true from intKind_is P w _ _] at this
  cases this
theorem perm_entI {es':List (Int×Value)} {l:List (Int×Tok)} (p:es'.Perm (l.map (entI))):∃l':List (Int×Tok),es'=l'.map (entI)/\l'.Perm l:=by
 let back:Int×Value->Int×Tok:=fun e=>match e.2 with | .int x t=>(x,t) | _=>(default,0)
 have hb:∀q:Int×Tok,back (entI q)=q:=fun q=>rfl
 refine ⟨es'.map back,?_,?_⟩
 ·rw [List.map_map]
  conv=>lhs;rw [<-List.map_id es']
  refine List.map_congr_left fun e he=>?_
  obtain ⟨q,_,rfl⟩:=List.mem_map.mp (p.mem_iff.mp he)
  rfl
 ·have:=p.map back
  rw [List.map_map,show (back ∘ entI)=id from funext hb,List.map_id] at this
  exact this
theorem add_int {x:Int} {tk:Tok} {Q:Bool->Shared->Prop} (S:SetI w s.heap a l) (room:l.length+1 < scanBound)
  (q:∀h' l' b,Heap.SameBut a s.heap h'->SetI w h' a l'->(∀z,z∈l'.map (·.1)↔z∈l.map (·.1)\/z=x)->l'.length<=l.length+1->Q b { s with heap:=h' }) :
  wpAny (model P w) A (setAddHashed a (.int x tk) (hashInt x)) Q E s:=by
 obtain ⟨⟨es,ep,t,ho,hel,hf,hled,hpl⟩,nd,sz⟩:=S
 have hsz:es.size=l.length:=by rw [<-Array.length_toList,hel,List.length_map]
 have hE:ElemsOf (intKind P w) es.toList:=by rw [hel];exact elems_ofI l
 have hk:(intKind P w).is x (.int x tk)=true:=intKind_is P w _ _
 have hd:(sObj es ep t).data=.set es ep t:=rfl
 unfold setAddHashed setAddHashedIn
 refine wpAny_holding (wpAny_bind (wpAny_setState_of ho hd hf ?_))
 dsimp only
 rw [byScan_of (knd:=intKind P w) rfl (by rw [hsz];exact sz) hE]
 simp only [↓reduceIte]
 unfold setAddByScan
 refine wpAny_bind (wpAny_bind (wpAny_rule (wpAny_bind (wpAny_setScan_of (knd:=intKind P w) hk ho hd hf hE ?_))))
 have hfi:=find_entI (P:=P) (w:=w) x l
 rw [<-hel] at hfi
 cases hr:List.findIdx? (fun e=>(intKind P w).is x e.2) es.toList with
 | some j=>
  dsimp only
  have hm:=hfi.1 j hr
  refine wpAny_pure (wpAny_pure ?_)
  have e:s={ s with heap:=s.heap }:=by cases s;rfl
  rw [e]
  exact q s.heap l false (Heap.SameBut.refl a s.heap) ⟨⟨es,ep,t,ho,hel,hf,hled,hpl⟩,nd,sz⟩ (fun z=>⟨.inl,fun h=>h.elim id fun e=>e ▸ hm⟩) (Nat.le_succ _)
 | none=>
  have hm:=hfi.2 hr
  dsimp only
  have pp:=layNew_perm t es (hashInt x) (.int x tk)
  have pf:=layNew_fits t es (hashInt x) (.int x tk)
  have pl:=lay_led t es (hashInt x) (.int x tk)
  have pq:=lay_up hpl es (hashInt x) (.int x tk)
  generalize hL:layNew t es (hashInt x) (.int x tk)=L at pp pf pl pq ⊢
  obtain ⟨es1,t1,wasD,gave⟩:=L
  dsimp only at pp pf pl pq ⊢
  rw [Array.toList_push,hel] at pp
  obtain ⟨l1,e1,p1⟩:=perm_entI (l:=l++[(x,tk)]) (es':=es1.toList) (by rw [List.map_append];exact pp)
  have len1:l1.length=l.length+1:=by rw [p1.length_eq,List.length_append];rfl
  have nd1:(l1.map (·.1)).Nodup:=by
   rw [(p1.map (·.1)).nodup_iff,List.map_append,List.nodup_append]
   refine ⟨nd,by simp,fun u hu v hv=>?_⟩
   rw [List.map_cons,List.map_nil,List.mem_singleton] at hv
   rintro rfl
   rw [hv] at hu
   exact hm hu
  have mem1:∀z,z∈l1.map (·.1)↔z∈l.map (·.1)\/z=x:=fun z=>by
   rw [(p1.map (·.1)).mem_iff,List.map_append,List.mem_append];simp
  have hsz1:es1.size=l.length+1:=by rw [<-Array.length_toList,e1,List.length_map,len1]
  have gw:∀(b:Bool) {s₁:Shared} {Q':Unit->Shared->Prop},Q' () s₁->wpAny (model P w) A (match b with | true=>rule "set.scan.the-table-gave-way" | false=>pure ()) Q' E s₁:=
   fun b s₁ Q' hq=>by cases b <;> first | exact wpAny_pure hq | exact wpAny_rule hq
  refine wpAny_bind (gw _ ?_)
  have fin:∀t2:SetTable,t2.fits es1.size=true->t2.led=t.led->Up t2.place->
    wpAny (model P w) A (do
     storeSet a es1 t2
     if (!wasD && t2.tooFull)=true then do
      (match (relayAll t2 es1 (SetTable.grown es1.size)).2.2 with | true=>rule "set.scan.the-table-gave-way" | false=>pure ())
      storeSet a (relayAll t2 es1 (SetTable.grown es1.size)).1 (relayAll t2 es1 (SetTable.grown es1.size)).2.1
      pure (some true)
     else pure (some true)) (fun r s'=>∃b,r=some b/\Q b s') E s:=by
   intro t2 f2 l2 p2
   refine wpAny_bind (wpAny_storeSet_of ho hd ?_ (by rw [hsz1];exact fits_of_scanBound room))
   have g1:(s.heap.update a (Obj.putSet es1 t2)).get? a=some (sObj es1 (ep+1) t2):=by
    have:=Heap.get?_update_self (Obj.putSet es1 t2) ho (by rw [putSet_of es1 t2 hd];rfl)
    rw [putSet_of es1 t2 hd] at this;exact this
   have sb:=Heap.SameBut.update s.heap a (Obj.putSet es1 t2)
   split
   ·have rp:=relayAll_perm t2 es1 (SetTable.grown es1.size)
    have rf:=relayAll_fits t2 es1 (SetTable.grown es1.size)
    have rl:=relay_led t2 es1 (SetTable.grown es1.size)
    have rq:=relay_up (t:=t2) es1 (SetTable.grown es1.size)
    generalize hR:relayAll t2 es1 (SetTable.grown es1.size)=R at rp rf rl rq ⊢
    obtain ⟨es2,t3,gave2⟩:=R
    dsimp only at rp rf rl rq ⊢
    rw [e1] at rp
    obtain ⟨l2',e2,p2'⟩:=perm_entI rp
    have len2:l2'.length=l.length+1:=by rw [p2'.length_eq,len1]
    have hsz2:es2.size=l.length+1:=by rw [<-Array.length_toList,e2,List.length_map,len2]
    refine wpAny_bind (gw _ ?_)
    refine wpAny_bind (wpAny_storeSet_of g1 rfl ?_ (by rw [hsz2];exact fits_of_scanBound room))
    have g2:((s.heap.update a (Obj.putSet es1 t2)).update a (Obj.putSet es2 t3)).get? a=some (sObj es2 (ep+1+1) t3):=by
     have:=Heap.get?_update_self (Obj.putSet es2 t3) g1 (by rw [putSet_of es2 t3 (show (sObj es1 (ep+1) t2).data=_ from rfl)];rfl)
     rw [putSet_of es2 t3 (show (sObj es1 (ep+1) t2).data=_ from rfl)] at this;exact this
    refine wpAny_pure ⟨true,rfl,q _ l2' true (sb.trans (Heap.SameBut.update _ a _)) ⟨⟨es2,_,t3,g2,e2,rf,by rw [rl,l2,hled],rq⟩,by rw [(p2'.map (·.1)).nodup_iff];exact nd1,by lia⟩ (fun z=>by rw [(p2'.map (·.1)).mem_iff];exact mem1 z) (by lia)⟩
   ·exact wpAny_pure ⟨true,rfl,q _ l1 true sb ⟨⟨es1,_,t2,g1,e1,f2,by rw [l2,hled],p2⟩,nd1,by lia⟩ mem1 (by lia)⟩
  split
  ·rename_i hp1
   refine wpAny_bind ?_
   rw [hashByValue_scannable 8 (show (Value.int x tk).scannable=true from rfl)]
   refine wpAny_pure ?_
   rw [show (if plainKind (Value.int x tk)=true then t1 else { t1 with plain:=false })=t1 from rfl]
   refine wpAny_mono (fin t1 pf pl pq) (fun r s' h=>?_) fun _ _ h=>h
   obtain ⟨b,rfl,hq⟩:=h
   exact wpAny_pure hq
  ·rename_i hp1
   refine wpAny_bind (wpAny_pure ?_)
   simp only [↓reduceIte]
   refine wpAny_mono (fin t1 pf pl pq) (fun r s' h=>?_) fun _ _ h=>h
   obtain ⟨b,rfl,hq⟩:=h
   exact wpAny_pure hq
end
section
variable {P:Program} {w:World} {A:Around} {R:Result->Shared->Prop} {I:Addr} {fp wr:List Addr} {G:Array GenState->Array GenState->Prop} {n:Nat} {Pv:Nat->Value->Prop} {St:Nat->Shared->Prop}
theorem loop_int (W:WalksS P w A.in1 I fp wr G n Pv St) (S:Addr) (hSf:S∉fp) (val:Nat->Int) (hval:∀i v,Pv i v->∃t,v=.int (val i) t) (hb:n+1 < scanBound) :
  ∀(k i:Nat) (s:Shared) (l:List (Int×Tok)),n - i=k->i<=n->St i s->SetI w s.heap S l->l.length<=i->(∀z,z∈l.map (·.1)↔∃j,j < i/\val j=z)->
   (∀s' l',Moved (S::wr) G s s'->SetI w s'.heap S l'->(∀z,z∈l'.map (·.1)↔∃j,j < n/\val j=z)->R (.ok (.ret .none)) s')->
   codeAny (model P w) A (.builtin "set.update.loop" ⟨[.ref S,.ref I],[]⟩) R s:=by
 have nw:S∉wr:=fun z=>hSf (W.sub _ z)
 have up:∀b∈wr,b∈S::wr:=fun b z=>List.mem_cons_of_mem _ z
 intro k
 induction k with
 | zero=>
  intro i s l hk hi st hS hl hm r
  obtain rfl:i=n:=by lia
  refine codeAny_builtin F.entry_set_update_loop ?_
  rw [Around.under_plainId F.plain_set_update_loop _]
  refine wpAny_bind (m:=pyNext (.ref I)) (W.done s _ _ st fun s' mv=>?_)
  refine wpAny_pure (r s' l (mv.mono up) (hS.at fun o e=>mv.heap S o nw e) hm)
 | succ k ih=>
  intro i s l hk hi st hS hl hm r
  have lt:i < n:=by lia
  refine codeAny_builtin F.entry_set_update_loop ?_
  rw [Around.under_plainId F.plain_set_update_loop _]
  refine wpAny_bind (m:=pyNext (.ref I)) (W.item i s _ _ lt st fun v s' pv st' mv=>?_)
  obtain ⟨t,rfl⟩:=hval i v pv
  have hS':=hS.at (h':=s'.heap) fun o e=>mv.heap S o nw e
  refine wpAny_bind (m:=holding [Value.int (val i) t] (setAdd S (.int (val i) t))) (wpAny_holding ?_)
  unfold setAdd
  refine wpAny_holding (wpAny_bind ((intKind P w).pyHash (k:=val i) (intKind_is _ _ _ _) ?_))
  refine add_int (s:={ s' with toks:=s'.toks+1 }) hS' (by lia) fun h' l' b sb S2 m2 len2=>?_
  refine wpAny_pure ⟨plainId_quiet F.plain_set_update_loop _,ih (i+1) _ l' (by lia) lt (W.frame _ s' _ _ st' (Nat.le_succ _) fun c hc o e=>?_) S2 (by lia) (fun z=>?_) fun s2 l2 mv2 S3 m3=>?_⟩
  ·rw [sb.2 c (fun q:c=S=>hSf (by rw [<-q];exact hc))];exact e
  ·rw [m2 z,hm z]
   constructor
   ·rintro (⟨j,hj,e⟩ | e)
    ·exact ⟨j,by lia,e⟩
    ·exact ⟨i,by lia,e.symm⟩
   ·rintro ⟨j,hj,e⟩
    by_cases q:j=i
    ·subst q;exact .inr e.symm
    ·exact .inl ⟨j,by lia,e⟩
  ·refine r s2 l2 (Moved.trans W.gtrans ((mv.mono up).then_heap (Nat.le_succ _) fun c o hc e=>?_) mv2) S3 m3
   rw [sb.2 c (fun q:c=S=>hc (by rw [q];exact List.mem_cons_self))];exact e
end
theorem ints_atI:∀{vs:List Value} {ss:List Int},IntsAre vs ss->∀(i:Nat) (v:Value),vs[i]? = some v->∃t,v=.int (ss.getD i 0) t
 | _,_,.nil,i,v,h=>by cases i <;> cases h
 | _,_,.cons y t r,0,v,h=>by cases h;exact ⟨t,rfl⟩
 | _,_,.cons y t r,i+1,v,h=>by
  obtain ⟨u,e⟩:=ints_atI r i v (by simpa using h)
  exact ⟨u,by rw [e];rfl⟩
section
variable {P:Program} {w:World} {A:Around} {E:Value->Shared->Prop} {s:Shared}
theorem set_ints {l:Addr} {items:Array Value} {ss:List Int} {Q:Value->Shared->Prop} (hh:A.handled=none) (hl:s.heap.IsList l items) (hi:IntsAre items.toList ss) (hb:items.size+1 < scanBound)
  (h:∀(h':Heap) (tk:Nat) (ls:List (Int×Tok)),SetI w h' s.heap.objs.size ls->(∀z,z∈ls.map (·.1)↔z∈ss)->(∀b o,b < s.heap.objs.size->s.heap.get? b=some o->h'.get? b=some o)->Q (.ref s.heap.objs.size) { s with heap:=h',toks:=tk }) :
  wpAny (model P w) A (call (.type "set") [.ref l]) Q E s:=by
 have e:∀z:Int,(∃j,j < items.size/\ss.getD j 0=z)↔z∈ss:=fun z=>by
  have hlen:items.size=ss.length:=by rw [<-Array.length_toList];exact hi.length
  rw [hlen,List.mem_iff_getElem]
  constructor
  ·rintro ⟨j,hj,e⟩;exact ⟨j,hj,by rw [<-e];simp [hj]⟩
  ·rintro ⟨j,hj,e⟩;exact ⟨j,hj,by rw [<-e];simp [hj]⟩
 obtain ⟨c,tl,hmro⟩:=PySem.F.called_set.mro
 have hmade:=PySem.F.called_set.made
 have hsub:=PySem.F.called_set.sub
 refine wpAny_call (codeAny_of_tree (wpAny_pure (a:=_) ⟨Code.quiet_builtin _ (by decide +kernel),codeAny_builtin PySem.F.entry_type_call ?_⟩))
 rw [Around.under_plain (weight_type_call_type "set" [.ref l] []) rfl]
 have h1:=PySem.F.called_set.notType
 have h2:=PySem.F.called_set.canCreate
 have hct:=PySem.F.typeCall_set_1 (.ref l)
 repeat (any_goals (first | assumption | wp_step))
 refine codeAny_mono (set_new (x:=.ref l) (E:=E) (Q:=fun obj s₁=>obj=.ref s.heap.objs.size/\s₁={ s with heap:=s.heap.push (sObj #[] 0 (.fresh 0 0 (!byT w))) }) ⟨rfl,rfl⟩) fun r s₁ hr=>?_
 cases r with
 | error e=>exact hr
 | ok fl=>
  cases fl with
  | ret obj=>
   obtain ⟨rfl,rfl⟩:=hr
   have hS:(s.heap.push (sObj #[] 0 (.fresh 0 0 (!byT w)))).get? s.heap.objs.size=some (sObj #[] 0 (.fresh 0 0 (!byT w))):=Heap.get?_push_size _ rfl
   have hT:Shared.TypeIs { s with heap:=s.heap.push (sObj #[] 0 (.fresh 0 0 (!byT w))) } (.ref s.heap.objs.size) "set":=⟨_,hS,rfl⟩
   have hli:=PySem.F.called_set.init.lookup
   have hbi:=PySem.F.called_set.init.bind (.ref s.heap.objs.size)
   repeat (any_goals (first | assumption | wp_step))
   refine codeAny_mono (codeAny_call_builtin (R:=wants (fun r s₂=>r=.none/\∃h' tk ls,s₂={ s with heap:=h',toks:=tk }/\SetI w h' s.heap.objs.size ls/\(∀z,z∈ls.map (·.1)↔z∈ss)/\
     (∀b o,b < s.heap.objs.size->s.heap.get? b=some o->h'.get? b=some o)) E) PySem.F.called_set.init.plain PySem.F.entry_set_init (check_set_init_1 hT ?_)) fun r₂ s₂ hr₂=>?_
   ·obtain ⟨ol,hol,hcl,nl,hdl⟩:=hl
    obtain ⟨ocls,odict,odata,oslots⟩:=ol
    simp only at hcl hdl
    subst hcl;subst hdl
    have hol':(s.heap.push (sObj #[] 0 (.fresh 0 0 (!byT w)))).get? l=some { cls:=.type "list",dict:=odict,data:=.seq items nl,slots:=oslots }:=Heap.get?_push_of_some _ hol
    have hsls:=PySem.F.sub_list_set
    have hslf:=PySem.F.sub_list_frozenset
    have hne:(Value.type "list" == Value.type "dict")=false:=by decide
    have hl1:(s.heap.push (sObj #[] 0 (.fresh 0 0 (!byT w)))).IsList l items:=⟨_,hol',rfl,nl,rfl⟩
    unfold Builtin.«set.__init__» noKeywords Builtin.Frozenset.updateFrom
    unfold sObj at *
    generalize hPI:pyIter=PI
    wp_walk
    subst hPI
    refine wpAny_pyIter_list hl1 (wpAny_bind (wpAny_runValue ?_))
    have hlS:l < s.heap.objs.size:=Heap.lt_size hol
    have hh3:A.in1.in1.in1.handled=none:=by simp [hh]
    have hsz:(s.heap.push (sObj #[] 0 (.fresh 0 0 (!byT w)))).objs.size=s.heap.objs.size+1:=Heap.size_push _ _
    have hneI:l≠(s.heap.push (sObj #[] 0 (.fresh 0 0 (!byT w)))).objs.size:=by rw [hsz];exact Nat.ne_of_lt (Nat.lt_succ_of_lt hlS)
    have hSf:s.heap.objs.size∉[(s.heap.push (sObj #[] 0 (.fresh 0 0 (!byT w)))).objs.size,l]:=by
     rw [hsz];simp only [List.mem_cons,List.mem_singleton,List.not_mem_nil,or_false,not_or];exact ⟨Nat.ne_of_lt (Nat.lt_succ_self _),Nat.ne_of_gt hlS⟩
    refine loop_int ((Walks.list hh3 _ l hneI items).toS) s.heap.objs.size hSf (fun j=>ss.getD j 0) (fun i v hv=>?hv) hb (items.size - 0) 0 _ [] (by lia) (Nat.zero_le _)
     ⟨⟨_,Heap.get?_push_size _ rfl,rfl,rfl⟩,(hl1.push _)⟩ ?hS0 (Nat.zero_le _) (fun z=>⟨(fun z=>nomatch z),fun ⟨_,hj,_⟩=>absurd hj (Nat.not_lt_zero _)⟩) ?hR
    case hv=>exact ints_atI hi i v (by rw [Array.getElem?_toList];exact hv)
    case hS0=>exact ⟨⟨#[],0,_,Heap.get?_push_of_some _ hS,rfl,rfl,rfl,List.Pairwise.nil⟩,List.nodup_nil,by decide⟩
    case hR=>
     intro s' l' hm hS' mem
     obtain ⟨h',g',d',tk',os'⟩:=s'
     have eg:g'=s.gens:=hm.gens
     have ed:d'=s.drawn:=hm.drawn
     have eo:os'=s.os:=hm.os
     subst eg;subst ed;subst eo
     refine wpAny_pure (wpAny_pure ⟨rfl,h',tk',l',rfl,hS',fun z=>(mem z).trans (e z),fun b o hb e=>?_⟩)
     refine hm.heap b o ?_ (Heap.get?_push_of_some _ (Heap.get?_push_of_some _ e))
     rw [hsz]
     simp only [List.mem_cons,List.mem_singleton,List.not_mem_nil,or_false,not_or];exact ⟨Nat.ne_of_lt hb,Nat.ne_of_lt (Nat.lt_succ_of_lt hb)⟩
   ·cases r₂ with
    | error e=>exact hr₂
    | ok fl₂=>
     cases fl₂ with
     | ret r=>
      obtain ⟨rfl,h',tk,ls,rfl,hS',hm',hk'⟩:=hr₂
      repeat (any_goals (first | assumption | wp_step))
      exact h _ _ _ hS' hm' hk'
     | _=>exact hr₂.elim
  | _=>exact hr.elim
end
section
variable {P:Program} {w:World} {A:Around} {E:Value->Shared->Prop} {s:Shared} {a:Addr} {l:List (Int×Tok)}
theorem SetI.typeIs (S:SetI w s.heap a l):s.TypeIs (.ref a) "set":=let ⟨_,_,_,e,_⟩:=S.ex;⟨_,e,rfl⟩
def WalkOfI (P:Program) (w:World) (z:Nat) (a:Addr) (l:List (Int×Tok)) (I:Addr) (s':Shared):Prop:=
 ∃(ord:List Value) (fp:List Addr) (St:Nat->Shared->Prop),(∀B:Around,B.handled=none->WalksS P w B I fp [I] (fun x y=>y=x) l.length (fun i v=>ord[i]? = some v) St)/\St 0 s'/\
  (∀b∈fp,b < s'.heap.objs.size/\(b=a\/z<=b))/\I∈fp/\ord.Perm (l.map fun p=>Value.int p.1 p.2)
end
section
variable {P:Program} {w:World} {A:Around} {E:Value->Shared->Prop} {s:Shared} {a:Addr} {es:Array (Int×Value)} {t:SetTable} {ep slot i:Nat}
theorem next_plain {Q:Option (Value×Nat)->Shared->Prop} (hb:byT w=false) (hl:t.led=true) (d:(!t.plain && decide (es.size > 1))=false) (hS:s.heap.get? a=some (sObj es ep t)) (hf:t.fits es.size=true)
  (q:Q (match es[SetTable.below t.place slot]?,t.place[SetTable.below t.place slot]? with | some (_,x),some j=>some (x,j+1) | _,_=>none) s):wpAny (model P w) A (setNext a slot i ep) Q E s:=by
 unfold setNext
 refine wpAny_bind (wpAny_setState_of hS rfl hf (wpAny_bind (byText_ask ?_)))
 rw [hb]
 dsimp only
 rw [if_neg (by simp)]
 show wpAny _ _ (if (!t.plain && decide (es.size > 1))=true then _ else _) _ _ _
 rw [d,if_neg (by simp)]
 show wpAny _ _ ((if (!t.led && !es.isEmpty)=true then _ else _) >>= _) _ _ _
 rw [hl,Bool.not_true,Bool.false_and,if_neg (by simp)]
 exact wpAny_bind (wpAny_pure (wpAny_pure q))
end
section
variable {P:Program} {w:World} {A:Around} {E:Value->Shared->Prop} {s:Shared} {a:Addr} {l:List (Int×Tok)}
theorem set_iterI {Q:Value->Shared->Prop} (S:SetI w s.heap a l)
  (q:∀I s',s.heap.objs.size<=I->(∀b o,s.heap.get? b=some o->s'.heap.get? b=some o)->s'.gens=s.gens->s'.os=s.os->WalkOfI P w s.heap.objs.size a l I s'->Q (.ref I) s'):wpAny (model P w) A (pyIter (.ref a)) Q E s:=by
 obtain ⟨⟨es,ep,t,ho,hel,hf,hled,hpl⟩,nd,sz⟩:=id S
 have hsz:es.size=l.length:=by rw [<-Array.length_toList,hel,List.length_map]
 have hval:es.toList.map (·.2)=l.map fun p=>Value.int p.1 p.2:=by rw [hel,List.map_map];rfl
 have lt:a < s.heap.objs.size:=Heap.lt_size ho
 refine wpAny_pyIter_slot S.typeIs PySem.F.slot_set_iter (wpAny_call_entry PySem.F.slot_set_iter S.typeIs se_entry_iter ?_ (PySem.F.args_set_iter_1 _))
 unfold Builtin.«frozenset.__iter__»
 refine wpAny_bind (m:=Builtin.Frozenset.slot0 "__iter__" ⟨[.ref a],[]⟩) (wpAny_of_eq (a:=a) rfl ?_)
 unfold Builtin.Frozenset.sizeOf
 refine wpAny_bind (wpAny_bind (wpAny_setEntries_of ho rfl hf (wpAny_pure ?_)))
 unfold setDrawn
 refine wpAny_bind (wpAny_bind (wpAny_setState_of ho rfl hf (wpAny_bind (byText_ask (wpAny_pure ?_)))))
 have last:∀(first:Value) (s1:Shared),s1.heap.get? a=some (sObj es ep t)->(∀b o,s.heap.get? b=some o->s1.heap.get? b=some o)->s.heap.objs.size<=s1.heap.objs.size->s1.gens=s.gens->s1.os=s.os->
   (∀s',s'.heap.get? s1.heap.objs.size=some (siObj first 0 es.size ep a)->(∀b o,s1.heap.get? b=some o->s'.heap.get? b=some o)->WalkOfI P w s.heap.objs.size a l s1.heap.objs.size s')->
   wpAny (model P w) A.in1 (do let e <-setEpoch a;let v <-newFields "set_iterator" [first,rawInt 0,Value.ref a,rawInt es.size,rawInt e];ret v) (fun fin s'=>∃v,fin=Fin.done (Flow.ret v)/\∃T' r,s'.TypeIs v T'/\typeLookup (Value.type T') (Str.ofString "__next__")=pure (some r)/\Q v s') E s1:=by
  intro first s1 h1 k1 z1 g1 o1 hw
  refine wpAny_bind (wpAny_setEpoch_of h1 rfl hf ?_)
  unfold newFields
  refine wpAny_bind (wpAny_newObj_type ?_ (by size_fits))
  have hI:(s1.heap.push { cls:=.type "set_iterator",data:=.fields [first,rawInt 0,Value.ref a,rawInt es.size,rawInt ep].toArray }).get? s1.heap.objs.size=some (siObj first 0 es.size ep a):=Heap.get?_push_size _ rfl
  refine wpAny_pure ⟨_,rfl,"set_iterator",_,⟨_,hI,rfl⟩,si_slot_next.lookup,q _ _ z1 (fun b o e=>Heap.get?_push_of_some _ (k1 b o e)) g1 o1 (hw _ hI fun b o e=>Heap.get?_push_of_some _ e)⟩
 show wpAny _ _ (if (!byT w && (!t.plain && decide (es.size > 1)))=true then _ else _) _ _ _
 by_cases hd:(!byT w && (!t.plain && decide (es.size > 1)))=true
 ·rw [if_pos hd]
  refine wpAny_bind (draw_perm es.size (List.range es.size) _ _ (by simp) fun ys d hp=>?_)
  have hyl:ys.length=es.size:=by rw [hp.length_eq,List.length_range]
  refine wpAny_bind (wpAny_newTuple ?_ (by rw [List.length_map,hyl,hsz];exact fits_of_scanBound sz))
  refine last (.ref s.heap.objs.size) _ (Heap.get?_push_of_some _ ho) (fun b o e=>Heap.get?_push_of_some _ e) (by show _<=(Heap.push _ _).objs.size;rw [Heap.size_push];exact Nat.le_succ _) rfl rfl fun s' hI k=>?_
  have e1:(Heap.push s.heap { cls:=.type "tuple",data:=.seq (ys.map fun (i:Nat)=>rawInt i).toArray }).objs.size=s.heap.objs.size+1:=Heap.size_push _ _
  have hp':=k s.heap.objs.size _ (Heap.get?_push_size _ rfl)
  have ha':=k a _ (Heap.get?_push_of_some _ ho)
  have lts:∀j∈ys,j < es.size:=fun j hj=>List.mem_range.mp (hp.mem_iff.mp hj)
  refine ⟨ys.map fun j=>(es.toList.map (·.2)).getD j .none,_,_,fun C hC=>walks_tup (n:=l.length) (pl:=ys) (c:=0) (p:=s.heap.objs.size) (es:=es) (t:=t) (ep:=ep) (a:=a) hC (by rw [e1];exact Nat.ne_of_lt (Nat.lt_succ_of_lt lt)) (by rw [e1];exact Nat.ne_of_lt (Nat.lt_succ_self _)) hf hsz (by rw [List.length_map,hyl,hsz]) (by rw [hyl,hsz]) fun i hi=>?_,⟨by rw [<-hsz];exact hI,ha',hp'⟩,?_,by simp,?_⟩
  ·have hi':i < ys.length:=by rw [hyl,hsz];exact hi
   have hk:=lts ys[i] (List.getElem_mem hi')
   refine ⟨ys[i],es[ys[i]].1,es[ys[i]].2,List.getElem?_eq_getElem hi',Array.getElem?_eq_getElem hk,?_⟩
   rw [List.getElem?_map,List.getElem?_eq_getElem hi',Option.map_some,List.getD_eq_getElem?_getD,List.getElem?_map,Array.getElem?_toList,Array.getElem?_eq_getElem hk]
   rfl
  ·intro b hb
   simp only [List.mem_cons,List.not_mem_nil,or_false] at hb
   rcases hb with rfl | rfl | rfl
   ·exact ⟨Heap.lt_size hI,.inr (by rw [e1];exact Nat.le_succ _)⟩
   ·exact ⟨Heap.lt_size ha',.inl rfl⟩
   ·exact ⟨Heap.lt_size hp',.inr (Nat.le_refl _)⟩
  ·rw [<-hval]
   refine (hp.map _).trans ?_
   rw [show (List.range es.size).map (fun j=>(es.toList.map (·.2)).getD j .none)=es.toList.map (·.2) from ?_]
   refine List.ext_getElem? fun i=>?_
   by_cases hi:i < es.size
   ·simp [hi]
   ·simp [hi]
 ·rw [if_neg hd]
  refine wpAny_bind (wpAny_pure ?_)
  refine last (rawInt 0) s ho (fun _ _ e=>e) (Nat.le_refl _) rfl rfl fun s' hI k=>?_
  have ha':=k a _ ho
  have fpl:∀b∈[s.heap.objs.size,a],b < s'.heap.objs.size/\(b=a\/s.heap.objs.size<=b):=fun b hb=>by
   simp only [List.mem_cons,List.not_mem_nil,or_false] at hb
   rcases hb with rfl | rfl
   ·exact ⟨Heap.lt_size hI,.inr (Nat.le_refl _)⟩
   ·exact ⟨Heap.lt_size ha',.inl rfl⟩
  cases hb:byT w with
  | true=>
   refine ⟨(pickOrder (w.params.setOrder a ep) es).toList.map (·.2),_,_,fun C hC=>walks_int (n:=l.length) (es:=es) (t:=t) (ep:=ep) (a:=a) (fun _=>0) hC (Nat.ne_of_lt lt) hf hsz (by rw [List.length_map,(pick_perm _ es).length_eq,Array.length_toList,hsz]) fun i _ s1 C' E' Q' h1 hq=>?_,⟨by rw [<-hsz];exact hI,ha'⟩,fpl,by simp,?_⟩
   ·refine next_byText hb h1 hf ?_
    rw [List.getElem?_map,Array.getElem?_toList,Option.map_map] at hq
    exact hq
   ·rw [<-hval];exact (pick_perm _ es).map _
  | false=>
   have led:t.led=true:=by rw [hled,hb];rfl
   have hpz:t.place.size=es.size:=by
    unfold SetTable.fits at hf
    rw [Bool.and_eq_true] at hf
    exact eq_of_beq hf.1
   have dr:(!t.plain && decide (es.size > 1))=false:=by rw [hb] at hd;simpa using hd
   refine ⟨es.toList.map (·.2),_,_,fun C hC=>walks_int (n:=l.length) (es:=es) (t:=t) (ep:=ep) (a:=a) (slotAtP t.place) hC (Nat.ne_of_lt lt) hf hsz (by rw [List.length_map,Array.length_toList,hsz]) fun i hi s1 C' E' Q' h1 hq=>?_,⟨by rw [<-hsz];exact hI,ha'⟩,fpl,by simp,by rw [hval]⟩
   refine next_plain hb led dr h1 hf ?_
   rw [below_at hpl (by lia)]
   rw [List.getElem?_map,Array.getElem?_toList] at hq
   by_cases h2:i < es.size
   ·rw [Array.getElem?_eq_getElem h2] at hq ⊢
    rw [Array.getElem?_eq_getElem (show i < t.place.size by lia)]
    have e:slotAtP t.place (i+1)=t.place[i]'(by lia)+1:=by
     unfold slotAtP
     rw [if_neg (by lia),Nat.add_sub_cancel,Array.getD_eq_getD_getElem?,Array.getElem?_eq_getElem (show i < t.place.size by lia)]
     rfl
    rw [e] at hq
    exact hq
   ·rw [Array.getElem?_eq_none (by lia)] at hq ⊢
    exact hq
end
section
variable {P:Program} {w:World} {A:Around} {E:Value->Shared->Prop} {s:Shared} {a:Addr} {l:List (Int×Tok)}
theorem collect_setI {Q:List Value->Shared->Prop} (hh:A.handled=none) (S:SetI w s.heap a l)
  (q:∀(s':Shared) (vs:List Value),(∀b o,s.heap.get? b=some o->s'.heap.get? b=some o)->s.heap.objs.size<=s'.heap.objs.size->s'.gens=s.gens->s'.os=s.os->vs.Perm (l.map fun p=>Value.int p.1 p.2)->Q vs s'):wpAny (model P w) A (collect (.ref a)) Q E s:=by
 have lt:a < s.heap.objs.size:=let ⟨_,_,_,e,_⟩:=S.ex;Heap.lt_size e
 unfold collect
 refine wpAny_bind (wpAny_runValue (codeAny_builtin entry_proto_collect' ?_))
 rw [Around.under_plainId PySem.F.plain_proto_collect _]
 refine wpAny_bind (m:=newList []) (wpAny_newObj_type ?_)
 refine wpAny_pure ⟨plainId_quiet PySem.F.plain_list_iadd _,codeAny_builtin entry_list_iadd' ?_⟩
 rw [Around.under_plainId PySem.F.plain_list_iadd _]
 let L0:Obj:={ cls:=.type "list",data:=.seq ([]:List Value).toArray }
 have k0:∀b o,s.heap.get? b=some o->(s.heap.push L0).get? b=some o:=fun b o e=>Heap.get?_push_of_some _ e
 have hL:(s.heap.push L0).get? s.heap.objs.size=some L0:=Heap.get?_push_size _ rfl
 have S0:SetI w (s.heap.push L0) a l:=S.at fun o e=>k0 a o e
 show wpAny _ A.in1 (Builtin.List.listExtendWith (.ref s.heap.objs.size) (.ref a) (.ref s.heap.objs.size)) _ _ { s with heap:=s.heap.push L0 }
 unfold Builtin.List.listExtendWith
 refine wpAny_bind (wpAny_typeOf (T:="set") (SetI.typeIs (s:={ s with heap:=s.heap.push L0 }) S0) ?_)
 have h1:Builtin.List.listSameRef (.ref s.heap.objs.size) (.ref a)=false:=by simp [Builtin.List.listSameRef,Nat.ne_of_gt lt]
 have h2:(Value.type "set" == Value.type "list")=false:=by decide
 have h3:(Value.type "set" == Value.type "tuple")=false:=by decide
 simp only [h1,h2,h3,Bool.or_false,Bool.false_eq_true,if_false]
 refine wpAny_bind (set_iterI (s:={ s with heap:=s.heap.push L0 }) S0 fun I s1 zI k1 g1 o1 W=>?_)
 have S1:SetI w s1.heap a l:=S0.at fun o e=>k1 a o e
 have hL1:=k1 _ _ hL
 have hne:s.heap.objs.size≠I:=by
  have:(s.heap.push L0).objs.size<=I:=zI
  rw [Heap.size_push] at this
  exact Nat.ne_of_lt this
 refine wpAny_bind (wpAny_holding (set_hint (SetI.typeIs S1) ?_))
 obtain ⟨ord,fp,St,wk,st,fpl,mI,po⟩:=W
 have hlen:l.length<=sizeLine:=fits_of_scanBound S.sz
 have z1:(s.heap.push L0).objs.size=s.heap.objs.size+1:=Heap.size_push _ _
 have nf:s.heap.objs.size∉fp:=fun z=>by
  rcases (fpl _ z).2 with e | e
  ·exact absurd e (Nat.ne_of_gt lt)
  ·have e':(s.heap.push L0).objs.size<=s.heap.objs.size:=e
   rw [z1] at e'
   exact absurd e' (Nat.not_succ_le_self _)
 refine wpAny_ite_split (fun _=>?_) (fun z=>absurd (by decide +kernel) z)
 refine wpAny_bind (wpAny_rule (wpAny_bind ?_))
 show wpAny _ _ (updateSeq s.heap.objs.size (·.push .none) >>= fun _=>updateSeq s.heap.objs.size (·.pop)) _ _ _
 refine wpAny_bind (wpAny_updateSeq hL1 rfl ?_)
 have hL2:=Heap.get?_update_self (Obj.mapSeq (·.push Value.none)) hL1 rfl
 refine wpAny_updateSeq (hz:=by seq_fits) hL2 rfl ?_
 have hL3:=Heap.get?_update_self (Obj.mapSeq (·.pop)) hL2 rfl
 have oth:∀b o,b≠s.heap.objs.size->s1.heap.get? b=some o->((s1.heap.update s.heap.objs.size (Obj.mapSeq (·.push Value.none))).update s.heap.objs.size (Obj.mapSeq (·.pop))).get? b=some o:=
  fun b o hb e=>(Heap.get?_update_other _ _ (Ne.symm hb)).trans ((Heap.get?_update_other _ _ (Ne.symm hb)).trans e)
 have W1:=wk A.in1 hh
 refine wpAny_pure ⟨plainId_quiet PySem.F.plain_extend_loop _,codeAny_extend_loopS W1 hlen _ nf _ l.length 0 _ #[] _ rfl (Nat.zero_le _) (W1.frame 0 s1 _ s1.toks st (Nat.le_refl _) fun b hb o e=>oth b o (fun z=>nf (z ▸ hb)) e) hL3 (ItemsOf.nil _) fun s2 acc c2 mv hS2 hacc=>?_⟩
 refine wpAny_bind (m:=load s.heap.objs.size) (wpAny_load hS2 (wpAny_pure ?_))
 refine q s2 acc.toList (fun b o e=>mv.heap b o (fun hm=>?_) (oth b o (Nat.ne_of_lt (Heap.lt_size e)) (k1 b o (k0 b o e)))) (Nat.le_of_lt (Heap.lt_size hS2)) (mv.gens.trans g1) (mv.os.trans o1) ?_
 ·have hlt:b < s.heap.objs.size:=Heap.lt_size e
  rcases List.mem_cons.mp hm with e1 | e1
  ·exact absurd e1 (Nat.ne_of_lt hlt)
  ·rw [List.mem_singleton.mp e1] at hlt
   have:(s.heap.push L0).objs.size<=I:=zI
   rw [z1] at this
   exact absurd (Nat.lt_of_lt_of_le hlt (Nat.le_of_succ_le this)) (Nat.lt_irrefl _)
 ·have e:acc.toList=ord:=by
   refine List.ext_getElem? fun j=>?_
   by_cases hj:j < l.length
   ·have h0:j < acc.size:=by rw [hacc.1];exact hj
    have h1:acc[j]? = some acc[j]:=Array.getElem?_eq_getElem h0
    rw [Array.getElem?_toList,h1,hacc.2 j _ h1]
   ·rw [List.getElem?_eq_none (by rw [Array.length_toList,hacc.1];lia),List.getElem?_eq_none (by rw [po.length_eq,List.length_map];lia)]
  rw [e];exact po
theorem ints_backI {vs:List Value} {l:List (Int×Tok)} (po:vs.Perm (l.map fun p=>Value.int p.1 p.2)):∃ts,IntsAre vs ts/\ts.Perm (l.map (·.1)):=by
 have:∃l':List (Int×Tok),vs=l'.map (fun p:Int×Tok=>Value.int p.1 p.2)/\l'.Perm l:=by
  let back:Value->Int×Tok:=fun e=>match e with | .int x t=>(x,t) | _=>(default,0)
  refine ⟨vs.map back,?_,?_⟩
  ·rw [List.map_map]
   conv=>lhs;rw [<-List.map_id vs]
   refine List.map_congr_left fun e he=>?_
   obtain ⟨z,_,rfl⟩:=List.mem_map.mp (po.mem_iff.mp he)
   rfl
  ·have:=po.map back
   rw [List.map_map,show (back ∘ fun p:Int×Tok=>Value.int p.1 p.2)=id from rfl,List.map_id] at this
   exact this
 obtain ⟨l',rfl,pl⟩:=this
 refine ⟨l'.map (·.1),?_,pl.map _⟩
 clear po pl
 induction l' with
 | nil=>exact .nil
 | cons p l' ih=>exact .cons p.1 p.2 ih
theorem sorted_byI {x:Value} {us:List Int} {Q:Value->Shared->Prop} (h64:us.length < 64)
  (hc:∀(Q':List Value->Shared->Prop),(∀(s':Shared) (vs:List Value) (ts:List Int),(∀b o,s.heap.get? b=some o->s'.heap.get? b=some o)->s.heap.objs.size<=s'.heap.objs.size->s'.gens=s.gens->s'.os=s.os->IntsAre vs ts->ts.Perm us->Q' vs s')->wpAny (model P w) A.in1 (collect x) Q' E s)
  (q:∀(s':Shared) (D c:Nat) (vs:List Value) (ss:List Int),(∀b o,s.heap.get? b=some o->s'.heap.get? b=some o)->s.heap.objs.size<=D->s'.gens=s.gens->s'.os=s.os->s'.heap.get? D=some { cls:=.type "list",data:=.seq vs.toArray c }->IntsAre vs ss->
   ss.Perm us->ss.Pairwise (·<=·)->Q (.ref D) s'):wpAny (model P w) A (call (.builtin "sorted") [x]) Q E s:=by
 refine Calls.call_function_entry kind_sorted plain_sorted entry_sorted (args_sorted1 _) ?_
 unfold Builtin.«sorted»
 refine wpAny_bind (m:=checkCount "sorted" 1 1 _) (wpAny_pure ?_)
 refine wpAny_bind (hc _ fun s1 vs ts k1 old g1 o1 hts pts=>?_)
 have hl:vs.length=us.length:=by rw [hts.length,pts.length_eq]
 refine wpAny_bind (wpAny_newList ?_ (by rw [hl];exact small1000' (by lia)))
 have hoL:(s1.heap.push (seqObj "list" vs.toArray 0)).get? s1.heap.objs.size=some (seqObj "list" vs.toArray 0):=Heap.get?_push_size _ rfl
 refine wpAny_bind (wpAny_holding (wpAny_call_entry slot_list_sort ⟨_,hoL,rfl⟩ entry_list_sort (list_sort_tree hoL hts (by lia) fun out ss' e1 e2 e3=>⟨_,rfl,?_⟩) (args_list_sort _)))
 obtain ⟨c,hc⟩:=sortedHeap_at (out:=out) hoL
 refine wpAny_pure ⟨_,rfl,q _ s1.heap.objs.size c out.toList ss' (fun b o e=>?_) old g1 o1 (by rw [hc]) e1 (e2.trans pts) e3⟩
 have lt:=Heap.lt_size (k1 b o e)
 show (sortedHeap _ _ _ _).get? b=some o
 rw [sortedHeap_old (Nat.ne_of_lt lt) (by rw [size_push'];exact Nat.lt_succ_of_lt lt)]
 exact Heap.get?_push_of_some _ (k1 b o e)
end
def InS (w:World) (p:Addr) (ss:List Int):HO:=.ext fun h=>∃l,SetI w h p l/\∀z,z∈l.map (·.1)↔z∈ss
section
variable {X:Cx}
def rSortedSetI (w:World):List V->Hp->VK->Prop:=fun vs H Q=>∃a ss,vs=[.ref a]/\H a=some (InS w a ss)/\ss.length < 64/\
 ∀ss':List Int,(∀z,z∈ss'↔z∈ss)->ss'.Pairwise (· < ·)->∀p,H p=none->Q (.ref p) (upd H p (.lst (ss'.map V.int)))
theorem lt_of_both {l:List Int} (n:l.Nodup) (h:l.Pairwise (·<=·)):l.Pairwise (· < ·):=(List.Pairwise.and n h).imp fun ⟨a,b⟩=>by lia
theorem call_sortedSetI (hh:X.A.handled=none):CallR X (.builtin "sorted") (rSortedSetI X.w):=by
 intro pins s σ H vs us Q I rv h
 obtain ⟨a,ss,rfl,hq,hn,q⟩:=h
 obtain ⟨u,rfl,ru⟩:=vals1 rv
 cases ru
 obtain ⟨⟨l,hS,hm⟩,_,_⟩:=I.hok a _ hq
 have hl:(l.map (·.1)).length<=ss.length:=nodup_sub hS.nd fun x hx=>(hm x).mp hx
 refine sorted_byI (us:=l.map (·.1)) (by lia) (fun Q' hQ'=>collect_setI (A:=X.A.in1) hh hS fun s' vs k z g o po=>let ⟨ts,h1,h2⟩:=ints_backI po;hQ' s' vs ts k z g o h1 h2) fun s' D c vs ss' k z g o hD hvs pss srt=>?_
 have hn':H D=none:=I.hok.fresh z
 have I1:Inv X pins σ (upd H D (.lst (ss'.map V.int))) { s with heap:=s'.heap,toks:=s.toks }:=I.laid k z ⟨by rw [List.length_map,pss.length_eq];exact small1000' (by lia),vs,c,vals_ints hvs,hD⟩
 refine ⟨.ref D,_,I1.same rfl g o,rfl,q ss' (fun z=>(pss.mem_iff).trans (hm z)) (lt_of_both (pss.nodup_iff.mpr hS.nd) srt) _ hn'⟩
end
end L2
end
section
namespace L2
open PySem PySem.Spec PyProof.Rows
section
variable {X:Cx}
def qSetI (w:World):List V->Hp->VK->Prop:=fun vs H Q=>∃a,vs=[.ref a]/\∃ss:List Int,H a=some (.lst (ss.map V.int))/\ss.length < 4000/\∀p,H p=none->Q (.ref p) (upd H p (InS w p ss))
def qSortSetI (w:World):List V->Hp->VK->Prop:=fun vs H Q=>∃a,vs=[.ref a]/\∃ss:List Int,H a=some (InS w a ss)/\ss.length < 64/\
 ∀ss':List Int,(∀z,z∈ss'↔z∈ss)->ss'.Pairwise (· < ·)->∀p,H p=none->Q (.ref p) (upd H p (.lst (ss'.map V.int)))
theorem call_sortSetIQ (hh:X.A.handled=none):CallR X (.builtin "sorted") (qSortSetI X.w):=(call_sortedSetI hh).imp fun x H Q ⟨p,e,ss,h,n,q⟩=>⟨p,ss,e,h,n,q⟩
end
end L2
end
section
namespace HT
open PySem PyProof.Rows L2
section
variable {prog:Program} {w:World} {A:Around} {E:Value->Shared->Prop} {s:Shared}
theorem getItem_tuple_whole {t sl:Addr} {items:Array Value} {vl vu:Value} {lo hi:Option Int} {Q:Value->Shared->Prop} (ht:IsTup s.heap t items) (hs:s.heap.IsSliceOf sl vl vu .none) (pl:IsPart vl lo) (pu:IsPart vu hi)
  (h1:sIx items.size 0 lo=0) (h2:sIx items.size items.size hi=items.size) (h:Q (.ref t) s):wpAny (model prog w) A (getItem (.ref t) (.ref sl)) Q E s:=by
 obtain ⟨os,hos,hcs,hds⟩:=id hs
 have hTs:s.TypeIs (.ref sl) "slice":=⟨os,hos,hcs⟩
 unfold getItem
 try with_reducible refine wpAny_holding ?_
 first | refine wpAny_bind (wpAny_pure ?_) | skip
 refine wpAny_bind (wpAny_sequenceKey ht.typeIs (by decide) ?_)
 refine wpAny_bind (wpAny_callSpecial?_slot (name:=Str.ofString "__getitem__") ht.typeIs PyProof.Rows.slot_tuple_getitem
  (wpAny_call_entry PyProof.Rows.slot_tuple_getitem ht.typeIs entry_tuple_getitem ?_ (args_tuple_getitem _ _)))
 show wpAny _ _ (Builtin.Tuple.tupleItemsOf (.ref t) >>= _) _ _ s
 refine wpAny_bind (tupleItemsOf_ ht ?_)
 refine wpAny_bind (wpAny_typeOf hTs ?_)
 rw [if_pos (by decide)]
 refine wpAny_bind (sliceApplied_gen hs pl pu ?_)
 have hyes:(((sIx items.size 0 lo:Nat):Int) == 0 && (1:Int) == 1 && (sIx items.size items.size hi - sIx items.size 0 lo) == items.size)=true:=by
  rw [h1,h2];simp
 show wpAny _ _ (if (((sIx items.size 0 lo:Nat):Int) == 0 && (1:Int) == 1 && (sIx items.size items.size hi - sIx items.size 0 lo) == items.size)=true then _ else _) _ _ s
 rw [if_pos hyes]
 refine wpAny_bind (m:=Builtin.Tuple.tupleIsExact (.ref t)) ?_
 unfold Builtin.Tuple.tupleIsExact
 refine wpAny_bind (wpAny_typeOf ht.typeIs (wpAny_pure ?_))
 rw [if_pos (by decide)]
 exact wpAny_bind (wpAny_rule (wpAny_pure ⟨_,rfl,wpAny_pure h⟩))
end
end HT
namespace L2
open PySem PySem.Spec PyProof.Rows
section
variable {X:Cx}
def qSlT2:V->Option Int->Option Int->Hp->VK->Prop:=fun x lo hi H Q=>∃a,x=.ref a/\∃xs,H a=some (.tup xs)/\
 ((HT.sIx xs.length 0 lo=0/\HT.sIx xs.length xs.length hi=xs.length)->Q (.ref a) H)/\(¬(HT.sIx xs.length 0 lo=0/\HT.sIx xs.length xs.length hi=xs.length)->∀p,H p=none->Q (.ref p) (upd H p (.tup (cutV xs lo hi))))
theorem sl_t2:SlR X qSlT2:=by
 intro pins s σ H x v vl vu lo hi sl Q I rx hs pl pu h
 obtain ⟨a,rfl,xs,hx,q1,q2⟩:=h
 by_cases hw:HT.sIx xs.length 0 lo=0/\HT.sIx xs.length xs.length hi=xs.length
 ·cases rx
  obtain ⟨its,r,ht,hz⟩:=I.tuple (sqT_of hx)
  have hlen:its.toArray.size=xs.length:=by rw [List.size_toArray];exact r.length.symm
  refine ⟨"tuple",_,PyProof.Rows.slot_tuple_getitem.lookup,ht.typeIs,?_⟩
  exact HT.getItem_tuple_whole ht hs pl pu (by rw [hlen];exact hw.1) (by rw [hlen];exact hw.2) ⟨.ref a,H,I,rfl,q1 hw⟩
 ·exact sl_t pins s σ H _ v vl vu lo hi sl Q I rx hs pl pu ⟨a,rfl,xs,hx,hw,q2 hw⟩
end
end L2
end
section
namespace L2
open PySem PySem.Spec PyProof.Rows
section
variable {X:Cx} {pins:List (Addr×Obj)} {s:Shared} {σ:St} {H:Hp}
def qInS (neg:Bool):R2:=fun x y H Q=>∃a L,x=.ref a/\y=.ref L/\∃u bs ts,H a=some (.tup (List.map V.int u))/\H L=some (.lst (List.map V.ref bs))/\SetsAt H bs ts/\Q (.bl (if neg then !decide (u∈ts) else decide (u∈ts))) H
end
end L2
end
section
namespace L2
open PySem PySem.Spec PyProof.Rows
def RepL {δ:Type} (Rep:Hp->V->δ->Prop) (H:Hp) (vs:List V) (ds:List δ):Prop:=vs.length=ds.length/\∀(i:Nat) v d,vs[i]? = some v->ds[i]? = some d->Rep H v d
theorem RepL.nil {δ:Type} {Rep:Hp->V->δ->Prop} {H:Hp}:RepL Rep H [] []:=⟨rfl,fun i v d h=>by simp at h⟩
theorem RepL.snoc {δ:Type} {Rep:Hp->V->δ->Prop} {H:Hp} {vs:List V} {ds:List δ} {v:V} {d:δ} (h:RepL Rep H vs ds) (hv:Rep H v d):RepL Rep H (vs++[v]) (ds++[d]):=by
 refine ⟨by rw [List.length_append,List.length_append,h.1];rfl,fun i u e hu he=>?_⟩
 have hl:=h.1
 by_cases hi:i < vs.length
 ·rw [List.getElem?_append_left hi] at hu
  rw [List.getElem?_append_left (by lia)] at he
  exact h.2 i u e hu he
 ·rw [List.getElem?_append_right (by lia)] at hu
  rw [List.getElem?_append_right (by lia),<-hl] at he
  have h0:i - vs.length=0:=by
   cases z:i - vs.length with
   | zero=>rfl
   | succ n=>rw [z] at hu;simp at hu
  rw [h0] at hu he
  cases hu;cases he
  exact hv
theorem RepL.mono {δ:Type} {Rep:Hp->V->δ->Prop} {H H':Hp} {vs:List V} {ds:List δ} (k:∀v d,Rep H v d->Rep H' v d) (h:RepL Rep H vs ds):RepL Rep H' vs ds:=⟨h.1,fun i v d a b=>k v d (h.2 i v d a b)⟩
theorem take_fm {δ:Type} (f:Nat->Option δ) (i:Nat):(List.range (i+1)).filterMap f=(List.range i).filterMap f++(f i).toList:=by
 rw [List.range_succ,List.filterMap_append]
 cases e:f i <;> simp [e]
theorem fm_len {δ:Type} (f:Nat->Option δ) (i:Nat):((List.range i).filterMap f).length<=i:=Nat.le_trans (List.length_filterMap_le _ _) (by rw [List.length_range];exact Nat.le_refl _)
theorem compG_list {K:PySem.W.Frag} {a:Addr} {zs:List V} {idx:List Nat} {tt:CB->TT} {te:CB->TE} {σ:St} {Q:VK} {H1:Hp} {δ:Type} (S:Hp->Hp->Prop) (f:Nat->Option δ) (Rep:Addr->Hp->V->δ->Prop) (sr:S H1 H1) (st:∀H H',S H1 H->S H H'->S H1 H')
  (sp:∀D H o,H1 D=none->S H1 H->S H1 (upd H D o)) (sk:∀D H H' o,H1 D=none->S H1 H->S H H'->H D=some o->H' D=some o)
  (mono:∀D H H' v d,S H1 H->S H H'->Rep D H v d->Rep D H' v d) (mput:∀D H o v d,H1 D=none->S H1 H->(∃xs,H D=some (.lst xs))->Rep D H v d->Rep D (upd H D o) v d)
  (hL:∀H,S H1 H->H a=some (.lst zs)) (l9:zs.length<=900000)
  (hs:∀(D:Addr) (c:CB) (H:Hp) (i:Nat) (z:V) (yes:V->Hp->Prop) (no:Hp->Prop),zs[i]? = some z->S H1 H->H1 D=none->(∃xs,H D=some (.lst xs))->(∀d,f i=some d->∀v H',S H H'->Rep D H' v d->yes v H')->(f i=none->∀H',S H H'->no H')->tt c (some (z)::subS σ idx) H fun b H4=>if b=true then te c (some (z)::subS σ idx) H4 yes else no H4)
  (q:∀D H' vs,S H1 H'->H1 D=none->H' D=some (.lst vs)->RepL (Rep D) H' vs ((List.range (zs.length)).filterMap f)->Q (.ref D) H'):CompAll (Itl K a) 1 idx (fun _=>gName 0) tt te σ Q H1:=by
 obtain ⟨Pc,hPc⟩:∃Pc:Addr->Nat->List V->Hp->Prop,∀Z i ys H',Pc Z i ys H'↔S H1 H'/\H' Z=some (.lst ys)/\RepL (Rep Z) H' ys ((List.range i).filterMap f):=⟨_,fun _ _ _ _=>Iff.rfl⟩
 refine compAll_list Pc (fun Z hZ=>(hPc _ _ _ _).mpr ⟨sp Z _ _ hZ sr,upd_same,.nil⟩) (fun Z hZ i ys H' _ pv=>hL H' ((hPc _ _ _ _).mp pv).1) (fun Z hZ i z ys H' hz pv cb=>?_) (fun Z hZ ys H' pv=>?_)
 ·obtain ⟨s1,hZ1,rl⟩:=(hPc _ _ _ _).mp pv
  have hi:i < zs.length:=(List.getElem?_eq_some_iff.mp hz).1
  refine hs Z cb H' i z _ _ hz s1 hZ ⟨_,hZ1⟩ (fun d hd v H2 s2 hv=>?_) (fun hn H2 s2=>?_)
  ·refine ⟨sk Z _ _ _ hZ s1 s2 hZ1,?_,(hPc _ _ _ _).mpr ⟨sp Z _ _ hZ (st _ _ s1 s2),upd_same,?_⟩⟩
   ·rw [rl.1]
    have:=fm_len f i
    exact Nat.lt_of_le_of_lt (by lia:((List.range i).filterMap f).length<=1000000) (by decide)
   ·rw [take_fm,hd]
    exact (((rl.mono fun v d=>mono Z _ _ v d s1 s2)).snoc hv).mono fun v d=>mput Z H2 _ v d hZ (st _ _ s1 s2) ⟨_,sk Z _ _ _ hZ s1 s2 hZ1⟩
  ·refine (hPc _ _ _ _).mpr ⟨st _ _ s1 s2,sk Z _ _ _ hZ s1 s2 hZ1,?_⟩
   rw [take_fm,hn,Option.toList_none,List.append_nil]
   exact rl.mono fun v d=>mono Z _ _ v d s1 s2
 ·obtain ⟨s1,hZ1,rl⟩:=(hPc _ _ _ _).mp pv
  exact q Z H' ys s1 hZ hZ1 rl
theorem compG_tup {K:PySem.W.Frag} {a:Addr} {zs:List V} {idx:List Nat} {tt:CB->TT} {te:CB->TE} {σ:St} {Q:VK} {H1:Hp} {δ:Type} (S:Hp->Hp->Prop) (f:Nat->Option δ) (Rep:Addr->Hp->V->δ->Prop) (sr:S H1 H1) (st:∀H H',S H1 H->S H H'->S H1 H')
  (sp:∀D H o,H1 D=none->S H1 H->S H1 (upd H D o)) (sk:∀D H H' o,H1 D=none->S H1 H->S H H'->H D=some o->H' D=some o)
  (mono:∀D H H' v d,S H1 H->S H H'->Rep D H v d->Rep D H' v d) (mput:∀D H o v d,H1 D=none->S H1 H->(∃xs,H D=some (.lst xs))->Rep D H v d->Rep D (upd H D o) v d)
  (hL:∀H,S H1 H->H a=some (.tup zs)) (l9:zs.length<=900000)
  (hs:∀(D:Addr) (c:CB) (H:Hp) (i:Nat) (z:V) (yes:V->Hp->Prop) (no:Hp->Prop),zs[i]? = some z->S H1 H->H1 D=none->(∃xs,H D=some (.lst xs))->(∀d,f i=some d->∀v H',S H H'->Rep D H' v d->yes v H')->(f i=none->∀H',S H H'->no H')->tt c (some (z)::subS σ idx) H fun b H4=>if b=true then te c (some (z)::subS σ idx) H4 yes else no H4)
  (q:∀D H' vs,S H1 H'->H1 D=none->H' D=some (.lst vs)->RepL (Rep D) H' vs ((List.range (zs.length)).filterMap f)->Q (.ref D) H'):CompAll (Itt K a) 1 idx (fun _=>gName 0) tt te σ Q H1:=by
 obtain ⟨Pc,hPc⟩:∃Pc:Addr->Nat->List V->Hp->Prop,∀Z i ys H',Pc Z i ys H'↔S H1 H'/\H' Z=some (.lst ys)/\RepL (Rep Z) H' ys ((List.range i).filterMap f):=⟨_,fun _ _ _ _=>Iff.rfl⟩
 refine compAll_tup Pc (fun Z hZ=>(hPc _ _ _ _).mpr ⟨sp Z _ _ hZ sr,upd_same,.nil⟩) (fun Z hZ i ys H' _ pv=>hL H' ((hPc _ _ _ _).mp pv).1) (fun Z hZ i z ys H' hz pv cb=>?_) (fun Z hZ ys H' pv=>?_)
 ·obtain ⟨s1,hZ1,rl⟩:=(hPc _ _ _ _).mp pv
  have hi:i < zs.length:=(List.getElem?_eq_some_iff.mp hz).1
  refine hs Z cb H' i z _ _ hz s1 hZ ⟨_,hZ1⟩ (fun d hd v H2 s2 hv=>?_) (fun hn H2 s2=>?_)
  ·refine ⟨sk Z _ _ _ hZ s1 s2 hZ1,?_,(hPc _ _ _ _).mpr ⟨sp Z _ _ hZ (st _ _ s1 s2),upd_same,?_⟩⟩
   ·rw [rl.1]
    have:=fm_len f i
    exact Nat.lt_of_le_of_lt (by lia:((List.range i).filterMap f).length<=1000000) (by decide)
   ·rw [take_fm,hd]
    exact (((rl.mono fun v d=>mono Z _ _ v d s1 s2)).snoc hv).mono fun v d=>mput Z H2 _ v d hZ (st _ _ s1 s2) ⟨_,sk Z _ _ _ hZ s1 s2 hZ1⟩
  ·refine (hPc _ _ _ _).mpr ⟨st _ _ s1 s2,sk Z _ _ _ hZ s1 s2 hZ1,?_⟩
   rw [take_fm,hn,Option.toList_none,List.append_nil]
   exact rl.mono fun v d=>mono Z _ _ v d s1 s2
 ·obtain ⟨s1,hZ1,rl⟩:=(hPc _ _ _ _).mp pv
  exact q Z H' ys s1 hZ hZ1 rl
theorem compS_list {K:PySem.W.Frag} {a:Addr} {zs:List V} {idx:List Nat} {tt:CB->TT} {te:CB->TE} {σ:St} {Q:VK} {H1:Hp} {δ:Type} (f:Nat->Option δ) (Rep:Addr->Hp->V->δ->Prop) (mono:∀D H H' v d,Same H H'->Rep D H v d->Rep D H' v d) (mput:∀D H o v d,(∃xs,H D=some (.lst xs))->H1 D=none->Rep D H v d->Rep D (upd H D o) v d)
  (hL:H1 a=some (.lst zs)) (l9:zs.length<=900000)
  (hs:∀(D:Addr) (c:CB) (H:Hp) (i:Nat) (z:V) (yes:V->Hp->Prop) (no:Hp->Prop),zs[i]? = some z->Same H1 H->H1 D=none->(∃xs,H D=some (.lst xs))->(∀d,f i=some d->∀v H',Same H H'->Rep D H' v d->yes v H')->(f i=none->∀H',Same H H'->no H')->tt c (some (z)::subS σ idx) H fun b H4=>if b=true then te c (some (z)::subS σ idx) H4 yes else no H4)
  (q:∀D H' vs,Same H1 H'->H1 D=none->H' D=some (.lst vs)->RepL (Rep D) H' vs ((List.range (zs.length)).filterMap f)->Q (.ref D) H'):CompAll (Itl K a) 1 idx (fun _=>gName 0) tt te σ Q H1:=
 compG_list Same f Rep (fun _ _ e=>e) (fun _ _ a b=>a.trans b) (fun D H o hD s b u e=>by rw [upd_ne (ne_of_none e hD)];exact s b u e) (fun D H H' o _ _ s e=>s D o e) (fun D H H' v d _ s r=>mono D H H' v d s r) (fun D H o v d hD _ hl r=>mput D H o v d hl hD r) (fun H s=>s _ _ hL) l9 hs q
theorem compS_tup {K:PySem.W.Frag} {a:Addr} {zs:List V} {idx:List Nat} {tt:CB->TT} {te:CB->TE} {σ:St} {Q:VK} {H1:Hp} {δ:Type} (f:Nat->Option δ) (Rep:Addr->Hp->V->δ->Prop) (mono:∀D H H' v d,Same H H'->Rep D H v d->Rep D H' v d) (mput:∀D H o v d,(∃xs,H D=some (.lst xs))->H1 D=none->Rep D H v d->Rep D (upd H D o) v d)
  (hL:H1 a=some (.tup zs)) (l9:zs.length<=900000)
  (hs:∀(D:Addr) (c:CB) (H:Hp) (i:Nat) (z:V) (yes:V->Hp->Prop) (no:Hp->Prop),zs[i]? = some z->Same H1 H->H1 D=none->(∃xs,H D=some (.lst xs))->(∀d,f i=some d->∀v H',Same H H'->Rep D H' v d->yes v H')->(f i=none->∀H',Same H H'->no H')->tt c (some (z)::subS σ idx) H fun b H4=>if b=true then te c (some (z)::subS σ idx) H4 yes else no H4)
  (q:∀D H' vs,Same H1 H'->H1 D=none->H' D=some (.lst vs)->RepL (Rep D) H' vs ((List.range (zs.length)).filterMap f)->Q (.ref D) H'):CompAll (Itt K a) 1 idx (fun _=>gName 0) tt te σ Q H1:=
 compG_tup Same f Rep (fun _ _ e=>e) (fun _ _ a b=>a.trans b) (fun D H o hD s b u e=>by rw [upd_ne (ne_of_none e hD)];exact s b u e) (fun D H H' o _ _ s e=>s D o e) (fun D H H' v d _ s r=>mono D H H' v d s r) (fun D H o v d hD _ hl r=>mput D H o v d hl hD r) (fun H s=>s _ _ hL) l9 hs q
def RVal (H:Hp) (v d:V):Prop:=v=d
theorem vals_is {H:Hp} {vs ds:List V} (h:RepL RVal H vs ds):vs=ds:=List.ext_getElem? fun i=>by
 by_cases hi:i < vs.length
 ·have hj:i < ds.length:=by have:=h.1;lia
  rw [List.getElem?_eq_getElem hi,List.getElem?_eq_getElem hj]
  exact congrArg some (h.2 i _ _ (List.getElem?_eq_getElem hi) (List.getElem?_eq_getElem hj))
 ·rw [List.getElem?_eq_none (by lia),List.getElem?_eq_none (by have:=h.1;lia)]
theorem fm_some {δ:Type} {f:Nat->Option δ} {l:List δ} (h:∀i,i < l.length->f i=l[i]?):(List.range l.length).filterMap f=l:=by
 have:∀n,n<=l.length->(List.range n).filterMap f=l.take n:=fun n=>by
  induction n with
  | zero=>intro _;rfl
  | succ n ih=>
   intro hn
   rw [take_fm,ih (by lia),h n (by lia),List.take_add_one]
 rw [this _ (Nat.le_refl _),List.take_length]
theorem fm_filter {δ:Type} {l:List δ} {p:δ->Bool} {f:Nat->Option δ} (h:∀i (hi:i < l.length),f i=if p l[i] then some l[i] else none):(List.range l.length).filterMap f=l.filter p:=by
 have:∀n,n<=l.length->(List.range n).filterMap f=(l.take n).filter p:=fun n=>by
  induction n with
  | zero=>intro _;rfl
  | succ n ih=>
   intro hn
   rw [take_fm,ih (by lia),h n (by lia),List.take_add_one,List.filter_append,List.getElem?_eq_getElem (by lia)]
   cases e:p l[n] <;> simp [e]
 rw [this _ (Nat.le_refl _),List.take_length]
theorem fm_map {α δ:Type} {l:List α} {g:α->δ} {f:Nat->Option δ} (h:∀i (hi:i < l.length),f i=some (g l[i])):(List.range l.length).filterMap f=l.map g:=by
 have:=fm_some (f:=f) (l:=l.map g) fun i hi=>by
  rw [List.length_map] at hi
  rw [h i hi,List.getElem?_map,List.getElem?_eq_getElem hi];rfl
 rwa [List.length_map] at this
end L2
end
section
namespace L2
open PySem
theorem SetsAt.mono {H H':Hp} {bs:List Addr} {ts:List (List Int)} (k:∀b xs,H b=some (.tup xs)->H' b=some (.tup xs)) (s:SetsAt H bs ts):SetsAt H' bs ts:=⟨s.1,fun i b t hb ht=>k _ _ (s.2 i b t hb ht)⟩
theorem SetsAt.app {H:Hp} {bs cs:List Addr} {ts us:List (List Int)} (s:SetsAt H bs ts) (u:SetsAt H cs us):SetsAt H (bs++cs) (ts++us):=by
 refine ⟨by rw [List.length_append,List.length_append,s.1,u.1],fun i c x hc hx=>?_⟩
 by_cases hi:i < bs.length
 ·rw [List.getElem?_append_left hi] at hc
  rw [List.getElem?_append_left (by rw [<-s.1];exact hi)] at hx
  exact s.2 i c x hc hx
 ·rw [List.getElem?_append_right (by lia)] at hc
  rw [List.getElem?_append_right (by rw [<-s.1];lia),<-s.1] at hx
  exact u.2 _ c x hc hx
theorem kit_same (K:PySem.W.Frag) (T:String):PySem.W.kitOne K (.type T) (.type T)=some true:=by
 unfold PySem.W.kitOne
 rw [if_pos (by simp)]
theorem kit_no {K:PySem.W.Frag} {A B:String} (h:(Value.type A == Value.type B)=false) (e:PySem.W.kitCls K (.type A) (.type B)=some false):PySem.W.kitOne K (.type A) (.type B)=some false:=by
 unfold PySem.W.kitOne
 rw [if_neg (by rw [h];exact Bool.false_ne_true)]
 exact e
end L2
end
section
namespace L2
open PySem PySem.Spec PyProof.Rows
section
variable {P:Program} {w:World} {A:Around} {E:Value->Shared->Prop} {s:Shared}
theorem set_intsT {l:Addr} {items:Array Value} {ss:List Int} {Q:Value->Shared->Prop} (hh:A.handled=none) (hl:s.heap.IsTuple l items) (hi:IntsAre items.toList ss) (hb:items.size+1 < scanBound)
  (h:∀(h':Heap) (tk:Nat) (ls:List (Int×Tok)),SetI w h' s.heap.objs.size ls->(∀z,z∈ls.map (·.1)↔z∈ss)->(∀b o,b < s.heap.objs.size->s.heap.get? b=some o->h'.get? b=some o)->Q (.ref s.heap.objs.size) { s with heap:=h',toks:=tk }) :
  wpAny (model P w) A (call (.type "set") [.ref l]) Q E s:=by
 have e:∀z:Int,(∃j,j < items.size/\ss.getD j 0=z)↔z∈ss:=fun z=>by
  have hlen:items.size=ss.length:=by rw [<-Array.length_toList];exact hi.length
  rw [hlen,List.mem_iff_getElem]
  constructor
  ·rintro ⟨j,hj,e⟩;exact ⟨j,hj,by rw [<-e];simp [hj]⟩
  ·rintro ⟨j,hj,e⟩;exact ⟨j,hj,by rw [<-e];simp [hj]⟩
 obtain ⟨c,tl,hmro⟩:=PySem.F.called_set.mro
 have hmade:=PySem.F.called_set.made
 have hsub:=PySem.F.called_set.sub
 refine wpAny_call (codeAny_of_tree (wpAny_pure (a:=_) ⟨Code.quiet_builtin _ (by decide +kernel),codeAny_builtin PySem.F.entry_type_call ?_⟩))
 rw [Around.under_plain (weight_type_call_type "set" [.ref l] []) rfl]
 have h1:=PySem.F.called_set.notType
 have h2:=PySem.F.called_set.canCreate
 have hct:=PySem.F.typeCall_set_1 (.ref l)
 repeat (any_goals (first | assumption | wp_step))
 refine codeAny_mono (set_new (x:=.ref l) (E:=E) (Q:=fun obj s₁=>obj=.ref s.heap.objs.size/\s₁={ s with heap:=s.heap.push (sObj #[] 0 (.fresh 0 0 (!byT w))) }) ⟨rfl,rfl⟩) fun r s₁ hr=>?_
 cases r with
 | error e=>exact hr
 | ok fl=>
  cases fl with
  | ret obj=>
   obtain ⟨rfl,rfl⟩:=hr
   have hS:(s.heap.push (sObj #[] 0 (.fresh 0 0 (!byT w)))).get? s.heap.objs.size=some (sObj #[] 0 (.fresh 0 0 (!byT w))):=Heap.get?_push_size _ rfl
   have hT:Shared.TypeIs { s with heap:=s.heap.push (sObj #[] 0 (.fresh 0 0 (!byT w))) } (.ref s.heap.objs.size) "set":=⟨_,hS,rfl⟩
   have hli:=PySem.F.called_set.init.lookup
   have hbi:=PySem.F.called_set.init.bind (.ref s.heap.objs.size)
   repeat (any_goals (first | assumption | wp_step))
   refine codeAny_mono (codeAny_call_builtin (R:=wants (fun r s₂=>r=.none/\∃h' tk ls,s₂={ s with heap:=h',toks:=tk }/\SetI w h' s.heap.objs.size ls/\(∀z,z∈ls.map (·.1)↔z∈ss)/\
     (∀b o,b < s.heap.objs.size->s.heap.get? b=some o->h'.get? b=some o)) E) PySem.F.called_set.init.plain PySem.F.entry_set_init (check_set_init_1 hT ?_)) fun r₂ s₂ hr₂=>?_
   ·obtain ⟨ol,hol,hcl,nl,hdl⟩:=hl
    obtain ⟨ocls,odict,odata,oslots⟩:=ol
    simp only at hcl hdl
    subst hcl;subst hdl
    have hol':(s.heap.push (sObj #[] 0 (.fresh 0 0 (!byT w)))).get? l=some { cls:=.type "tuple",dict:=odict,data:=.seq items nl,slots:=oslots }:=Heap.get?_push_of_some _ hol
    have hsls:=PySem.F.sub_tuple_set
    have hslf:=PySem.F.sub_tuple_frozenset
    have hne:(Value.type "tuple" == Value.type "dict")=false:=by decide
    have hl1:(s.heap.push (sObj #[] 0 (.fresh 0 0 (!byT w)))).IsTuple l items:=⟨_,hol',rfl,nl,rfl⟩
    unfold Builtin.«set.__init__» noKeywords Builtin.Frozenset.updateFrom
    unfold sObj at *
    generalize hPI:pyIter=PI
    wp_walk
    subst hPI
    refine wpAny_pyIter_tuple hl1 (wpAny_bind (wpAny_runValue ?_))
    have hlS:l < s.heap.objs.size:=Heap.lt_size hol
    have hh3:A.in1.in1.in1.handled=none:=by simp [hh]
    have hsz:(s.heap.push (sObj #[] 0 (.fresh 0 0 (!byT w)))).objs.size=s.heap.objs.size+1:=Heap.size_push _ _
    have hneI:l≠(s.heap.push (sObj #[] 0 (.fresh 0 0 (!byT w)))).objs.size:=by rw [hsz];exact Nat.ne_of_lt (Nat.lt_succ_of_lt hlS)
    have hSf:s.heap.objs.size∉[(s.heap.push (sObj #[] 0 (.fresh 0 0 (!byT w)))).objs.size,l]:=by
     rw [hsz];simp only [List.mem_cons,List.mem_singleton,List.not_mem_nil,or_false,not_or];exact ⟨Nat.ne_of_lt (Nat.lt_succ_self _),Nat.ne_of_gt hlS⟩
    refine loop_int ((Walks.tuple hh3 _ l hneI items).toS) s.heap.objs.size hSf (fun j=>ss.getD j 0) (fun i v hv=>?hv) hb (items.size - 0) 0 _ [] (by lia) (Nat.zero_le _)
     ⟨⟨_,Heap.get?_push_size _ rfl,rfl,rfl⟩,(hl1.push _)⟩ ?hS0 (Nat.zero_le _) (fun z=>⟨(fun z=>nomatch z),fun ⟨_,hj,_⟩=>absurd hj (Nat.not_lt_zero _)⟩) ?hR
    case hv=>exact ints_atI hi i v (by rw [Array.getElem?_toList];exact hv)
    case hS0=>exact ⟨⟨#[],0,_,Heap.get?_push_of_some _ hS,rfl,rfl,rfl,List.Pairwise.nil⟩,List.nodup_nil,by decide⟩
    case hR=>
     intro s' l' hm hS' mem
     obtain ⟨h',g',d',tk',os'⟩:=s'
     have eg:g'=s.gens:=hm.gens
     have ed:d'=s.drawn:=hm.drawn
     have eo:os'=s.os:=hm.os
     subst eg;subst ed;subst eo
     refine wpAny_pure (wpAny_pure ⟨rfl,h',tk',l',rfl,hS',fun z=>(mem z).trans (e z),fun b o hb e=>?_⟩)
     refine hm.heap b o ?_ (Heap.get?_push_of_some _ (Heap.get?_push_of_some _ e))
     rw [hsz]
     simp only [List.mem_cons,List.mem_singleton,List.not_mem_nil,or_false,not_or];exact ⟨Nat.ne_of_lt hb,Nat.ne_of_lt (Nat.lt_succ_of_lt hb)⟩
   ·cases r₂ with
    | error e=>exact hr₂
    | ok fl₂=>
     cases fl₂ with
     | ret r=>
      obtain ⟨rfl,h',tk,ls,rfl,hS',hm',hk'⟩:=hr₂
      repeat (any_goals (first | assumption | wp_step))
      exact h _ _ _ hS' hm' hk'
     | _=>exact hr₂.elim
  | _=>exact hr.elim
end
section
variable {X:Cx}
def qSetIT (w:World):List V->Hp->VK->Prop:=fun vs H Q=>∃a,vs=[.ref a]/\∃ss:List Int,H a=some (.tup (ss.map V.int))/\ss.length < 4000/\∀p,H p=none->Q (.ref p) (upd H p (InS w p ss))
theorem call_setIT (hh:X.A.handled=none):CallR X (.type "set") (qSetIT X.w):=by
 intro pins s σ H vs us Q I rv h
 obtain ⟨a,rfl,ss,hq,hn,q⟩:=h
 obtain ⟨u,rfl,ru⟩:=vals1 rv
 cases ru
 obtain ⟨its,r,pl,hz⟩:=I.tuple (sqT_of hq)
 have hl:=r.length
 rw [List.length_map] at hl
 refine set_intsT (ss:=ss) hh pl (intsAre_of r) (by show its.toArray.size+1 < 4096;rw [List.size_toArray];lia) fun h' tk ls hS hm hk=>?_
 have hk':∀b o,s.heap.get? b=some o->h'.get? b=some o:=fun b o e=>hk b o (Heap.lt_size e) e
 refine ⟨.ref s.heap.objs.size,_,I.laid (t':=tk) (o:=InS X.w s.heap.objs.size ss) hk' (Nat.le_refl _) ?_,rfl,q _ I.fresh⟩
 exact ⟨⟨ls,hS,hm⟩,(let ⟨_,_,_,e,_⟩:=hS.ex;⟨_,e⟩),fun h1 h2 ⟨l1,x1,m1⟩ k=>⟨l1,x1.at k,m1⟩⟩
end
end L2
end
section
namespace L2
open PySem PySem.Spec PyProof.Rows
section
variable {P:Program} {w:World} {κ:Type} [DecidableEq κ] {knd:PySem.KeyKind P w κ} {A:Around} {E:Value->Shared->Prop} {s:Shared} {a b:Addr} {kvs kvs2:List (κ×Value)}
end
section
variable {X:Cx}
def qEqDS (neg:Bool):R2:=fun x y H Q=>∃a b,x=.ref a/\y=.ref b/\∃kvs kvs2,H a=some (.dK kvs)/\H b=some (.dK kvs2)/\kvs.length=kvs2.length/\
 (∀k v,(k,v)∈kvs->∃p q t,v=.ref p/\(k,V.ref q)∈kvs2/\H p=some (.tup (List.map V.int t))/\H q=some (.tup (List.map V.int t)))/\Q (.bl (!neg)) H
end
end L2
end
section
namespace L2
open PySem PySem.Spec PyProof.Rows
section
variable {X:Cx} {pins:List (Addr×Obj)} {σ:St} {H:Hp} {s:Shared} {d:Addr} {o:Obj} {kvs:List (Key×V)}
end
def Itd (d:Addr) (o:Obj) (kvs:List (Key×V)):It:=
 ⟨fun i H=>i < kvs.length/\H d=some (.frz o (.dK kvs)),fun i H x H'=>H'=H/\∃k v,kvs[i]? = some (k,v)/\x=kV k,fun i H=>kvs.length<=i/\H d=some (.frz o (.dK kvs))⟩
section
variable {X:Cx} {tg:Expr}
def iDict (te:TE):TI:=fun σ H R=>te σ H fun v H1=>∃a kvs,v=.ref a/\H1 a=some (.dK kvs)/\∀o,R (Itd a o kvs) (upd H1 a (.frz o (.dK kvs)))
def tThaw (H0:Hp) (t:TS):TS:=fun D σ H=>∃d o kvs,H d=some (.frz o (.dK kvs))/\H0 d=none/\t D σ (upd H d (.dK kvs))
end
end L2
end
section
namespace L2
open PySem PySem.Spec PyProof.Rows
section
variable {X:Cx}
def rGetDI:V->List V->Hp->VK->Prop:=fun x vs H Q=>∃a n d,x=.ref a/\vs=[.int n,d]/\∃kvs,H a=some (.dK kvs)/\Q ((valV kvs (Sum.inl n)).getD d) H
def rExtendT:V->List V->Hp->VK->Prop:=fun x vs H Q=>∃l b xs zs,x=.ref l/\vs=[.ref b]/\H l=some (.lst xs)/\H b=some (.tup zs)/\xs.length+zs.length<=sizeLine/\Q .non (upd H l (.lst (xs++zs)))
end
section
variable {X:Cx} {N:List Str} {sc:Scope} {pos:Pos}
end
section
variable {X:Cx}
end
end L2
end
section
namespace L2
open PySem
theorem same_put' {H H1:Hp} {p:Addr} {o:HO} (a:Same H H1) (hn:H p=none):Same H (upd H1 p o):=fun b u e=>by rw [upd_ne (ne_of_none e hn)];exact a b u e
theorem ref_at {qs:List Addr} {i:Nat} {x:V} (h:(List.map V.ref qs)[i]? = some x):∃q,qs[i]? = some q/\x=.ref q:=by
 rw [List.getElem?_map] at h
 cases e:qs[i]? with
 | none=>rw [e] at h;cases h
 | some q=>rw [e] at h;exact ⟨q,rfl,(Option.some.inj h).symm⟩
theorem same_new {H:Hp} {p:Addr} (h:H p=none) (o:HO):Same H (upd H p o):=fun b u q=>by rw [upd_ne (ne_of_none q h)];exact q
def isPart (x y:List Int):Bool:=x.all fun m=>decide (m∈y)
theorem inV_ints (m:Int) (y:List Int):inV (.int m) (List.map V.int y)=decide (m∈y):=by
 unfold inV
 rw [List.any_map,Bool.eq_iff_iff,List.any_eq_true,decide_eq_true_eq]
 constructor
 ·rintro ⟨z,hz,e⟩
  have:z=m:=by simpa [eqV] using e
  rw [<-this];exact hz
 ·intro h
  exact ⟨m,h,by simp [eqV]⟩
theorem flat_ints (y:List Int):(List.map V.int y).all flatV=true:=by
 rw [List.all_map,List.all_eq_true]
 intro _ _
 rfl
theorem int_at {ns:List Int} {i:Nat} {x:V} (h:(List.map V.int ns)[i]? = some x):∃n,ns[i]? = some n/\x=.int n:=by
 rw [List.getElem?_map] at h
 cases e:ns[i]? with
 | none=>rw [e] at h;cases h
 | some q=>rw [e] at h;exact ⟨q,rfl,(Option.some.inj h).symm⟩
def hv (l:Addr) (a b c d e:Int):HO:=.lst [.ref l,.int a,.int b,.int c,.int d,.int e]
def HdO (l:Addr) (o:HO):Prop:=∃a b c d e,o=hv l a b c d e/\0<=a
def spNext:Sp:=fun vs H Q _=>∃h,vs=[.ref h]/\∃l a b c d e,H h=some (hv l a b c d e)/\Q (.int (d * 48271 % 2147483647+e * 40693 % 2147483399)) (upd H h (hv l a b c (d * 48271 % 2147483647) (e * 40693 % 2147483399)))
def spTake:Sp:=fun vs H Q _=>∃h,vs=[.ref h]/\∃l ns o,H h=some o/\HdO l o/\H l=some (.lst (List.map V.int ns))/\∀o',HdO l o'->Q .non (upd H h o')
def spDraw:Sp:=fun vs H Q _=>∃h m,vs=[.ref h,.int m]/\1<=m/\m < 2 ^ 300/\∃l ns o,H h=some o/\HdO l o/\H l=some (.lst (List.map V.int ns))/\∀r o',0<=r->r < m->HdO l o'->Q (.int r) (upd H h o')
def Hd (H:Hp) (h l:Addr):Prop:=∃ns o,H h=some o/\HdO l o/\H l=some (.lst (List.map V.int ns))
def HandAt (H:Hp) (h:Addr):Prop:=∃l,Hd H h l
structure Dr (h:Addr) (H H':Hp):Prop where
 keep:∀b o,b≠h->H b=some o->H' b=some o
 hand:∀l,Hd H h l->Hd H' h l
theorem Dr.refl {h:Addr} {H:Hp}:Dr h H H:=⟨fun _ _ _ e=>e,fun _ x=>x⟩
theorem Dr.trans {h:Addr} {H H1 H2:Hp} (a:Dr h H H1) (b:Dr h H1 H2):Dr h H H2:=⟨fun c o hc e=>b.keep c o hc (a.keep c o hc e),fun l x=>b.hand l (a.hand l x)⟩
theorem Dr.handAt {h:Addr} {H H1:Hp} (a:Dr h H H1) (x:HandAt H h):HandAt H1 h:=let ⟨l,y⟩:=x;⟨l,a.hand l y⟩
theorem Hd.apart {H:Hp} {h l:Addr} (x:Hd H h l):l≠h:=by
 obtain ⟨ns,o,e1,⟨a,b,c,d,e,rfl,_⟩,e3⟩:=x
 intro z
 rw [z,e1] at e3
 have q:=Option.some.inj e3
 unfold hv at q
 injection q with q
 match ns,q with
 | [],q=>cases q
 | n::_,q=>injection q with q1 _;cases q1
theorem Dr.new {h p:Addr} {H H1:Hp} {o:HO} (a:Dr h H H1) (hp:H1 p=none):Dr h H (upd H1 p o):=by
 refine ⟨fun c o' hc e=>?_,fun l x=>?_⟩
 ·rw [upd_ne (ne_of_none (a.keep c o' hc e) hp)];exact a.keep c o' hc e
 ·obtain ⟨ns,oh,e1,e2,e3⟩:=a.hand l x
  exact ⟨ns,oh,by rw [upd_ne (ne_of_none e1 hp)];exact e1,e2,by rw [upd_ne (ne_of_none e3 hp)];exact e3⟩
theorem Dr.put {h p:Addr} {H H1:Hp} {o':HO} (a:Dr h H H1) (hn:H p=none):Dr h H (upd H1 p o'):=by
 refine ⟨fun c o' hc e=>?_,fun l x=>?_⟩
 ·rw [upd_ne (ne_of_none e hn)];exact a.keep c o' hc e
 ·obtain ⟨ns,oh,e1,e2,e3⟩:=a.hand l x
  obtain ⟨_,_,f1,_,f3⟩:=x
  exact ⟨ns,oh,by rw [upd_ne (ne_of_none f1 hn)];exact e1,e2,by rw [upd_ne (ne_of_none f3 hn)];exact e3⟩
theorem HandAt.ne {h p:Addr} {H:Hp} (x:HandAt H h) (hp:H p=none):p≠h:=by
 obtain ⟨l,ns,oh,e1,_,_⟩:=x
 exact (ne_of_none e1 hp).symm
theorem Dr.free {h p:Addr} {H H1:Hp} (a:Dr h H H1) (x:HandAt H h) (hp:H1 p=none):H p=none:=by
 cases e:H p with
 | none=>rfl
 | some o=>
  have n:=(a.handAt x).ne hp
  have:=a.keep p o n e
  rw [hp] at this;cases this
theorem draw_by {h:Addr} {m:Int} {H0 H:Hp} {Q:VK} {E:XK} (hd:HandAt H0 h) (d:Dr h H0 H) (h1:1<=m) (h2:m < 2 ^ 300) (q:∀r H',0<=r->r < m->Dr h H0 H'->(∀b,b≠h->H' b=H b)->Q (.int r) H'):spDraw [.ref h,.int m] H Q E:=by
 obtain ⟨l,x⟩:=hd
 have x':=d.hand l x
 have ap:=x'.apart
 obtain ⟨ns,oh,e1,e2,e3⟩:=x'
 refine ⟨h,m,rfl,h1,h2,l,ns,oh,e1,e2,e3,fun r o' r0 r1 ho=>q r _ r0 r1 ⟨fun c o hc e=>?_,fun l' x'=>?_⟩ (fun b hb=>upd_ne hb)⟩
 ·rw [upd_ne hc];exact d.keep c o hc e
 ·have y:=d.hand l' x'
  have ap':=y.apart
  obtain ⟨ns',oh',f1,f2,f3⟩:=y
  have el:l'=l:=by
   obtain ⟨a,b,c,d,e,rfl,_⟩:=e2
   obtain ⟨a',b',c',d',e',rfl,_⟩:=f2
   rw [e1] at f1
   have:=Option.some.inj f1
   unfold hv at this
   injection this with this
   injection this with this _
   exact (V.ref.inj this).symm
  subst el
  exact ⟨ns,o',upd_same,ho,by rw [upd_ne ap];exact e3⟩
theorem cutV_map {α:Type} (f:α->V) (xs:List α) (lo hi:Option Int):cutV (xs.map f) lo hi=((xs.drop (HT.sIx xs.length 0 lo)).take (HT.sIx xs.length xs.length hi - HT.sIx xs.length 0 lo)).map f:=by
 unfold cutV;rw [List.length_map,List.map_take,List.map_drop]
def spHand (K:PySem.W.Frag):Sp:=fun vs H Q _=>∃a ns,vs=[.ref a]/\SqL K H a (List.map V.int ns)/\∀h H',Same H H'->H h=none->HandAt H' h->Q (.ref h) H'
def Rise (x:List Int):Prop:=x.Pairwise (· < ·)
theorem isPart_iff {x y:List Int}:isPart x y=true↔∀m∈x,m∈y:=by
 unfold isPart
 rw [List.all_eq_true]
 exact ⟨fun h m hm=>of_decide_eq_true (h m hm),fun h m hm=>decide_eq_true (h m hm)⟩
theorem rise_eq:∀{x y:List Int},Rise x->Rise y->(∀m,m∈x↔m∈y)->x=y
 | [],[],_,_,_=>rfl
 | [],b::y,_,_,h=>absurd ((h b).mpr List.mem_cons_self) (by simp)
 | a::x,[],_,_,h=>absurd ((h a).mp List.mem_cons_self) (by simp)
 | a::x,b::y,hx,hy,h=>by
  have hx':=List.pairwise_cons.mp hx
  have hy':=List.pairwise_cons.mp hy
  have hab:a=b:=by
   rcases List.mem_cons.mp ((h a).mp List.mem_cons_self) with e | e
   ·exact e
   ·rcases List.mem_cons.mp ((h b).mpr List.mem_cons_self) with e' | e'
    ·exact e'.symm
    ·have:=hy'.1 a e
     have:=hx'.1 b e'
     lia
  subst hab
  rw [rise_eq hx'.2 hy'.2 fun m=>⟨fun hm=>?_,fun hm=>?_⟩]
  ·rcases List.mem_cons.mp ((h m).mp (List.mem_cons_of_mem _ hm)) with e | e
   ·have:=hx'.1 m hm;lia
   ·exact e
  ·rcases List.mem_cons.mp ((h m).mpr (List.mem_cons_of_mem _ hm)) with e | e
   ·have:=hy'.1 m hm;lia
   ·exact e
def restF (x y:List Int):List Int:=x.filter fun m=>decide (m∉y)
def spRest:Sp:=fun vs H Q _=>∃a b,vs=[.ref a,.ref b]/\∃x y:List Int,H a=some (.tup (List.map V.int x))/\H b=some (.tup (List.map V.int y))/\x.length<=900/\∀p H',Same H H'->H p=none->H' p=some (.tup (List.map V.int (restF x y)))->Q (.ref p) H'
def spWhole:Sp:=fun vs H Q _=>∃i:Int,vs=[.int i]/\Q (.bl true) H
def spIsSet:Sp:=fun vs H Q _=>∃a,vs=[.ref a]/\∃x:List Int,H a=some (.tup (List.map V.int x))/\x.length<=900/\Rise x/\∀H',Same H H'->Q (.bl true) H'
theorem all_true:∀(n:Nat),(List.replicate n true).all id=true
 | 0=>rfl
 | n+1=>by rw [List.replicate_succ,List.all_cons,all_true n];rfl
theorem four_at {a b c d r:Int} (h0:0<=r) (h1:r < 4):∃v,atI [V.int a,V.int b,V.int c,V.int d] r=some (.int v)/\(v=a\/v=b\/v=c\/v=d):=by
 have:r=0\/r=1\/r=2\/r=3:=by lia
 rcases this with e | e | e | e <;> subst e
 ·exact ⟨a,atI_0 ..,by simp⟩
 ·exact ⟨b,atI_1 ..,by simp⟩
 ·exact ⟨c,atI_2 ..,by simp⟩
 ·exact ⟨d,atI_3 ..,by simp⟩
theorem Dr.on {h:Addr} {H H1 H2:Hp} (a:Dr h H H1) (s:Same H1 H2):Dr h H H2:=⟨fun c o hc e=>s _ _ (a.keep c o hc e),fun l x=>by
 obtain ⟨ns,oh,e1,e2,e3⟩:=a.hand l x
 exact ⟨ns,oh,s _ _ e1,e2,s _ _ e3⟩⟩
theorem HandAt.ntup {h b:Addr} {H:Hp} {xs:List V} (x:HandAt H h) (e:H b=some (.tup xs)):b≠h:=by
 obtain ⟨l,ns,o,e1,⟨_,_,_,_,_,rfl,_⟩,_⟩:=x
 exact ne_of e e1 (by intro z;cases z)
theorem Dr.sets {h:Addr} {H H':Hp} {bs:List Addr} {ts:List (List Int)} (hd:HandAt H h) (d:Dr h H H') (s:SetsAt H bs ts):SetsAt H' bs ts:=s.mono fun b xs e=>d.keep _ _ (hd.ntup e) e
end L2
end
section
namespace L2
open PySem
abbrev cut (n:Int) (s:List Int):List Int:=s.filter fun m=>decide (m≠n)
end L2
end
section
namespace L2
open PySem
end L2
end
section
namespace L2
open PySem
end L2
end
section
namespace L2
structure Nx (P R:St->Hp->Prop):Prop where
 to:∀σ H,P σ H->R σ H
theorem seq_op {t u:TS} {D:Ends} {σ:St} {H:Hp} (h:∀R:St->Hp->Prop,Nx (u D) R->t { D with nx:=R } σ H):tSeq t u D σ H:=h (u D) ⟨fun _ _ z=>z⟩
end L2
end
section
namespace L2
open PySem PySem.Spec PyProof.Rows
section
variable {X:Cx} {o e value:Expr} {f:Str} {pos pos':Pos} {ta tv:TE}
end
section
variable {X:Cx} {CX:CXT} {k:Nat} {f C:Addr} {fd:FuncData} {ps:List Str} {sp:Sp} {dvs:List V} {ds:List Value} {E:XK} {x m:Str} {p pos apos:Pos} {e o:Expr} {es:List Expr} {ta:TE} {t:TA}
end
end L2
end
section
namespace L2
open PySem PySem.Spec PyProof.Rows
def FamsAt (H:Hp) (ps:List Addr) (fs:List (List (List Int))):Prop:=ps.length=fs.length/\∀(i:Nat) p f,ps[i]? = some p->fs[i]? = some f->∃bs,H p=some (.lst (List.map V.ref bs))/\SetsAt H bs f
section
variable {X:Cx} {pins:List (Addr×Obj)} {s:Shared} {σ:St} {H:Hp} {A:Around}
def qEqFL (neg:Bool):R2:=fun x y H Q=>∃a b,x=.ref a/\y=.ref b/\∃ps qs cl dl,H a=some (.lst (List.map V.ref ps))/\H b=some (.lst (List.map V.ref qs))/\FamsAt H ps cl/\FamsAt H qs dl/\Q (.bl (if neg then !decide (cl=dl) else decide (cl=dl))) H
end
end L2
end
section
namespace L2
open PySem PySem.Spec PyProof.Rows
open PySem.W (Frag Looks)
abbrev veM:List Value:=[.type "ValueError",.type "Exception",.type "BaseException",.type "object"]
def xnIn (K:Frag) (n:Addr):Bool:=match K.lookup n with
 | some o=>(match o.data with | .dict es _=>es.toList.all fun e=>(match e.key with | .str _ _=>true | _=>false) | _=>false)
 | none=>false
theorem xn_of {K:Frag} {h:Heap} {n:Addr} (X:K.In h) (q:xnIn K n=true):∃m,h.Ns n m:=by
 unfold xnIn at q
 cases e:K.lookup n with
 | none=>rw [e] at q;cases q
 | some o=>
  rw [e] at q
  dsimp only at q
  cases d:o.data with
  | dict es ep=>
   rw [d] at q
   dsimp only at q
   refine ⟨nsFind es,o,es,ep,X _ _ e,d,fun x hx=>?_,fun _=>rfl⟩
   have:=List.all_eq_true.mp q x (Array.mem_toList_iff.mpr hx)
   cases k:x.key with
   | str y t=>exact ⟨y,t,rfl⟩
   | _=>rw [k] at this;cases this
  | _=>rw [d] at q;cases q
def xtIn (K:Frag):List Value->Bool
 | .ref a::tl=>(match K.lookup a with
  | some o=>(match o.data with | .cls cd=>xnIn K cd.ns && (PySem.W.nsIn K cd.ns "__init__" == some none) | _=>false)
  | none=>false) && xtIn K tl
 | l=>l == veM
theorem xt_of {K:Frag} {h:Heap} (X:K.In h):∀{l:List Value},xtIn K l=true->OwnTail h veM l
 | .ref a::tl,q=>by
  simp only [xtIn,Bool.and_eq_true] at q
  obtain ⟨q,r⟩:=q
  cases e:K.lookup a with
  | none=>rw [e] at q;cases q
  | some o=>
   rw [e] at q
   obtain ⟨oc,od,da,sl⟩:=o
   cases da with
   | cls cd=>
    simp only [Bool.and_eq_true,beq_iff_eq] at q
    obtain ⟨m,hm⟩:=xn_of X q.1
    exact .own (X _ _ e) hm (PySem.W.ns_none_of X hm q.2) (xt_of X r)
   | _=>cases q
 | [],q=>by cases eq_of_beq q
 | .type n::tl,q=>by rw [show Value.type n::tl=veM from eq_of_beq q];exact .base
 | .none::tl,q=>by cases eq_of_beq q
 | .bool _::tl,q=>by cases eq_of_beq q
 | .int _ _::tl,q=>by cases eq_of_beq q
 | .str _ _::tl,q=>by cases eq_of_beq q
 | .builtin _::tl,q=>by cases eq_of_beq q
 | .float _ _::tl,q=>by cases eq_of_beq q
 | .bytes _ _::tl,q=>by cases eq_of_beq q
 | .ellipsis::tl,q=>by cases eq_of_beq q
 | .notImplemented::tl,q=>by cases eq_of_beq q
def xcIn (K:Frag) (C:Addr):Bool:=match K.lookup C with
 | some o=>o.cls == .type "type" && (match o.data with
  | .cls cd=>!cd.hasDel && cd.hasDict && xnIn K cd.ns && (match cd.mro with | v::tl=>v == .ref C && xtIn K tl | []=>false) | _=>false) && (match o.slots.toList with | [_,_,_,_,some v,_]=>v == .builtin "ValueError.__new__" | _=>false)
 | none=>false
theorem xc_of {K:Frag} {h:Heap} {C:Addr} (X:K.In h) (q:xcIn K C=true):∃nm qn N bs bm sn sub ab col dd k0 k1 k2 k3 k5 mN,h.get? C=some (excClassObj nm qn C N bs bm true sn sub ab col dd k0 k1 k2 k3 k5 "ValueError.__new__")/\h.Ns N mN/\OwnTail h veM bm:=by
 unfold xcIn at q
 cases e:K.lookup C with
 | none=>rw [e] at q;cases q
 | some o=>
  rw [e] at q
  obtain ⟨oc,od,da,sl⟩:=o
  simp only [Bool.and_eq_true,beq_iff_eq] at q
  obtain ⟨⟨rfl,q1⟩,q2⟩:=q
  cases da with
  | cls cd=>
   obtain ⟨nm,bs,mro,ns,qn,hd,sn,sub,ab,col,del⟩:=cd
   simp only [Bool.and_eq_true,Bool.not_eq_true'] at q1
   obtain ⟨⟨⟨rfl,rfl⟩,n1⟩,q1⟩:=q1
   cases mro with
   | nil=>cases q1
   | cons v tl=>
    simp only [Bool.and_eq_true,beq_iff_eq] at q1
    obtain ⟨rfl,q1⟩:=q1
    obtain ⟨l⟩:=sl
    match l,q2 with
    | [k0,k1,k2,k3,some v,k5],q2=>
     obtain ⟨m,hm⟩:=xn_of X n1
     have ev:v=.builtin "ValueError.__new__":=eq_of_beq q2
     subst ev
     exact ⟨nm,qn,ns,bs,tl,sn,sub,ab,col,od,k0,k1,k2,k3,k5,m,X _ _ e,hm,xt_of X q1⟩
  | _=>cases q1
section
variable {prog:Program} {w:World} {A:Around} {E:Value->Shared->Prop} {s:Shared} {K:Frag} {C fI:Addr}
theorem type_call_own {rest:List Value} {Q:PySem.Fin->Shared->Prop} (X:K.In s.heap) (q:xcIn K C=true) (hi:PySem.W.findIn K (.ref C) "__init__" = some (some (.ref fI))) (hf:PySem.W.typeIn K (.ref fI)=some (.type "function"))
  (hq:∀h',Heap.MadeExcOf s.heap h' (s.heap.objs.size+1) (.ref C) rest->wpAny (model prog w) A (call (.ref fI) (.ref (s.heap.objs.size+1)::rest)) (fun r s'=>r=.none/\Q (.done (.ret (.ref (s.heap.objs.size+1)))) s') E { s with heap:=h' }) (hrest:rest.length<=sizeLine) :
  wpAny (model prog w) A (Builtin.«type.__call__» ⟨.ref C::rest,[]⟩) Q E s:=by
 obtain ⟨nm,qn,N,bs,bm,sn,sub,ab,col,dd,k0,k1,k2,k3,k5,mN,hC,hN,T⟩:=xc_of X q
 obtain ⟨h,g,d,t,os⟩:=s
 dsimp only at X hC hN T hq
 repeat (first | with_reducible refine wpAny_loadPart_at hC ?_ | with_reducible refine wpAny_madeBy_exc hC ?_ | wp_step)
 have FF:=PySem.F.excBase_ValueError
 refine codeAny_call_builtin_code (Code.quiet_builtin _ FF.quiet) (wpAny_check_new_subU FF (by decide +kernel) T hC (codeAny_exc_new_subU FF (by decide +kernel) FF T hC ?_ hrest))
 show wpAny _ _ _ _ _ _
 have kp:∀b o,h.get? b=some o->((h.push { cls:=.type "tuple",data:=.seq rest.toArray }).push { cls:=.ref C,data:=.fields #[.ref h.objs.size,.none,.none,.none,.bool false,.none] }).get? b=some o:=fun b o e=>Heap.get?_push_of_some _ (Heap.get?_push_of_some _ e)
 have e1:((h.push { cls:=.type "tuple",data:=.seq rest.toArray }).push { cls:=.ref C,data:=.fields #[.ref h.objs.size,.none,.none,.none,.bool false,.none] }).get? (h.objs.size+1)=some { cls:=.ref C,data:=.fields #[.ref h.objs.size,.none,.none,.none,.bool false,.none] }:=by heap_get
 have mk:Heap.MadeExcOf h ((h.push { cls:=.type "tuple",data:=.seq rest.toArray }).push { cls:=.ref C,data:=.fields #[.ref h.objs.size,.none,.none,.none,.bool false,.none] }) (h.objs.size+1) (.ref C) rest:=⟨kp,Heap.get?_none_of_le (Nat.le_succ _),h.objs.size,e1,Heap.get?_none_of_le (Nat.le_refl _),Heap.get?_push_of_some _ (Heap.get?_push_at rfl rfl)⟩
 generalize ((h.push { cls:=.type "tuple",data:=.seq rest.toArray }).push { cls:=.ref C,data:=.fields #[.ref h.objs.size,.none,.none,.none,.bool false,.none] })=h2 at kp e1 mk ⊢
 have hC2:=kp _ _ hC
 have X2:K.In h2:=X.keeps kp
 have hcC:(Value.ref C::bm).contains (.ref C)=true:=by simp
 unfold isInstance
 repeat (first | with_reducible refine wpAny_loadPart_at e1 ?_ | (with_reducible refine wpAny_isSubtype_exc hC2 ?_;rw [hcC]) | wp_step)
 show wpAny _ _ (typeLookup (.ref C) _) _ _ _
 refine (PySem.W.looks_findIn (M:=model prog w) (h:=h2) X2 hi) _ _ _ _ (fun _ _ e=>e) (wpAny_holding (wpAny_bind ((PySem.W.bind_fn (M:=model prog w) (h:=h2) X2 (.ref (h.objs.size+1)) hf) _ _ _ _ (fun _ _ e=>e) ?_)))
 refine wpAny_bind (wpAny_mono (hq h2 mk) (fun r s' hr=>?_) fun _ _ z=>z)
 obtain ⟨rfl,z⟩:=hr
 wp_walk
 exact z
theorem call_own {rest:List Value} {Q:Value->Shared->Prop} (X:K.In s.heap) (q:xcIn K C=true) (hi:PySem.W.findIn K (.ref C) "__init__" = some (some (.ref fI))) (hf:PySem.W.typeIn K (.ref fI)=some (.type "function"))
  (hq:∀h',Heap.MadeExcOf s.heap h' (s.heap.objs.size+1) (.ref C) rest->wpAny (model prog w) (A.under (.builtin "type.__call__" ⟨.ref C::rest,[]⟩)) (call (.ref fI) (.ref (s.heap.objs.size+1)::rest)) (fun r s'=>r=.none/\Q (.ref (s.heap.objs.size+1)) s') E { s with heap:=h' }) (hrest:rest.length<=sizeLine) :
  wpAny (model prog w) A (call (.ref C) rest) Q E s:=by
 obtain ⟨nm,qn,N,bs,bm,sn,sub,ab,col,dd,k0,k1,k2,k3,k5,mN,hC,hN,T⟩:=xc_of X q
 obtain ⟨h,g,d,t,os⟩:=s
 dsimp only at X hC hN T hq
 have f1:=tc_lookup
 have f2:=tc_bind (.ref C)
 have hT:(⟨h,g,d,t,os⟩:Shared).TypeIs (.ref C) "type":=⟨_,hC,rfl⟩
 refine wpAny_call (codeAny_of_tree (show wpAny _ _ (callAny (.ref C) _) _ _ _ from ?_))
 repeat (any_goals (first | assumption | with_reducible refine wpAny_loadPart_at hC ?_ | wp_step))
 refine ⟨rfl,codeAny_call_builtin_at (Code.quiet_builtin _ (by decide +kernel)) entry_typeCall (wpAny_check_type_call_sub hC (type_call_own (s:=⟨h,g,d,t,os⟩) X q hi hf (fun h' hm=>?_) hrest))⟩
 exact hq h' hm
end
end L2
end
section
namespace L2
open PySem PySem.Spec PyProof.Rows
open PySem.W (Frag Looks)
section
variable {prog:Program} {w:World} {A:Around} {E:Value->Shared->Prop} {s:Shared} {K:Frag} {C e:Addr} {oe:Obj} {vs:Array Value}
theorem base_init {t0:Addr} {rest:List Value} {Q:Value->Shared->Prop} (X:K.In s.heap) (q:xcIn K C=true) (he:s.heap.get? e=some { cls:=.ref C,data:=.fields #[.ref t0,.none,.none,.none,.bool false,.none] })
  (hq:Q .none { s with heap:=(s.heap.push { cls:=.type "tuple",data:=.seq rest.toArray }).update e (Obj.mapFields (·.setIfInBounds 0 (Value.ref s.heap.objs.size))) }) (hrest:rest.length<=sizeLine) :
  wpAny (model prog w) A (call (.builtin "ValueError.__init__") (.ref e::rest)) Q E s:=by
 obtain ⟨nm,qn,N,bs,bm,sn,sub,ab,col,dd,k0,k1,k2,k3,k5,mN,hC,hN,T⟩:=xc_of X q
 have FF:=PySem.F.excBase_ValueError
 obtain ⟨h,g,d,t,os⟩:=s
 dsimp only at X hC hN T hq he
 have he1:(h.push { cls:=.type "tuple",data:=.seq rest.toArray }).get? e=some { cls:=.ref C,data:=.fields #[.ref t0,.none,.none,.none,.bool false,.none] }:=Heap.get?_push_of_some _ he
 refine wpAny_call (codeAny_call_builtin FF.init.plain FF.initEntry (wpAny_check_init_subU FF T hC he rfl ?_))
 wp_walk
 exact hq
theorem refuse_tail (self:Value) {h:Heap} {l:List Value} (T:OwnTail h veM l):refuseLoop self "__setattr__" l=pure ():=by
 induction T with
 | base=>exact PySem.F.store_ValueError.passes self
 | own _ _ _ _ ih=>rw [refuseLoop_ref];exact ih
theorem xset_open {name:Str} {tk:Tok} {v:Value} {R:Result->Shared->Prop} (X:K.In s.heap) (q:xcIn K C=true) (he:s.heap.get? e=some oe) (hc:oe.cls=.ref C) (ht:PySem.W.takerIn K C name=some none)
  (h:∀b,wpAny (model prog w) A.in1 (Builtin.ObjectAttr.storeInOwnDict (.ref e) (.ref C) (.str name tk) name v b) (fun fin s'=>match fin with | .done f=>R (.ok f) s' | .again c'=>c'.quiet=true/\codeAny (model prog w) A c' R s') (fun x s'=>R (.error x) s') s) :
  codeAny (model prog w) A (.call (.builtin "object.__setattr__") ⟨[.ref e,.str name tk,v],[]⟩) R s:=by
 obtain ⟨nm,qn,N,bs,bm,sn,sub,ab,col,dd,k0,k1,k2,k3,k5,mN,hC,hN,T⟩:=xc_of X q
 have SF:=PySem.F.store_object
 have ty:Looks (model prog w) s.heap (typeOf (.ref e)) (.ref C):=hc ▸ (Looks.ld he).andThen .now
 have sub:Looks (model prog w) s.heap (isInstance (.ref e) (.type "object")) true:=ty.andThen (fun A Q E s k z=>by
  obtain ⟨h,g,d,t,os⟩:=s
  refine wpAny_isSubtype_exc (k _ _ hC) ?_
  rw [List.contains_cons,T.hasType (X:="object") (b:=true) (by decide +kernel),Bool.or_true]
  exact z)
 refine codeAny_call_builtin SF.slot.plain SF.entry (@PySem.W.check_slot (model prog w) _ _ s "object.__setattr__" "object" "__setattr__" (.ref e) [.str name tk,v] [] _ SF.kind SF.split sub (SF.args (.ref e) (.str name tk) v) ?_)
 obtain ⟨attr,ha,hr⟩:=Option.bind_eq_some_iff.mp ht
 have hm:Looks (model prog w) s.heap (mroOf (.ref C)) (.ref C::bm):=fun A Q E s k z=>by
  obtain ⟨h,g,d,t,os⟩:=s
  exact wpAny_mroOf_exc (k _ _ hC) z
 have L3:Looks (model prog w) s.heap (Builtin.ObjectAttr.storeTaker? attr) none:=by
  cases attr with
  | none=>exact .now
  | some a=>
   obtain ⟨b,hb,z⟩:=Option.map_eq_some_iff.mp hr
   cases b with
   | true=>cases z
   | false=>exact (PySem.W.looks_takesIn X hb).andThen .now
 rw [PySem.W.osa_eq,refuse_eq]
 refine wpAny_bind (wpAny_bind (ty.here (wpAny_bind (hm.here ?_))))
 rw [refuseLoop_ref,refuse_tail _ T]
 exact wpAny_pure (wpAny_bind (ty.here (wpAny_bind ((PySem.W.looks_findIn X ha).here (wpAny_bind (L3.here (h _)))))))
theorem xset {name:Str} {v:Value} {Q:Unit->Shared->Prop} (X:K.In s.heap) (q:xcIn K C=true) (he:s.heap.get? e=some oe) (hc:oe.cls=.ref C) (hd:oe.dict=none) (hvs:oe.data=.fields vs)
  (hs:PySem.W.findIn K (.ref C) "__setattr__" = some (some (.builtin "object.__setattr__"))) (ht:PySem.W.takerIn K C name=some none)
  (h:∀h' tk,h'.get? e=some { oe with dict:=some s.heap.objs.size }->h'.Ns1 s.heap.objs.size (fun y=>if y=name then some v else none)->(∀b o,b≠e->s.heap.get? b=some o->h'.get? b=some o)->Q () { s with heap:=h',toks:=tk }) :
  wpAny (model prog w) A (setAttr (.ref e) name v) Q E s:=by
 obtain ⟨oc,od,oda,osl⟩:=oe
 dsimp only at hc hd hvs
 subst hc hd hvs
 have J:PySem.W.InstAt s.heap e ⟨.ref C,none,.fields vs,osl⟩ C none:=⟨he,rfl,rfl,True.intro⟩
 refine PySem.W.set_plain X J hs (xset_open (s:={ s with toks:=s.toks+1 }) X q he rfl ht fun b=>?_)
 obtain ⟨nm,qn,N,bs,bm,sn,sub,ab,col,dd,k0,k1,k2,k3,k5,mN,hC,hN,T⟩:=xc_of X q
 have hcd:Looks (model prog w) s.heap (classData C) _:=(Looks.ld (part:=none) hC).andThen .now
 refine wpAny_bind (wpAny_pure (wpAny_bind (wpAny_bind (wpAny_loadPart he (wpAny_bind (Looks.here (s:={ s with toks:=s.toks+1 }) hcd ?_))))))
 rw [if_neg (by simp)]
 dsimp only
 rw [if_neg (by simp [typeHasDict])]
 have he1:(s.heap.push { cls:=.type "dict",data:=.dict #[] }).get? e=some ⟨.ref C,none,.fields vs,osl⟩:=Heap.get?_push_of_some _ he
 have hne:e≠s.heap.objs.size:=Nat.ne_of_lt (Heap.lt_size he)
 refine wpAny_bind (wpAny_alloc' (wpAny_bind (wpAny_update' he1 ?_)))
 refine wpAny_pure ?_
 have hx2:=Heap.get?_update_self (fun o:Obj=>{ cls:=o.cls,dict:=some s.heap.objs.size,data:=o.data,slots:=o.slots }) he1 rfl
 have kp2:∀b o,b≠e->(s.heap.push { cls:=.type "dict",data:=.dict #[] }).get? b=some o->((s.heap.push { cls:=.type "dict",data:=.dict #[] }).update e fun o=>{ cls:=o.cls,dict:=some s.heap.objs.size,data:=o.data,slots:=o.slots }).get? b=some o:=fun b o hb z=>(Heap.get?_update_ne _ _ _ _ hb).trans z
 have hgd:=kp2 _ _ hne.symm (Heap.get?_push_at (h:=s.heap) (o:={ cls:=.type "dict",data:=.dict #[] }) rfl rfl)
 have kp3:∀b o,b≠e->s.heap.get? b=some o->((s.heap.push { cls:=.type "dict",data:=.dict #[] }).update e fun o=>{ cls:=o.cls,dict:=some s.heap.objs.size,data:=o.data,slots:=o.slots }).get? b=some o:=fun b o hb z=>kp2 b o hb (Heap.get?_push_of_some _ z)
 generalize ((s.heap.push { cls:=.type "dict",data:=.dict #[] }).update e fun o=>{ cls:=o.cls,dict:=some s.heap.objs.size,data:=o.data,slots:=o.slots })=h2 at hx2 hgd kp3 ⊢
 have hnd:h2.Ns s.heap.objs.size (fun _=>none):=⟨_,#[],_,hgd,rfl,fun x hx=>absurd hx (by simp),fun _=>rfl⟩
 refine wpAny_bind (wpAny_pure (wpAny_bind ?_))
 refine wpAny_nsSet1 (s:={ s with heap:=h2,toks:=s.toks+1 }) (Heap.Ns1.of_empty hnd) fun h' hn' sb=>?_
 obtain ⟨oD,esD,epD,hoD,hdD,hcD⟩:=hn'.count (Within.cons name v Within.nil)
 refine wpAny_bind (wpAny_lookBehind hoD (by rw [hdD];exact pastItsLine_dict (Nat.le_trans hcD (by rw [List.length_cons,List.length_nil,sizeLine_eq];omega))) ?_)
 exact wpAny_pure (h h' _ ((sb.2 _ hne).trans hx2) hn' fun b o hb z=>(sb.2 b (Nat.ne_of_lt (Heap.lt_size z))).trans (kp3 b o hb z))
theorem xget {od:Option Obj} {name:Str} {v:Value} {expr:Bool} {Q:Value->Shared->Prop} (X:K.In s.heap) (q:xcIn K C=true) (I:PySem.W.InstAt s.heap e oe C od)
  (hga:PySem.W.findIn K (.ref C) "__getattribute__" = some (some (.builtin "BaseException.__getattribute__"))) (hgb:PySem.W.findIn K (.ref C) "__getattr__" = some none)
  (hf:PySem.W.findObj K C od name=some (.value v)) (hh:PySem.W.handedIn v=true) (h:Q v { s with toks:=s.toks+1 }):wpAny (model prog w) A (getAttr (.ref e) name expr) Q E s:=by
 obtain ⟨nm,qn,N,bs,bm,sn,sub,ab,col,dd,k0,k1,k2,k3,k5,mN,hC,hN,T⟩:=xc_of X q
 obtain ⟨hp,g,d,t,os⟩:=s
 dsimp only at X I hC
 have ty:=I.type (M:=model prog w)
 have L1:=PySem.W.looks_findIn (M:=model prog w) X hga
 have L2:=PySem.W.looks_findIn (M:=model prog w) X hgb
 have L3:=PySem.W.looks_find (M:=model prog w) X I hf
 have FA:=PySem.F.attr_ValueError
 unfold getAttr getAttrBy
 refine wpAny_bind (wpAny_mkText (wpAny_holding (wpAny_bind (ty.at (wpAny_bind (L1.at ?_))))))
 dsimp only
 rw [show (onTheHeap (Value.ref C) && Value.builtin "BaseException.__getattribute__" == Value.builtin "object.__getattribute__")=false from by rw [show (Value.builtin "BaseException.__getattribute__" == Value.builtin "object.__getattribute__")=false from by decide +kernel];rfl,if_neg (by decide)]
 refine wpAny_bind (L2.at (wpAny_bind (wpAny_attempt (wpAny_holding ?_))))
 unfold callGetattribute
 rw [show (expr && onTheHeap (Value.builtin "BaseException.__getattribute__"))=false from Bool.and_false _,if_neg (by decide)]
 unfold boundAndCalled
 rw [FA.ga.bind]
 refine wpAny_bind (wpAny_pure (wpAny_call (codeAny_call_builtin FA.ga.plain PySem.F.entry_bexc_ga ?_)))
 have sub:Looks (model prog w) hp (isInstance (.ref e) (.type "BaseException")) true:=ty.andThen (fun A Q E s k z=>by
  obtain ⟨h,g,d,t,os⟩:=s
  refine wpAny_isSubtype_exc (k _ _ hC) ?_
  rw [List.contains_cons,T.hasType (X:="BaseException") (b:=true) (by decide +kernel),Bool.or_true]
  exact z)
 refine @PySem.W.check_slot (model prog w) _ _ ⟨hp,g,d,t+1,os⟩ "BaseException.__getattribute__" "BaseException" "__getattribute__" (.ref e) [.str name t] [] _ (by decide +kernel) (by decide +kernel) sub (PySem.F.args_bexc_ga (.ref e) (.str name t)) ?_
 refine wpAny_bind (wpAny_pure (wpAny_bind (wpAny_pure (wpAny_bind (ty.at (wpAny_bind (L3.at ?_)))))))
 refine wpAny_pure ?_
 show wpAny _ _ (handedOut v) _ _ _
 rw [PySem.W.handedOut_of hh]
 exact wpAny_pure h
end
end L2
end
section
namespace L2
open PySem PySem.Spec PyProof.Rows
open PySem.W (Frag Looks)
abbrev xob (C:Addr) (dx:Option Addr) (t:Addr):Obj:={ cls:=.ref C,dict:=dx,data:=.fields #[.ref t,.none,.none,.none,.bool false,.none] }
section
variable {M:Model} {A:Around} {E:Value->Shared->Prop} {s:Shared} {K:Frag} {C:Addr} {env:Env}
theorem xraise {x:Sem Value} {Q:Flow->Shared->Prop} (q:xcIn K C=true) (hh:A.handled=none) (h:wpAny M A x (fun v s₁=>∃e dx t,v=.ref e/\K.In s₁.heap/\s₁.heap.get? e=some (xob C dx t)/\E (.ref e) s₁) E s) :
  wpAny M A (raiseStmt env (some x) none) Q E s:=by
 unfold raiseStmt
 refine wpAny_bind (wpAny_mono h (fun v s₁ h₁=>?_) fun _ _ z=>z)
 obtain ⟨e,dx,t,rfl,X,he,hE⟩:=h₁
 obtain ⟨nm,qn,N,bs,bm,sn,sub,ab,col,dd,k0,k1,k2,k3,k5,mN,hC,hN,T⟩:=xc_of X q
 have hb:(Value.ref C::bm).contains (.type "BaseException")=true:=by rw [List.contains_cons,T.hasType (X:="BaseException") (b:=true) (by decide +kernel),Bool.or_true]
 obtain ⟨hp,g,d,tk,os⟩:=s₁
 dsimp only at hC he
 repeat (first | with_reducible refine wpAny_loadPart_at he ?_ | (with_reducible refine wpAny_isSubtype_exc hC ?_;rw [hb]) | wp_step)
 exact wpAny_raiseNew_none hh hE
end
def XAt (N:Addr->Prop) (h:Heap) (e C:Addr) (dx:Option Addr):Prop:=N e/\∃vs sl,h.get? e=some ⟨.ref C,dx,.fields vs,sl⟩/\(vs[1]? = some .none\/∃T oT ts,N T/\T≠e/\vs[1]? = some (.ref T)/\h.get? T=some oT/\oT.data=.fields ts/\ts[3]? = some .none)
structure Lv (fs ch:List Addr) (h h':Heap):Prop where
 keep:∀b o,b∉fs->b∉ch->h.get? b=some o->h'.get? b=some o
 slot:∀b o,b∈fs->h.get? b=some o->∃sl,h'.get? b=some { o with slots:=sl }
section
variable {M:Model} {A:Around} {E:Value->Shared->Prop} {s:Shared} {env:Env} {outer:List Env} {base:Heap} {N:Addr->Prop} {e C L:Addr} {dx:Option Addr}
theorem xentry {oe:Obj} {vs:Array Value} {head:Value} {hadNext:Bool} {Q:Unit->Shared->Prop} (hfr:A.frames=some (env::outer)) (hl:s.heap.FunFrames base (env::outer)) (hf:env.frame=some L)
  (he:s.heap.get? e=some oe) (hd:oe.data=.fields vs) (hz:1 < vs.size)
  (h:∀h' T oT ts,s.heap.objs.size<=T->T≠e->h'.get? e=some { oe with data:=.fields (vs.setIfInBounds 1 (.ref T)) }->h'.get? T=some oT->oT.data=.fields ts->ts[3]? = some (rawInt L)->
   (∀b o,b≠e->b∉frs (env::outer)->s.heap.get? b=some o->h'.get? b=some o)->(∀b o,b∈frs (env::outer)->s.heap.get? b=some o->∃sl,h'.get? b=some { o with slots:=sl })->h'.FunFrames base (env::outer)->Q () { s with heap:=h' }) :
  wpAny M A (do let a <-frameOf env;let pl <-entryPlaceOf L hadNext;let b <-EntryCells.newEntry head a .none (rawInt L) .none pl;setField (.ref e) 1 b) Q E s:=by
 have nf:∀b,b∈frs (env::outer)->b≠e:=fun b hb z=>by
  obtain ⟨_,o,ho,nd⟩:=hl.mem hb
  rw [z,he] at ho;cases ho;exact nd vs hd
 refine wpAny_bind (wpAny_frameOf_fun hfr hl hf fun h₁ so=>wpAny_bind (wpAny_entryPlaceOf fun pl hpl=>?_))
 unfold EntryCells.newEntry newFields
 refine wpAny_bind (wpAny_newObj_type ?_ (hpl.sizeOk5 _ _ _ _ _))
 have he1:h₁.get? e=some oe:=(so.2.1 e fun z=>nf e z rfl).trans he
 have k2:∀b o,h₁.get? b=some o->(h₁.push { cls:=.type "traceback",dict:=none,data:=.fields ([head,.ref L,.none,rawInt L,.none]++(if pl.isEmpty then List.replicate 6 Value.none else pl)).toArray }).get? b=some o:=fun b o z=>Heap.get?_push_of_some _ z
 have t2:=Heap.get?_push_size h₁ (o:={ cls:=.type "traceback",dict:=none,data:=.fields ([head,.ref L,.none,rawInt L,.none]++(if pl.isEmpty then List.replicate 6 Value.none else pl)).toArray }) rfl
 have t3:([head,.ref L,.none,rawInt L,.none]++(if pl.isEmpty then List.replicate 6 Value.none else pl)).toArray[3]? = some (rawInt L):=by simp
 generalize ([head,.ref L,.none,rawInt L,.none]++(if pl.isEmpty then List.replicate 6 Value.none else pl)).toArray=ts at k2 t2 t3 ⊢
 generalize h₁.push { cls:=.type "traceback",dict:=none,data:=.fields ts }=h₂ at k2 t2 ⊢
 have he2:=k2 _ _ he1
 have hTe:h₁.objs.size≠e:=Nat.ne_of_gt (Heap.lt_size he1)
 refine wpAny_setField he2 hd hz ?_
 have oth:∀b o,b≠e->h₂.get? b=some o->(h₂.update e (Obj.mapFields (·.setIfInBounds 1 (Value.ref h₁.objs.size)))).get? b=some o:=fun b o hb z=>(Heap.get?_update_other _ _ hb.symm).trans z
 have d3:=Obj.data_mapFields hd (·.setIfInBounds 1 (Value.ref h₁.objs.size))
 have he3:=Heap.get?_update_self (Obj.mapFields (·.setIfInBounds 1 (Value.ref h₁.objs.size))) he2 (Obj.isFreed_of_fields d3)
 have sl3:∀b o,b∈frs (env::outer)->s.heap.get? b=some o->∃sl,(h₂.update e (Obj.mapFields (·.setIfInBounds 1 (Value.ref h₁.objs.size)))).get? b=some { o with slots:=sl }:=fun b o hb z=>by
  obtain ⟨sl,e1⟩:=so.2.2 b o z
  exact ⟨sl,oth _ _ (nf b hb) (k2 _ _ e1)⟩
 refine h _ h₁.objs.size _ ts (Nat.le_of_eq so.1.symm) hTe ?_ (oth _ _ hTe t2) rfl t3 (fun b o hb hf z=>oth b o hb (k2 _ _ ((so.2.1 b hf).trans z))) sl3 ?_
 ·rw [he3]
  obtain ⟨oc,od,oda,osl⟩:=oe
  dsimp only at hd
  subst hd
  rfl
 ·refine hl.of_keeps fun b o hb nd=>?_
  obtain ⟨sl,e1⟩:=so.2.2 b o hb
  refine ⟨_,oth b _ (fun z=>?_) (k2 _ _ e1),rfl⟩
  rw [z,he] at hb;cases hb;exact nd vs hd
theorem xland {T:Addr} {oe oT:Obj} {vs ts:Array Value} {Q:Unit->Shared->Prop} (he:s.heap.get? e=some oe) (hd:oe.data=.fields vs) (h1:vs[1]? = some (.ref T)) (hT:s.heap.get? T=some oT) (hdT:oT.data=.fields ts) (hz:3 < ts.size)
  (h:Q () { s with heap:=s.heap.update T (Obj.mapFields (·.setIfInBounds 3 Value.none)) }):wpAny M A (setFlight (.ref e) none) Q E s:=by
 unfold setFlight
 refine wpAny_bind (wpAny_field he hd h1 ?_)
 rw [if_pos (show (Value.ref T != Value.none)=true from by simp)]
 exact wpAny_setField hT hdT hz h
theorem xleave {Q:Unit->Shared->Prop} (hfr:A.frames=some (env::outer)) (hl:s.heap.FunFrames base (env::outer)) (hf:env.frame=some L) (hN:∀b,s.heap.objs.size<=b->N b) (x:XAt N s.heap e C dx)
  (h:∀h' ch,(∀b∈ch,N b/\∃o vs,s.heap.get? b=some o/\o.data=.fields vs)->XAt N h' e C dx->Lv (frs (env::outer)) ch s.heap h'->Q () { s with heap:=h' }):wpAny M A (noteFrame (.ref e) env) (fun _ s'=>wpAny M A (setFlight (.ref e) none) Q E s') E s:=by
 obtain ⟨ne,vs,sl,he,tb⟩:=x
 have fin:∀(ch:List Addr) (hch:∀b∈ch,N b/\∃o vs,s.heap.get? b=some o/\o.data=.fields vs) (s1:Shared) (h':Heap) (T:Addr) (oT:Obj) (ts:Array Value),s1.heap.objs.size=s.heap.objs.size->s1.heap.objs.size<=T->T≠e->h'.get? e=some ⟨.ref C,dx,.fields (vs.setIfInBounds 1 (.ref T)),sl⟩->1 < vs.size->h'.get? T=some oT->oT.data=.fields ts->ts[3]? = some (rawInt L)->
   (∀b o,b∉frs (env::outer)->b∉ch->s.heap.get? b=some o->h'.get? b=some o)->(∀b o,b∈frs (env::outer)->s.heap.get? b=some o->∃sl,h'.get? b=some { o with slots:=sl })->s1={ s with heap:=s1.heap }->
   wpAny M A (setFlight (.ref e) none) Q E { s1 with heap:=h' }:=fun ch hch s1 h' T oT ts hs hT hTe e1 hz t1 t2 t3 k1 k2 es=>by
  have v1:(vs.setIfInBounds 1 (Value.ref T))[1]? = some (.ref T):=by simp [hz]
  have z3:=(Array.getElem?_eq_some_iff.mp t3).1
  refine xland (s:={ s1 with heap:=h' }) e1 rfl v1 t1 t2 z3 ?_
  have nT:N T:=hN T (by omega)
  have ot:∀b o,b≠T->h'.get? b=some o->(h'.update T (Obj.mapFields (·.setIfInBounds 3 Value.none))).get? b=some o:=fun b o hb z=>(Heap.get?_update_other _ _ hb.symm).trans z
  have t4:=Heap.get?_update_self (Obj.mapFields (·.setIfInBounds 3 Value.none)) t1 (Obj.isFreed_of_fields (Obj.data_mapFields t2 _))
  have g:=h (h'.update T (Obj.mapFields (·.setIfInBounds 3 Value.none))) ch hch ⟨ne,_,sl,ot _ _ hTe.symm e1,.inr ⟨T,_,_,nT,hTe,v1,t4,Obj.data_mapFields t2 _,by simp [z3]⟩⟩ ⟨fun b o hb nb z=>ot b o (fun y=>?_) (k1 b o hb nb z),fun b o hb z=>?_⟩
  ·rw [es];exact g
  ·have:=Heap.lt_size z
   rw [y] at this
   exact absurd this (Nat.not_lt.mpr (by rw [<-hs];exact hT))
  ·obtain ⟨sl',e2⟩:=k2 b o hb z
   refine ⟨sl',ot b _ (fun y=>?_) e2⟩
   obtain ⟨_,o',ho',nd⟩:=hl.mem hb
   have:=Heap.lt_size ho'
   rw [y] at this
   exact absurd this (Nat.not_lt.mpr (by rw [<-hs];exact hT))
 unfold noteFrame
 simp only [hf]
 rcases tb with h1 | ⟨T,oT,ts,nT,hTe,h1,hT,dT,h3⟩
 ·have hz:=(Array.getElem?_eq_some_iff.mp h1).1
  refine wpAny_bind (wpAny_field he rfl h1 ?_)
  rw [if_neg (by decide)]
  exact xentry hfr hl hf he rfl hz fun h' T oT ts a1 a2 a3 a4 a5 a6 a7 a8 _=>fin [e] (fun b hb=>by rw [List.mem_singleton.mp hb];exact ⟨ne,_,_,he,rfl⟩) s h' T oT ts rfl a1 a2 a3 hz a4 a5 a6 (fun b o hb nb z=>a7 b o (fun y=>nb (by rw [y];simp)) hb z) a8 rfl
 ·have hz:=(Array.getElem?_eq_some_iff.mp h1).1
  refine wpAny_bind (wpAny_field he rfl h1 ?_)
  rw [if_pos (show (Value.ref T != Value.none)=true by simp)]
  refine wpAny_bind (wpAny_field hT dT h3 ?_)
  rw [if_neg (show ¬((Value.none == rawInt L)=true) by simp [rawInt])]
  refine wpAny_bind (wpAny_setField hT dT (Array.getElem?_eq_some_iff.mp h3).1 ?_)
  have ot:∀b o,b≠T->s.heap.get? b=some o->(s.heap.update T (Obj.mapFields (·.setIfInBounds 3 Value.none))).get? b=some o:=fun b o hb z=>(Heap.get?_update_other _ _ hb.symm).trans z
  have nfT:∀b o,s.heap.get? b=some o->(∀vs,o.data≠.fields vs)->b≠T:=fun b o z nd y=>by rw [y,hT] at z;cases z;exact nd ts dT
  have hl2:(s.heap.update T (Obj.mapFields (·.setIfInBounds 3 Value.none))).FunFrames base (env::outer):=hl.of_keeps fun b o z nd=>⟨o,ot b o (nfT b o z nd) z,rfl⟩
  have sz:(s.heap.update T (Obj.mapFields (·.setIfInBounds 3 Value.none))).objs.size=s.heap.objs.size:=by simp
  have he2:=ot _ _ hTe.symm he
  generalize s.heap.update T (Obj.mapFields (·.setIfInBounds 3 Value.none))=hq at ot hl2 sz he2 ⊢
  refine xentry (s:={ s with heap:=hq }) hfr hl2 hf he2 rfl hz fun h' T' oT' ts' a1 a2 a3 a4 a5 a6 a7 a8 _=>fin [e,T] (fun b hb=>?_) { s with heap:=hq } h' T' oT' ts' sz a1 a2 a3 hz a4 a5 a6 (fun b o hb nb z=>a7 b o (fun y=>nb (by rw [y];simp)) hb (ot b o (fun y=>nb (by rw [y];simp)) z)) (fun b o hb z=>a8 b o hb (ot b o ?_ z)) rfl
  ·have:b=e\/b=T:=by simpa using hb
   rcases this with rfl | rfl
   ·exact ⟨ne,_,_,he,rfl⟩
   ·exact ⟨nT,_,_,hT,dT⟩
  ·obtain ⟨_,o',ho',nd⟩:=hl.mem hb
   exact nfT b o' ho' nd
theorem xleaving {Q:Unit->Shared->Prop} (hfr:A.frames=some (env::outer)) (hl:s.heap.FunFrames base (env::outer)) (hf:env.frame=some L) (hN:∀b,s.heap.objs.size<=b->N b) (x:XAt N s.heap e C dx)
  (h:∀h' ch,(∀b∈ch,N b/\∃o vs,s.heap.get? b=some o/\o.data=.fields vs)->XAt N h' e C dx->Lv (frs (env::outer)) ch s.heap h'->Q () { s with heap:=h' }):wpAny M A (leaving env (.ref e)) Q E s:=wpAny_bind (xleave hfr hl hf hN x h)
end
end L2
end
section
namespace L2
open PySem PySem.Spec PyProof.Rows
open PySem.W (Frag Looks)
structure XC (K:Frag) (C:Addr):Prop where
 is:xcIn K C=true
 hd:PySem.W.hasDictIn K C=true
 sa:PySem.W.findIn K (.ref C) "__setattr__" = some (some (.builtin "object.__setattr__"))
 ga:PySem.W.findIn K (.ref C) "__getattribute__" = some (some (.builtin "BaseException.__getattribute__"))
 gn:PySem.W.findIn K (.ref C) "__getattr__" = some none
 ca:PySem.W.findIn K (.ref C) "__class__" = some (some (.builtin "object.__class__"))
 cn:PySem.W.specialIn K (.builtin "object.__class__") "__get__" = some (some (.builtin "getset_descriptor.__get__"))
 ct:PySem.W.takesIn K (.builtin "object.__class__")=some true
 cm:PySem.W.mroIn K C (.type "object")=some true
section
variable {prog:Program} {w:World} {A:Around} {E:Value->Shared->Prop} {s:Shared} {K:Frag} {C e:Addr} {oe:Obj} {od:Option Obj}
end
end L2
end
section
namespace L2
open PySem PySem.Spec PyProof.Rows
open PySem.W (Frag Looks)
def CXE (P:Program) (w:World):CXT:=fun outer H s E x s'=>∃e C dx H',x=.ref e/\s'.os=s.os/\AllBare s'.gens/\Un (frs outer) [] H H' s.heap s'.heap/\HOk P w H' s'.heap/\XAt (fun b=>s.heap.objs.size<=b/\H' b=none) s'.heap e C dx/\E (.ref C) dx H'
def XN (X:Cx) (pins:List (Addr×Obj)) (H:Hp) (b:Addr):Prop:=X.s₀.heap.objs.size<=b/\H b=none/\b≠X.env.locals/\(∀x c,X.env.cells.lookup x=some c->c≠b)/\∀p∈X.pn++pins,p.1≠b
theorem XN.new {X:Cx} {pins:List (Addr×Obj)} {σ:St} {H H':Hp} {s:Shared} (I:Inv X pins σ H s) {b:Addr} (hb:s.heap.objs.size<=b) (hn:H' b=none):XN X pins H' b:=by
 have nb:∀{c:Addr} {o:Obj},s.heap.get? c=some o->c≠b:=fun z y=>absurd (Heap.lt_size z) (by rw [y];exact Nat.not_lt.mpr hb)
 refine ⟨Nat.le_trans I.sz hb,hn,fun y=>?_,fun x c e=>?_,fun p hp=>nb (I.pin p hp).1⟩
 ·obtain ⟨m,⟨o,_,_,ho,_⟩,_⟩:=I.loc
  exact nb ho y.symm
 ·obtain ⟨v,o,ho,_⟩:=I.cell x c e
  exact nb ho
def Lands (X:Cx) (EH:St->XK):Prop:=∀(pins:List (Addr×Obj)) (σ:St) (H:Hp) (s:Shared) (e C:Addr) (dx:Option Addr),Inv X pins σ H s->XAt (XN X pins H) s.heap e C dx->EH σ (.ref C) dx H->X.xe (.ref e) s
theorem XAt.mono {N N':Addr->Prop} {h:Heap} {e C:Addr} {dx:Option Addr} (k:∀b,N b->N' b) (x:XAt N h e C dx):XAt N' h e C dx:=by
 obtain ⟨n,vs,sl,he,tb⟩:=x
 refine ⟨k _ n,vs,sl,he,tb.imp id ?_⟩
 rintro ⟨T,oT,ts,nT,r⟩
 exact ⟨T,oT,ts,k _ nT,r⟩
theorem Lands.pass {X:Cx} {EH:St->XK} (L:Lands X EH) {pins:List (Addr×Obj)} {σ:St} {H:Hp} {s s':Shared} {x:Value} (I:Inv X pins σ H s) (h:CXE X.prog X.w X.stack H s (EH σ) x s'):X.xe x s':=by
 obtain ⟨e,C,dx,H',rfl,os,bare,un,hok,xa,q⟩:=h
 have I':Inv X pins σ H' s':=I.call' os un hok bare (fun b z=>absurd z (by simp))
 exact L pins σ H' s' e C dx I' (xa.mono fun b hb=>.new I hb.1 hb.2) q
section
variable {P:Program} {w:World} {K:Frag} {mg:Str->Option Value} {base:Heap}
theorem lands_cx {N:List Str} {qual:Str} {scope:Scope} {f:Addr} {cd:Value} {A:Around} {outer:List Env} {s:Shared} {H:Hp} {E:XK}:Lands (cxOf (CXE P w) P w K mg base N qual scope f cd A outer s H E) (fun _=>E):=by
 intro pins σ H1 s1 e C dx I xa hE
 have hsz:s.heap.objs.size<=s1.heap.objs.size:=I.sz
 refine xleaving (L:=s.heap.objs.size) (N:=fun b=>s.heap.objs.size<=b/\H1 b=none) (base:=base) I.ok.frames I.stack rfl (fun b hb=>⟨Nat.le_trans hsz hb,I.hok.fresh hb⟩) (xa.mono fun b hb=>⟨hb.1,hb.2.1⟩) fun h' ch hch xa' lv=>?_
 have nn:∀b o,s.heap.get? b=some o->b∉ch:=fun b o z y=>absurd (Heap.lt_size z) (Nat.not_lt.mpr (hch b y).1.1)
 have nf:∀b o,s.heap.get? b=some o->b∉frs outer->b∉frs (envOfC qual scope s.heap.objs.size f cd::outer):=fun b o z hb y=>by
  rcases List.mem_cons.mp (show b∈s.heap.objs.size::frs outer from y) with y | y
  ·have:=Heap.lt_size z
   rw [y] at this
   exact Nat.lt_irrefl _ this
  ·exact hb y
 have sub:∀b,b∈frs outer->b∈frs (envOfC qual scope s.heap.objs.size f cd::outer):=fun b hb=>List.mem_cons_of_mem (a:=b) s.heap.objs.size hb
 have un:Un (frs outer) [] H H1 s.heap s1.heap:=I.base
 refine ⟨e,C,dx,H1,rfl,I.os,I.bare,⟨fun b o z n hb hx=>lv.keep b o (nf b o z hb) (nn b o z) (un.keep b o z n hb hx),fun b o z n hb hx=>?_,un.free,fun b o z hx=>?_,un.tups,un.frzs,un.tbls⟩,fun a u z=>?_,xa',hE⟩
 ·obtain ⟨sl,z1⟩:=un.slot b o z n hb hx
  obtain ⟨sl2,z2⟩:=lv.slot b _ (sub b hb) z1
  exact ⟨sl2,z2⟩
 ·obtain ⟨o',z1⟩:=un.there b o z hx
  by_cases hb:b∈frs (envOfC qual scope s.heap.objs.size f cd::outer)
  ·obtain ⟨sl2,z2⟩:=lv.slot b _ hb z1
   exact ⟨_,z2⟩
  ·exact ⟨o',lv.keep b o' hb (nn b o z) z1⟩
 ·refine (I.hok a u z).stay (fun b v hb y=>?_) (fun _ q=>q) fun _ _ q=>q
  have hn:¬H1 b=none:=fun y=>by
   rcases hb with rfl | hb
   ·rw [z] at y;cases y
   ·rw [hb] at y;cases y
  exact lv.keep b v (fun y=>hn (I.stkFree b y)) (fun y=>hn (hch b y).1.2) y
theorem Fun.okE {x qual:Str} {st:Stmt} {f:Addr} {fd:FuncData} {N ps:List Str} {k:Nat} {sp:Sp} (F:Fun K x qual st f fd) (S:FnScope N ps (defScope st)) (len:∀vs H Q E,sp vs H Q E->vs.length=ps.length)
  (hbody:∀(cdv:Value) (A:Around) (outer:List Env) (s:Shared) (H:Hp) (vs:List V) (Q:VK) (E:XK),Room k (A.deeper (envOfC qual (defScope st) s.heap.objs.size f cdv))->sp vs H Q E->
   HC (cxOf (CXE P w) P w K mg base N qual (defScope st) f cdv A outer s H E) N (defScope st)->(∀x,(cxOf (CXE P w) P w K mg base N qual (defScope st) f cdv A outer s H E).fn x=true)->
   Lands (cxOf (CXE P w) P w K mg base N qual (defScope st) f cdv A outer s H E) (fun _=>E)->PassesOwn (model P w) (cxOf (CXE P w) P w K mg base N qual (defScope st) f cdv A outer s H E).A (cxOf (CXE P w) P w K mg base N qual (defScope st) f cdv A outer s H E).env (cxOf (CXE P w) P w K mg base N qual (defScope st) f cdv A outer s H E).xe->
   ∃t,ZSs (cxOf (CXE P w) P w K mg base N qual (defScope st) f cdv A outer s H E) (defBody st) t/\t { nx:=fun _ H'=>Q .non H',rt:=Q } (start N vs) H):FnOk P w K mg base (CXE P w) (k+1) f fd ps sp:=by
 obtain ⟨oc,od,kV,doc,pm,an,cdv,ct,osl,rfl,lk,hcd⟩:=F.ex
 refine fn_of lk hcd S len fun A outer s H vs Q E hr hsp=>?_
 obtain ⟨t,h,q⟩:=hbody cdv A outer s H vs Q E hr hsp ⟨rfl,rfl⟩ (fun _=>rfl) lands_cx PassesOwn.leaving
 exact ⟨t,h.to,q⟩
end
section
variable {X:Cx} {k:Nat} {f C:Addr} {fd:FuncData} {ps:List Str} {sp:Sp} {EH:St->XK} {x:Str} {p pos:Pos} {e:Expr} {es:List Expr} {t:TA}
def tCallE (sp:Sp) (EH:St->XK) (t:TA):TE:=fun σ H Q=>t σ H fun vs H1=>sp vs H1 Q (EH σ)
end
end L2
end
section
namespace L2
open PySem PySem.Spec PyProof.Rows
open PySem.W (Frag Looks)
section
variable {X:Cx} {k:Nat} {fI C:Addr} {fd:FuncData} {ps:List Str} {sp:Sp} {EH:St->XK} {x:Str} {np cpos pos:Pos} {a:Expr} {t:TA}
def tRaise0 (C:Addr) (t:TA) (EH:St->XK):TS:=fun _ σ H=>t σ H fun vs H1=>vs.length<=sizeLine/\EH σ (.ref C) none H1
def XNew (e C:Addr) (dx:Option Addr) (t:Addr):Heap->Prop:=fun h=>h.get? e=some (xob C dx t)
theorem xnew_ok {P:Program} {w:World} {H:Hp} {h:Heap} {e C t:Addr} {dx:Option Addr} (z:h.get? e=some (xob C dx t)):ObjOk P w H h e (.ext (XNew e C dx t)):=⟨z,⟨_,z⟩,fun h1 h2 a b=>b _ a⟩
def spInit (C:Addr) (fld:Str):Sp:=fun vs H Q _=>∃e v t,vs=[.ref e,v]/\H e=some (.ext (XNew e C none t))/\∀dx t',H dx=none->dx≠e->Q .non (upd (upd H e (.ext (XNew e C (some dx) t'))) dx (.xd [(fld,v)]))
def delH (H:Hp) (e:Addr):Hp:=fun b=>if b=e then none else H b
theorem delH_self {H:Hp} {e:Addr}:delH H e e=none:=if_pos rfl
theorem delH_ne {H:Hp} {e b:Addr} (h:b≠e):delH H e b=H b:=if_neg h
theorem delH_none {H:Hp} {e b:Addr} (h:H b=none):delH H e b=none:=by
 by_cases hb:b=e
 ·rw [hb];exact delH_self
 ·rw [delH_ne hb];exact h
theorem Inv.forget {pins:List (Addr×Obj)} {σ:St} {H:Hp} {s:Shared} {e:Addr} {φ:Heap->Prop} (I:Inv X pins σ H s) (he:H e=some (.ext φ)):Inv X pins σ (delH H e) s:=by
 have ne:∀{b:Addr} {u:HO},H b=some u->(HO.ext φ≠u)->b≠e:=fun z n=>(ne_of he z n).symm
 have ok:HOk X.prog X.w (delH H e) s.heap:=fun b u z=>by
  by_cases hb:b=e
  ·rw [hb,delH_self] at z;cases z
  ·rw [delH_ne hb] at z
   refine (I.hok b u z).stay (fun _ _ _ q=>q) (fun c q=>?_) fun c xs q=>?_
   ·rw [delH_ne (ne q (by intro z;cases z))];exact q
   ·rw [delH_ne (ne q (by intro z;cases z))];exact q
 refine ⟨I.ok,I.os,I.bare,⟨I.base.keep,I.base.slot,fun b ob z n hx=>delH_none (I.base.free b ob z n hx),I.base.there,fun b xs z=>?_,fun b ob u z=>?_,fun b ps z=>?_⟩,I.loc,I.cell,delH_none I.free,fun x c z=>delH_none (I.freeC x c z),fun p hp=>?_,ok,I.len⟩
 ·have e1:=I.base.tups b xs z
  rw [delH_ne (ne e1 (by intro z;cases z))];exact e1
 ·have e1:=I.base.frzs b ob u z
  rw [delH_ne (ne e1 (by intro z;cases z))];exact e1
 ·obtain ⟨m,e1⟩:=I.base.tbls b ps z
  exact ⟨m,by rw [delH_ne (ne e1 (by intro z;cases z))];exact e1⟩
 ·obtain ⟨p1,p2,p3⟩:=I.pin p hp
  exact ⟨p1,delH_none p2,p3⟩
def tRaise1 (C:Addr) (fld:Str) (t:TE) (EH:St->XK):TS:=fun _ σ H=>t σ H fun v H1=>∀dx,H1 dx=none->EH σ (.ref C) (some dx) (upd H1 dx (.xd [(fld,v)]))
theorem ps_raise1 {fld:Str} {te:TE} (c:XC X.K C) (hi:PySem.W.findIn X.K (.ref C) "__init__" = some (some (.ref fI))) (hf:PySem.W.typeIn X.K (.ref fI)=some (.type "function")) (hk:PySem.W.keepIn X.K (.ref C)=true)
  (F:FnOk X.prog X.w X.K X.mg X.base CX0 k fI fd ps (spInit C fld)) (hb:Binds X.K fd ps []) (hr:Room (k+1) X.A) (hg:Gl X x) (hm:X.mg x=some (.ref C)) (hc:X.calm=true) (L:Lands X EH) (ha:PE X a te)
  (hdb:(x == ("__debug__" : Str))=false:=by decide) (he:starEach [a] X.env=(false,eval a X.env)::starEach [] X.env:=by rfl) (hpl:(backTo cpos (starEach [] X.env)).any (·.1)=false:=by rfl) :
  PS X (.Raise (some (.Call (.Name x np) [a] [] cpos)) none pos) (tRaise1 C fld te EH):=by
 intro pins s σ H D I h
 rw [arm_exec_Raise]
 refine wpAny_bind (wpAny_standAt (xraise c.is (I.ok.hd hc) ?_))
 refine wpAny_bind (wpAny_Call_Name_kw (ld_glob I hg hm ?_ hdb))
 refine PySem.W.callWith_K (h₀:=X.base) I.ok.mod.kin hk (thn (pa_cons ha pa_nil he cpos pins s σ H (fun vs H1=>match vs with | [v]=>(∀dx,H1 dx=none->EH σ (.ref C) (some dx) (upd H1 dx (.xd [(fld,v)]))) | _=>False) I h) fun us s1 ⟨vs,H1,I1,r,q⟩=>⟨I1.kIn,?_⟩) he hpl
 match vs,q,r with
 | [v],q,r=>
  have ul:us.length<=sizeLine:=by rw [<-r.length];show 1<=sizeLine;decide
  refine call_own I1.kIn c.is hi hf (fun h' mk=>?_) ul
  obtain ⟨t,e1,_,_⟩:=mk.there
  have fe:H1 (s1.heap.objs.size+1)=none:=I1.hok.fresh (Nat.le_succ _)
  have I2:=I1.laid (a:=s1.heap.objs.size+1) (o:=.ext (XNew (s1.heap.objs.size+1) C none t)) (t':=s1.toks) mk.keeps (Nat.le_succ _) (xnew_ok e1)
  have fe2:∀H':Hp,H' (s1.heap.objs.size+1)=none->XN X pins H' (s1.heap.objs.size+1):=fun H' z=>.new I1 (Nat.le_succ _) z
  generalize s1.heap.objs.size+1=e at e1 fe I2 fe2
  have hq:spInit C fld [.ref e,v] (upd H1 e (.ext (XNew e C none t))) (fun u H2=>u=.non/\∃dx t',H1 dx=none/\dx≠e/\H2=upd (upd (upd H1 e (.ext (XNew e C none t))) e (.ext (XNew e C (some dx) t'))) dx (.xd [(fld,v)])) E0:=⟨e,v,t,rfl,upd_same,fun dx t' hd hne=>⟨rfl,dx,t',by rwa [upd_ne hne] at hd,hne,rfl⟩⟩
  have r2:Vals [V.ref e,v] (Value.ref e::us):=.cons rfl r
  have hl:(Value.ref e::us).length=ps.length:=by rw [<-r2.length];exact F.len _ _ _ _ hq
  have b:=hb _ (Value.ref e::us) I2.kIn (by rw [List.append_nil];exact hl)
  rw [List.append_nil] at b
  refine wpAny_call (codeAny_mono (F.run _ X.stack _ _ ⟨Value.ref e::us,[]⟩ (Value.ref e::us) _ _ E0 (hr.make C us []) (I2.env0.make C us []) b r2 hq) fun r s' hq'=>?_)
  cases r with
  | error e=>exact False.elim hq'
  | ok fl=>
   cases fl with
   | ret u=>
    obtain ⟨v',H3,I3,rv,rfl,dx,t',hdx,hne,rfl⟩:=I2.after hq'
    have e3:upd (upd (upd H1 e (.ext (XNew e C none t))) e (.ext (XNew e C (some dx) t'))) dx (.xd [(fld,v)]) e=some (.ext (XNew e C (some dx) t')):=by rw [upd_ne hne.symm,upd_same]
    have o3:XNew e C (some dx) t' s'.heap:=(I3.hok e _ e3).1
    have I4:=Inv.forget I3 e3
    have eh:delH (upd (upd (upd H1 e (.ext (XNew e C none t))) e (.ext (XNew e C (some dx) t'))) dx (.xd [(fld,v)])) e=upd H1 dx (.xd [(fld,v)]):=by
     funext b
     by_cases hb:b=e
     ·rw [hb,delH_self,upd_ne hne.symm,fe]
     ·rw [delH_ne hb]
      by_cases hd:b=dx
      ·rw [hd,upd_same,upd_same]
      ·rw [upd_ne hd,upd_ne hd,upd_ne hb,upd_ne hb]
    rw [eh] at I4
    refine ⟨rv,wpAny_bind (wpAny_standAt (wpAny_pure ⟨e,some dx,t',rfl,I4.kIn,o3,L pins σ _ _ e C (some dx) I4 ⟨fe2 _ (by rw [upd_ne hne.symm];exact fe),_,_,o3,.inl rfl⟩ (q dx hdx)⟩))⟩
   | _=>exact False.elim hq'
end
end L2
end
section
namespace L2
open PySem PySem.Spec PyProof.Rows
open PySem.W (Frag Looks)
section
variable {X:Cx} {B:Addr} {x:Str} {np cpos apos pos pos':Pos} {a b o value:Expr} {t:TA} {ta tv:TE} {fld:Str}
def tBase (K:Frag) (t:TA):TE:=fun σ H Q=>t σ H fun vs H1=>∃e C t0 v,vs=[.ref e,v]/\H1 e=some (.ext (XNew e C none t0))/\XC K C/\∀t',Q .non (upd H1 e (.ext (XNew e C none t')))
theorem base_ok {pins:List (Addr×Obj)} {σ:St} {H1:Hp} {s1:Shared} {us:List Value} {vs:List V} {Q:VK} {A:Around} {E:Value->Shared->Prop} (I1:Inv X pins σ H1 s1) (r:Vals vs us)
  (h:∃e C t0 v,vs=[.ref e,v]/\H1 e=some (.ext (XNew e C none t0))/\XC X.K C/\∀t',Q .non (upd H1 e (.ext (XNew e C none t')))):wpAny (model X.prog X.w) A (call (.builtin "ValueError.__init__") us) (EP X pins σ Q) E s1:=by
 obtain ⟨e,C,t0,v,rfl,he,c,q⟩:=h
 obtain ⟨u1,u2,rfl,r1,r2⟩:=r.two
 obtain rfl:u1=Value.ref e:=r1
 have o1:s1.heap.get? e=some (xob C none t0):=(I1.hok e _ he).1
 have e1:(s1.heap.push { cls:=.type "tuple",data:=.seq [u2].toArray }).get? e=some (xob C none t0):=Heap.get?_push_of_some _ o1
 have e2:((s1.heap.push { cls:=.type "tuple",data:=.seq [u2].toArray }).update e (Obj.mapFields (·.setIfInBounds 0 (Value.ref s1.heap.objs.size)))).get? e=some (xob C none s1.heap.objs.size):=(Heap.get?_update_self _ e1 rfl).trans rfl
 have k2:∀b ob,b≠e->s1.heap.get? b=some ob->((s1.heap.push { cls:=.type "tuple",data:=.seq [u2].toArray }).update e (Obj.mapFields (·.setIfInBounds 0 (Value.ref s1.heap.objs.size)))).get? b=some ob:=fun b ob hb z=>(Heap.get?_update_other _ _ hb.symm).trans (Heap.get?_push_of_some _ z)
 refine base_init I1.kIn c.is o1 ?_ (show 1<=sizeLine by decide)
 generalize ((s1.heap.push { cls:=.type "tuple",data:=.seq [u2].toArray }).update e (Obj.mapFields (·.setIfInBounds 0 (Value.ref s1.heap.objs.size))))=h2 at e2 k2 ⊢
 exact ⟨.non,_,I1.write (x:=e) (e:=e) (o:=.ext (XNew e C none s1.heap.objs.size)) (t':=s1.toks) (by rw [he];trivial) (.inl rfl) (fun b ob hb z=>k2 b ob hb z) ⟨_,e2⟩ (xnew_ok e2),rfl,q _⟩
theorem pe_base {pl:Sem Bool} (hr:PySem.W.readsIn X.K B (.type "type")=true) (hf:PySem.W.findCls X.K (.ref B) (.type "type") "__init__" = some (.val (.builtin "ValueError.__init__")))
  (hs:PySem.W.specialIn X.K (.ref B) "__getattribute__" = some (some (.builtin "type.__getattribute__"))) (hg:Gl X x) (hm:X.mg x=some (.ref B)) (ha:PA X [a,b] t)
  (hdb:(x == ("__debug__" : Str))=false:=by decide) (hst:starEach [a,b] X.env=(false,eval a X.env)::starEach [b] X.env:=by rfl) (hpl:(backTo cpos (starEach [b] X.env)).any (·.1)=false:=by rfl)
  (ht:eval (.Call (.Attribute (.Name x np) "__init__" apos) [a,b] [] cpos) X.env=(do
   let ov <-eval (.Name x np) X.env
   standAt apos.atName
   let (f,first) <-holding [ov] (getMethod ov "__init__" pl)
   callWith cpos f first (backTo cpos (starEach [a,b] X.env)) (backToKw cpos (keywordEach [] X.env))):=by rfl) :
  PE X (.Call (.Attribute (.Name x np) "__init__" apos) [a,b] [] cpos) (tBase X.K t):=by
 intro pins s σ H Q I h
 refine PySem.W.methodCall_KW (pl:=pl) (ld_glob I hg hm ?_ hdb) ht
 refine PySem.W.method_cls I.kIn hs (PySem.W.cls_value I.kIn hr hf rfl ?_)
 have I0:Inv X pins σ H { s with toks:=s.toks+1 }:=I.tok _
 show wpAny _ _ (callWith cpos (.builtin "ValueError.__init__") [] (backTo cpos (starEach [a,b] X.env)) []) _ _ _
 exact PyProof.Rows.callWith_builtin1 (thn (ha cpos pins _ σ H _ I0 h) fun us s1 ⟨vs,H1,I1,r,q⟩=>base_ok I1 r q) hst hpl
def sXFld (K:Frag) (ta tv:TE) (fld:Str):TS:=fun D σ H=>tv σ H fun y H1=>ta σ H1 fun x H2=>∃e C t,x=.ref e/\H2 e=some (.ext (XNew e C none t))/\XC K C/\PySem.W.takerIn K C fld=some none/\
 ∀dx,H2 dx=none->dx≠e->D.nx σ (upd (upd H2 e (.ext (XNew e C (some dx) t))) dx (.xd [(fld,y)]))
theorem ps_xfld (ha:PE X o ta) (hv:PE X value tv) (hs:swapsWith value (some (.Attribute o fld pos')) pos.line X.env=pure false):PS X (.Assign [.Attribute o fld pos'] value pos) (sXFld X.K ta tv fld):=by
 intro pins s σ H D I h
 refine plainObj_wpAny_Assign_Attribute (thn (hv pins s σ H _ I h) fun u s1 ⟨y,H1,I1,ry,q⟩=>thn (ha pins s1 σ H1 _ I1 q) fun ov s2 ⟨x,H2,I2,rx,e,C,t,ex,he,c,tk,q2⟩=>?_) hs
 subst ex
 obtain rfl:ov=Value.ref e:=rx
 have o2:s2.heap.get? e=some (xob C none t):=(I2.hok e _ he).1
 refine xset I2.kIn c.is o2 rfl rfl rfl c.sa tk fun h' tk' e3 n3 k3=>?_
 have hd:H2 s2.heap.objs.size=none:=I2.hok.fresh (Nat.le_refl _)
 have hde:s2.heap.objs.size≠e:=Nat.ne_of_gt (Heap.lt_size o2)
 have hdn:s2.heap.get? s2.heap.objs.size=none:=Heap.get?_none_of_le (Nat.le_refl _)
 generalize s2.heap.objs.size=dx at e3 n3 hd hde hdn
 have U:∀{b:Addr},b≠e->b≠dx->upd (upd H2 e (.ext (XNew e C (some dx) t))) dx (.xd [(fld,y)]) b=H2 b:=fun h1 h2=>by rw [upd_ne h2,upd_ne h1]
 have ne:∀{b:Addr} {z:HO},H2 b=some z->(HO.ext (XNew e C none t)≠z)->b≠e:=fun z n=>(ne_of he z n).symm
 have nd:∀{b:Addr} {z:HO},H2 b=some z->b≠dx:=fun z y=>by rw [y,hd] at z;cases z
 have nb:∀{b:Addr} {z:Obj},s2.heap.get? b=some z->b≠dx:=fun z y=>by rw [y,hdn] at z;cases z
 have nn:∀{b:Addr},H2 b=none->b≠e:=fun z y=>by rw [y,he] at z;cases z
 refine ⟨σ,_,I2.un (H':=upd (upd H2 e (.ext (XNew e C (some dx) t))) dx (.xd [(fld,y)])) (t':=tk') ⟨fun b ob z n _ _=>k3 b ob (nn n) z,fun b ob z n _ _=>⟨ob.slots,k3 b ob (nn n) z⟩,fun b ob z n _=>by rw [U (nn n) (nb z)];exact n,fun b ob z _=>?_,fun b xs z=>?_,fun b ob z' z=>?_,fun b ps z=>⟨#[],?_⟩⟩ fun b z hz=>?_,q2 dx hd hde⟩
 ·by_cases hb:b=e
  ·rw [hb];exact ⟨_,e3⟩
  ·exact ⟨ob,k3 b ob hb z⟩
 ·rw [U (ne z (by intro z;cases z)) (nd z)];exact z
 ·rw [U (ne z (by intro z;cases z)) (nd z)];exact z
 ·rw [U (ne z (by intro z;cases z)) (nd z),z];simp
 ·by_cases hb:b=dx
  ·rw [hb,upd_same] at hz
   cases hz
   rw [hb]
   refine ⟨_,n3,fun f=>?_⟩
   by_cases hf:f=fld
   ·rw [hf,if_pos rfl]
    simp only [List.lookup,beq_self_eq_true]
    exact ry
   ·rw [if_neg hf]
    have:(f == fld)=false:=beq_eq_false_iff_ne.mpr hf
    simp only [List.lookup,this]
    trivial
  ·rw [upd_ne hb] at hz
   by_cases hb2:b=e
   ·rw [hb2,upd_same] at hz
    cases hz
    rw [hb2]
    exact xnew_ok e3
   ·rw [upd_ne hb2] at hz
    refine (I2.hok b z hz).stay (fun c v hc y=>k3 c v ?_ y) (fun c y=>?_) fun c xs y=>?_
    ·rcases hc with rfl | hc
     ·exact hb2
     ·exact ne hc (by intro z;cases z)
    ·rw [U (ne y (by intro z;cases z)) (nd y)];exact y
    ·rw [U (ne y (by intro z;cases z)) (nd y)];exact y
end
end L2
end
section
namespace L2
open PySem PySem.Spec PyProof.Rows
open PySem.W (Frag Looks)
def XOb (e C:Addr) (dx:Option Addr):Heap->Prop:=fun h=>∃vs sl,h.get? e=some ⟨.ref C,dx,.fields vs,sl⟩
section
variable {X:Cx} {pins:List (Addr×Obj)} {σ:St} {H:Hp} {s:Shared} {e C:Addr} {dx:Option Addr}
theorem Inv.left {ch:List Addr} {h':Heap} (I:Inv X pins σ H s) (hch:∀b∈ch,XN X pins H b) (lv:Lv (frs X.stack) ch s.heap h'):Inv X pins σ H { s with heap:=h' }:=by
 refine I.call (H':=H) (g':=s.gens) (t':=s.toks) (d':=s.drawn) (ch:=ch) ⟨fun b o z n hb hc=>lv.keep b o hb hc z,fun b o z n hb hc=>lv.slot b o hb z,fun _ _ _ n _=>n,fun b o z hc=>?_,fun _ _ z=>z,fun _ _ _ z=>z,fun b ps z=>⟨#[],by rw [z];simp⟩⟩ (fun a u z=>?_) I.bare fun b hb=>?_
 ·by_cases hb:b∈frs X.stack
  ·obtain ⟨sl,q⟩:=lv.slot b o hb z
   exact ⟨_,q⟩
  ·exact ⟨o,lv.keep b o hb hc z⟩
 ·refine (I.hok a u z).stay (fun b v hb y=>?_) (fun _ q=>q) fun _ _ q=>q
  have hn:¬H b=none:=fun y=>by
   rcases hb with rfl | hb
   ·rw [z] at y;cases y
   ·rw [hb] at y;cases y
  exact lv.keep b v (fun y=>hn (I.stkFree b y)) (fun y=>hn (hch b y).2.1) y
 ·obtain ⟨a,b,c,d,e⟩:=hch b hb
  exact ⟨.inr a,c,d,e⟩
theorem Inv.adopt {φ:Heap->Prop} (I:Inv X pins σ H s) (n:XN X pins H e) (hφ:ObjOk X.prog X.w (upd H e (.ext φ)) s.heap e (.ext φ)):Inv X pins σ (upd H e (.ext φ)) s:=by
 obtain ⟨n1,n2,n3,n4,n5⟩:=n
 have ne:∀{b:Addr} {u:HO},H b=some u->b≠e:=fun z y=>by rw [y,n2] at z;cases z
 have n0:∀{b:Addr} {o:Obj},X.s₀.heap.get? b=some o->b≠e:=fun z y=>absurd (Heap.lt_size z) (by rw [y];exact Nat.not_lt.mpr n1)
 refine ⟨I.ok,I.os,I.bare,⟨I.base.keep,I.base.slot,fun b ob z n hx=>by rw [upd_ne (n0 z)];exact I.base.free b ob z n hx,I.base.there,fun b xs z=>?_,fun b ob u z=>?_,fun b ps z=>?_⟩,I.loc,I.cell,by rw [upd_ne n3.symm];exact I.free,fun x c z=>by rw [upd_ne (n4 x c z)];exact I.freeC x c z,fun p hp=>?_,fun b u z=>?_,I.len⟩
 ·have e1:=I.base.tups b xs z
  rw [upd_ne (ne e1)];exact e1
 ·have e1:=I.base.frzs b ob u z
  rw [upd_ne (ne e1)];exact e1
 ·obtain ⟨m,e1⟩:=I.base.tbls b ps z
  exact ⟨m,by rw [upd_ne (ne e1)];exact e1⟩
 ·obtain ⟨p1,p2,p3⟩:=I.pin p hp
  exact ⟨p1,by rw [upd_ne (n5 p hp)];exact p2,p3⟩
 ·by_cases hb:b=e
  ·subst hb;rw [upd_same] at z;cases z;exact hφ
  ·rw [upd_ne hb] at z
   exact (I.hok b u z).stay (fun _ _ _ q=>q) (fun c q=>by rw [upd_ne (ne q)];exact q) fun c xs q=>by rw [upd_ne (ne q)];exact q
theorem xob_ok {P:Program} {w:World} {H:Hp} {h:Heap} (z:XOb e C dx h):ObjOk P w H h e (.ext (XOb e C dx)):=⟨z,let ⟨_,_,q⟩:=z;⟨_,q⟩,fun h1 h2 ⟨vs,sl,a⟩ b=>⟨vs,sl,b _ a⟩⟩
theorem Inv.unbound {i:Nat} {x:Str} {m:Str->Option Value} {u:Option Value} {h':Heap} (I:Inv X pins σ H s) (hN:X.N.Nodup) (hi:X.N[i]? = some x) (hk:X.env.scope.names.lookup x=some .local)
  (hm:s.heap.Ns X.env.locals m) (hn:h'.Ns X.env.locals (fun y=>if y=x then u else m y)) (hs:Heap.SameBut X.env.locals s.heap h'):Inv X pins (σ.set i none) H { s with heap:=h' }:=by
 have hiσ:i < σ.length:=by rw [I.len];exact (List.getElem?_eq_some_iff.mp hi).1
 obtain ⟨m0,hn0,hl⟩:=id I.loc
 have nL:∀{b:Addr} {o:Obj},X.s₀.heap.get? b=some o->b≠X.env.locals:=fun z=>Nat.ne_of_lt (Nat.lt_of_lt_of_le (Heap.lt_size z) I.ok.above)
 have em:∀y,m0 y=m y:=fun y=>by
  obtain ⟨o,es,ep,ho,hd,_,r⟩:=hn0
  obtain ⟨o',es',ep',ho',hd',_,r'⟩:=hm
  rw [ho] at ho';cases ho'
  rw [hd] at hd';cases hd'
  rw [<-r y,<-r' y]
 refine ⟨I.ok,I.os,I.bare,⟨fun b o z n hb hx=>(hs.2 b (nL z)).trans (I.base.keep b o z n hb hx),fun b o z n hb hx=>?_,I.base.free,fun b o z hx=>?_,I.base.tups,I.base.frzs,I.base.tbls⟩,⟨_,hn,fun j y v e1 e2 e3=>?_⟩,fun y c z=>?_,I.free,I.freeC,fun p hp=>?_,fun b ob z=>?_,by rw [List.length_set];exact I.len⟩
 ·obtain ⟨sl,q⟩:=I.base.slot b o z n hb hx
  exact ⟨sl,(hs.2 b (nL z)).trans q⟩
 ·obtain ⟨o',q⟩:=I.base.there b o z hx
  exact ⟨o',(hs.2 b (nL z)).trans q⟩
 ·by_cases hj:j=i
  ·subst hj
   rw [List.getElem?_set_self hiσ] at e2
   cases e2
  ·rw [List.getElem?_set_ne (Ne.symm hj)] at e2
   obtain ⟨u',r',q⟩:=hl j y v e1 e2 e3
   refine ⟨u',r',?_⟩
   rcases q with ⟨k,z⟩ | ⟨k,c,z,y'⟩
   ·refine .inl ⟨k,?_⟩
    have:y≠x:=fun z=>hj (nodup_ix hN e1 (z ▸ hi))
    dsimp only
    rw [if_neg this,<-em];exact z
   ·exact .inr ⟨k,c,z,y'.sameBut hs (I.cne y c z)⟩
 ·obtain ⟨w',q⟩:=I.cell y c z
  exact ⟨w',q.sameBut hs (I.cne y c z)⟩
 ·obtain ⟨p1,p2,p3,p4⟩:=I.pin p hp
  exact ⟨(hs.2 _ p3).trans p1,p2,p3,p4⟩
 ·refine (I.hok b ob z).stay (fun c v hc q=>(hs.2 c fun y=>?_).trans q) (fun _ q=>q) fun _ _ q=>q
  rcases hc with rfl | hc
  ·rw [y,I.free] at z;cases z
  ·rw [y,I.free] at hc;cases hc
theorem xmatch {prog:Program} {w:World} {A:Around} {E:Value->Shared->Prop} {K:Frag} {B:Addr} {Q:Bool->Shared->Prop} (X:K.In s.heap) (q:xcIn K B=true) (hs:PySem.W.subIn K (.ref C) (.ref B)=some true) (he:XOb e C dx s.heap) (h:Q true s) :
  wpAny (model prog w) A (excMatches (.ref e) (.ref B)) Q E s:=by
 obtain ⟨nm,qn,N,bs,bm,sn,sub,ab,col,dd,k0,k1,k2,k3,k5,mN,hC,hN,T⟩:=xc_of X q
 have hb:(Value.ref B::bm).contains (.type "BaseException")=true:=by rw [List.contains_cons,T.hasType (X:="BaseException") (b:=true) (by decide +kernel),Bool.or_true]
 obtain ⟨vs,sl,o1⟩:=he
 have L:=PySem.W.looks_subIn (M:=model prog w) X hs
 obtain ⟨hp,g,d,tk,os⟩:=s
 dsimp only at hC o1 L
 have f:=tc_notTuple
 unfold excMatches
 repeat (first | with_reducible refine wpAny_loadPart_at o1 ?_ | with_reducible refine wpAny_loadPart_at hC ?_ | (with_reducible refine wpAny_isSubtype_exc hC ?_;rw [hb]) | with_reducible refine L.at ?_ | wp_step)
 exact h
end
@[reducible] def Cx.tri (X:Cx) (xe:Value->Shared->Prop) (pn:List (Addr×Obj)):Cx:={ X with xe:=xe,pn:=pn }
@[reducible] def Cx.sui (X:Cx) (e:Addr):Cx:={ X with A:=X.A.mark (some (.ref e)),calm:=false,xe:=fun _ _=>False }
section
variable {X:Cx} {pins pins':List (Addr×Obj)} {σ:St} {H:Hp} {s:Shared} {e:Addr} {xe:Value->Shared->Prop}
theorem Inv.tri (I:Inv X pins σ H s):Inv (X.tri xe (X.pn++pins)) [] σ H s:=
 ⟨⟨I.ok.mod,I.ok.kind,I.ok.glob,I.ok.blt,I.ok.above,I.ok.inj,I.ok.has,I.ok.cab,I.ok.hd,I.ok.frames,I.ok.stk,I.ok.exf,I.ok.bs,I.ok.bsz,I.ok.noex,I.ok.exfs,I.ok.funs,I.ok.frf⟩,I.os,I.bare,I.base,I.loc,I.cell,I.free,I.freeC,fun p hp=>I.pin p (by rw [List.append_nil] at hp;exact hp),I.hok,I.len⟩
theorem Inv.untri (I:Inv (X.tri xe (X.pn++pins)) pins' σ H s):Inv X pins σ H s:=
 ⟨⟨I.ok.mod,I.ok.kind,I.ok.glob,I.ok.blt,I.ok.above,I.ok.inj,I.ok.has,I.ok.cab,I.ok.hd,I.ok.frames,I.ok.stk,I.ok.exf,I.ok.bs,I.ok.bsz,I.ok.noex,I.ok.exfs,I.ok.funs,I.ok.frf⟩,I.os,I.bare,I.base,I.loc,I.cell,I.free,I.freeC,fun p hp=>I.pin p (List.mem_append_left _ hp),I.hok,I.len⟩
theorem Inv.sui (I:Inv X pins σ H s):Inv (X.sui e) pins σ H s:=
 ⟨⟨I.ok.mod,I.ok.kind,I.ok.glob,I.ok.blt,I.ok.above,I.ok.inj,I.ok.has,I.ok.cab,fun z=>Bool.noConfusion z,I.ok.frames,I.ok.stk,I.ok.exf,I.ok.bs,I.ok.bsz,I.ok.noex,I.ok.exfs,I.ok.funs,I.ok.frf⟩,I.os,I.bare,I.base,I.loc,I.cell,I.free,I.freeC,I.pin,I.hok,I.len⟩
theorem Inv.unsui (ok:X.Ok) (I:Inv (X.sui e) pins σ H s):Inv X pins σ H s:=⟨ok,I.os,I.bare,I.base,I.loc,I.cell,I.free,I.freeC,I.pin,I.hok,I.len⟩
end
def Ends.unb (D:Ends) (i:Nat):Ends:={ nx:=fun σ H=>D.nx (σ.set i none) H,rt:=D.rt,bk:=fun σ H=>D.bk (σ.set i none) H,ct:=fun σ H=>D.ct (σ.set i none) H }
def tTry (K:Frag) (i:Nat) (B:Addr) (tb:(St->XK)->TS) (ts:TS):TS:=fun D σ H=>∃EH:St->XK,tb EH D σ H/\∀σ' C dx H',EH σ' (.ref C) dx H'->PySem.W.subIn K (.ref C) (.ref B)=some true/\∀e,H' e=none->ts (D.unb i) (σ'.set i (some (.ref e))) (upd H' e (.ext (XOb e C dx)))
section
variable {X:Cx} {B:Addr} {x n:Str} {np hpos pos:Pos} {body suite:List Stmt} {b₀:Stmt} {tb:(St->XK)->TS} {ts:TS} {i:Nat}
theorem unbind_ok {pins:List (Addr×Obj)} {σ:St} {H:Hp} {s:Shared} {M:Model} {A:Around} {E:Value->Shared->Prop} {Q:Unit->Shared->Prop} (I:Inv X pins σ H s) (hN:X.N.Nodup) (hi:X.N[i]? = some n) (hk:X.env.scope.names.lookup n=some .local)
  (h:∀s',Inv X pins (σ.set i none) H s'->Q () s'):wpAny M A (do bindName X.env n .none;unbindBehindTheSuite X.env n hpos) Q E s:=by
 have hcls:(X.env.scope.kind == .class || (X.env.scope.kind == .module && X.env.locals != X.env.globals))=false:=by rw [I.ok.kind];rfl
 unfold bindName
 refine wpAny_bind (wpAny_bind (wpAny_holding (wpAny_point (wpAny_bind (store_ok (v:=.non) I hN hi (.inl hk) rfl (fun s1 I1=>wpAny_point ?_) (.inr hk))))))
 unfold unbindBehindTheSuite
 refine wpAny_onRaise ?_
 obtain ⟨m,hm,hl⟩:=id I1.loc
 have hiσ:i < σ.length:=by rw [I.len];exact (List.getElem?_eq_some_iff.mp hi).1
 obtain ⟨u,ru,lk⟩:=hl i n .non hi (by rw [List.getElem?_set_self hiσ]) (.inl hk)
 have hv:∃v,m n=some v:=by
  rcases lk with ⟨_,z⟩ | ⟨k,_⟩
  ·exact ⟨_,z⟩
  ·exfalso
   rcases k with k | k
   ·rw [show X.env.kindOf n=X.env.scope.names.lookup n from rfl,hk] at k;cases k
   ·rw [show X.env.kindOf n=X.env.scope.names.lookup n from rfl,hk] at k;cases k
 obtain ⟨v,hv⟩:=hv
 refine wpAny_unbindName_local hk hm hv hcls fun h' u hn' hs'=>h _ ?_
 have I2:=I1.unbound hN hi hk hm hn' hs'
 rwa [List.set_set] at I2
end
end L2
end
section
namespace L2
open PySem PySem.Spec PyProof.Rows
open PySem.W (Frag Looks)
section
variable {X:Cx} {B:Addr} {x n:Str} {np hpos pos:Pos} {body suite:List Stmt} {b₀:Stmt} {tb:(St->XK)->TS} {ts:TS} {i:Nat}
theorem xflight {M:Model} {A:Around} {E:Value->Shared->Prop} {s:Shared} {N:Addr->Prop} {e C:Addr} {dx:Option Addr} {fs:List Addr} {Q:Unit->Shared->Prop} (hfs:∀b∈fs,∀o vs,s.heap.get? b=some o->o.data≠.fields vs) (x:XAt N s.heap e C dx)
  (h:∀h' ch,(∀b∈ch,N b)->XAt N h' e C dx->Lv fs ch s.heap h'->Q () { s with heap:=h' }):wpAny M A (setFlight (.ref e) none) Q E s:=by
 obtain ⟨ne,vs,sl,he,tb⟩:=x
 rcases tb with h1 | ⟨T,oT,ts,nT,hTe,h1,hT,dT,h3⟩
 ·unfold setFlight
  refine wpAny_bind (wpAny_field he rfl h1 ?_)
  rw [if_neg (by decide)]
  exact wpAny_pure (h s.heap [] (fun b hb=>absurd hb (by simp)) ⟨ne,vs,sl,he,.inl h1⟩ ⟨fun b o _ _ z=>z,fun b o _ z=>⟨o.slots,z⟩⟩)
 ·have z3:=(Array.getElem?_eq_some_iff.mp h3).1
  refine xland he rfl h1 hT dT z3 ?_
  have ot:∀b o,b≠T->s.heap.get? b=some o->(s.heap.update T (Obj.mapFields (·.setIfInBounds 3 Value.none))).get? b=some o:=fun b o hb z=>(Heap.get?_update_other _ _ hb.symm).trans z
  have t4:=Heap.get?_update_self (Obj.mapFields (·.setIfInBounds 3 Value.none)) hT (Obj.isFreed_of_fields (Obj.data_mapFields dT _))
  refine h _ [T] (fun b hb=>by rw [List.mem_singleton.mp hb];exact nT) ⟨ne,vs,sl,ot _ _ hTe.symm he,.inr ⟨T,_,_,nT,hTe,h1,t4,Obj.data_mapFields dT _,by simp [z3]⟩⟩ ⟨fun b o _ hb z=>ot b o (fun y=>hb (by rw [y];simp)) z,fun b o hb z=>⟨o.slots,ot b o (fun y=>?_) z⟩⟩
  subst y
  rw [hT] at z
  cases z
  exact hfs b hb oT ts hT dT
theorem caught {pins:List (Addr×Obj)} {σ:St} {H:Hp} {s:Shared} {e C:Addr} {dx:Option Addr} {D:Ends} (I:Inv X pins σ H s) (hst:X.stack=X.env::X.outer) (hfr:X.env.frame=some X.env.locals) (hN:X.N.Nodup) (hi:X.N[i]? = some n) (hk:X.env.scope.names.lookup n=some .local) (q:xcIn X.K B=true) (hg:Gl X x) (hm:X.mg x=some (.ref B))
  (hs:∀e,PSs (X.sui e) (b₀::suite) ts) (xa:XAt (XN X pins H) s.heap e C dx) (sb:PySem.W.subIn X.K (.ref C) (.ref B)=some true) (h:ts (D.unb i) (σ.set i (some (.ref e))) (upd H e (.ext (XOb e C dx)))) (hdb:(x == ("__debug__" : Str))=false:=by decide) :
  wpAny (model X.prog X.w) X.A (noteFrame (.ref e) X.env) (fun _ s₂=>wpAny (model X.prog X.w) X.A (setFlight (.ref e) none) (fun _ s₃=>wpAny (model X.prog X.w) X.A (handleBy (.ref e) X.env [.ExceptHandler (some (.Name x np)) (some n) (b₀::suite) hpos]) (SP X pins D) X.xe s₃) X.xe s₂) X.xe s:=by
 have hf0:=I.ok.frames
 have st0:=I.stack
 rw [hst] at hf0 st0
 refine xleave (L:=X.env.locals) (base:=X.base) hf0 st0 hfr (fun b hb=>.new I hb (I.hok.fresh hb)) xa fun h' ch hch xa' lv=>?_
 rw [<-hst] at lv
 have I1:=I.left (fun b hb=>(hch b hb).1) lv
 obtain ⟨ne,vs,sl,o1,tb1⟩:=xa'
 refine wpAny_handleBy_cons (codeAny_handlers_test (ld_glob (X:=X.sui e) I1.sui hg hm (xmatch I1.kIn q sb ⟨vs,sl,o1⟩ ?_) hdb)) (by intro z;cases z)
 show codeAny _ _ _ _ _
 refine codeAny_handlers_suite_as (xflight (fs:=frs X.stack) (N:=XN X pins H) (fun b hb o ws z=>?_) ⟨ne,vs,sl,o1,tb1⟩ fun h2 ch2 hch2 xa2 lv2=>?_)
 ·obtain ⟨_,o',z',nd⟩:=I1.stack.mem hb
  rw [z] at z';cases z'
  exact nd ws
 have I2:=I1.left hch2 lv2
 obtain ⟨ne2,vs2,sl2,o2,_⟩:=xa2
 have I3:=(I2.adopt (φ:=XOb e C dx) ne2 (xob_ok ⟨vs2,sl2,o2⟩)).sui (e:=e)
 refine store_ok (X:=X.sui e) (v:=.ref e) I3 hN hi (.inl hk) rfl (fun s4 I4=>?_) (.inr hk)
 refine wpAny_mono (hs e pins s4 _ _ (D.unb i) I4 h) (fun f s5 q5=>?_) fun _ _ z=>False.elim z
 show wpAny _ _ (do bindName X.env n .none;unbindBehindTheSuite X.env n hpos) _ _ _
 cases f with
 | next=>
  obtain ⟨σ5,H5,I5,q5⟩:=q5
  exact unbind_ok (I5.unsui I.ok) hN hi hk fun s6 I6=>⟨_,H5,I6,q5⟩
 | brk=>
  obtain ⟨σ5,H5,I5,q5⟩:=q5
  exact unbind_ok (I5.unsui I.ok) hN hi hk fun s6 I6=>⟨_,H5,I6,q5⟩
 | cont=>
  obtain ⟨σ5,H5,I5,q5⟩:=q5
  exact unbind_ok (I5.unsui I.ok) hN hi hk fun s6 I6=>⟨_,H5,I6,q5⟩
 | ret u=>
  obtain ⟨v,σ5,H5,I5,ru,q5⟩:=q5
  exact unbind_ok (I5.unsui I.ok) hN hi hk fun s6 I6=>⟨v,_,H5,I6,ru,q5⟩
theorem ps_try (hst:X.stack=X.env::X.outer) (hfr:X.env.frame=some X.env.locals) (hN:X.N.Nodup) (hi:X.N[i]? = some n) (hk:X.env.scope.names.lookup n=some .local) (q:xcIn X.K B=true) (hg:Gl X x) (hm:X.mg x=some (.ref B))
  (hb:∀(EH:St->XK) (xe:Value->Shared->Prop) (pn:List (Addr×Obj)),Lands (X.tri xe pn) EH->PassesOwn (model X.prog X.w) X.A X.env xe->PSs (X.tri xe pn) body (tb EH)) (hs:∀e,PSs (X.sui e) (b₀::suite) ts) (hdb:(x == ("__debug__" : Str))=false:=by decide) :
  PS X (.Try body [.ExceptHandler (some (.Name x np)) (some n) (b₀::suite) hpos] [] [] pos) (tTry X.K i B tb ts):=by
 intro pins s σ H D I h
 obtain ⟨EH,h1,h2⟩:=h
 refine wpAny_Try_except ?_
 have L:Lands (X.tri (fun v s₁=>wpAny (model X.prog X.w) X.A (noteFrame v X.env) (fun _ s₂=>wpAny (model X.prog X.w) X.A (setFlight v none) (fun _ s₃=>wpAny (model X.prog X.w) X.A (handleBy v X.env [.ExceptHandler (some (.Name x np)) (some n) (b₀::suite) hpos]) (SP X pins D) X.xe s₃) X.xe s₂) X.xe s₁) (X.pn++pins)) EH:=by
  intro pins' σ' H' s' e C dx I' xa' q'
  obtain ⟨sb,hts⟩:=h2 σ' C dx H' q'
  refine caught I'.untri hst hfr hN hi hk q hg hm hs (xa'.mono fun b hb=>⟨hb.1,hb.2.1,hb.2.2.1,hb.2.2.2.1,fun p hp=>hb.2.2.2.2 p (List.mem_append_left _ hp)⟩) sb (hts e xa'.1.2.1) hdb
 refine wpAny_mono (hb EH _ _ L PassesOwn.looking [] s σ H D I.tri h1) (fun f s1 q1=>?_) fun _ _ z=>z
 cases f with
 | next=>
  obtain ⟨σ1,H1,I1,q1⟩:=q1
  exact wpAny_pure ⟨σ1,H1,I1.untri,q1⟩
 | brk=>
  obtain ⟨σ1,H1,I1,q1⟩:=q1
  exact ⟨σ1,H1,I1.untri,q1⟩
 | cont=>
  obtain ⟨σ1,H1,I1,q1⟩:=q1
  exact ⟨σ1,H1,I1.untri,q1⟩
 | ret u=>
  obtain ⟨v,σ1,H1,I1,ru,q1⟩:=q1
  exact ⟨v,σ1,H1,I1.untri,ru,q1⟩
end
end L2
end
section
namespace L2
open PySem PySem.Spec PyProof.Rows
open PySem.W (Frag Looks)
def XDict (H:Hp) (dx:Option Addr):Prop:=∀d,dx=some d->∃fs,H d=some (.xd fs)
section
variable {X:Cx} {pins:List (Addr×Obj)} {σ:St} {H:Hp} {s:Shared} {e C:Addr} {dx:Option Addr}
def qIsiXT (K:Frag):List V->Hp->VK->Prop:=fun vs H Q=>∃e T,vs=[.ref e,.ty T]/\∃C dx,H e=some (.ext (XOb e C dx))/\XDict H dx/\XC K C/\∃b,PySem.W.kitOne K (.ref C) (.type T)=some b/\Q (.bl b) H
def qIsiXC (K:Frag):List V->Hp->VK->Prop:=fun vs H Q=>∃e D,vs=[.ref e,.ref D]/\∃C dx,H e=some (.ext (XOb e C dx))/\XDict H dx/\XC K C/\∃b,PySem.W.kitOne K (.ref C) (.ref D)=some b/\Q (.bl b) H
def qIsiXA (K:Frag):List V->Hp->VK->Prop:=fun vs H Q=>∃e p,vs=[.ref e,.ref p]/\∃Ds:List Addr,H p=some (.tup (Ds.map V.ref))/\∃C dx,H e=some (.ext (XOb e C dx))/\XDict H dx/\XC K C/\∃b,PySem.W.kitAny K (.ref C) (Ds.map Value.ref)=some b/\Q (.bl b) H
def tFldX (K:Frag) (ta:TE) (f:Str):TE:=fun σ H Q=>ta σ H fun x H1=>∃e,x=.ref e/\∃C dx,H1 e=some (.ext (XOb e C (some dx)))/\XC K C/\PySem.W.findIn K (.ref C) f=some none/\∃fs,H1 dx=some (.xd fs)/\∃v,fs.lookup f=some v/\Q v H1
theorem pe_fldX {o:Expr} {f:Str} {pos:Pos} {ta:TE} (he:PE X o ta) (hb:attributeBase o f X.env (eval o X.env)=eval o X.env):PE X (.Attribute o f pos) (tFldX X.K ta f):=by
 intro pins s σ H Q I h
 refine attr_of hb (thn (he pins s σ H _ I h) fun u s1 ⟨x,H1,I1,rx,e,ex,C,dx,ee,c,nf,fs,hd,v,lk,q⟩=>?_)
 subst ex
 obtain rfl:u=Value.ref e:=rx
 obtain ⟨vs,sl,o1⟩:=(I1.hok e _ ee).1
 obtain ⟨mA,n,rel⟩:=I1.hok dx _ hd
 obtain ⟨od,ho,hl⟩:=lookIn_ns n
 obtain ⟨u,hu,ru⟩:=RelO.some_of (v:=v) (o:=mA f) (by rw [<-lk];exact rel f)
 exact xget I1.kIn c.is ⟨o1,rfl,rfl,ho⟩ c.ga c.gn (PySem.W.findObj_own c.hd nf rfl (by rw [hl,hu])) (handed_of ru) ⟨v,H1,I1.tok _,ru,q⟩
end
end L2
end
section
namespace L2
open PySem PySem.Spec PyProof.Rows
open PySem.W (Frag Looks)
section
variable {X:Cx} {N:List Str} {sc:Scope}
theorem hcT {xe:Value->Shared->Prop} {pn:List (Addr×Obj)} (h:HC X N sc):HC (X.tri xe pn) N sc:=⟨h.n,h.s⟩
theorem hfT {xe:Value->Shared->Prop} {pn:List (Addr×Obj)} (h:∀x,X.fn x=true):∀x,(X.tri xe pn).fn x=true:=h
theorem hfS {e:Addr} (h:∀x,X.fn x=true):∀x,(X.sui e).fn x=true:=h
theorem hcS {e:Addr} (h:HC X N sc):HC (X.sui e) N sc:=⟨h.n,h.s⟩
variable {k:Nat} {fI C B:Addr} {fd:FuncData} {ps:List Str} {sp:Sp} {EH:St->XK} {x n fld:Str} {np cpos apos hpos pos pos':Pos} {a b o value:Expr} {t:TA} {te ta tv:TE} {body suite:List Stmt} {b₀:Stmt} {tb:(St->XK)->TS} {ts:TS}
theorem zps_raise1 (c:XC X.K C) (hi:PySem.W.findIn X.K (.ref C) "__init__" = some (some (.ref fI))) (hf:PySem.W.typeIn X.K (.ref fI)=some (.type "function")) (hk:PySem.W.keepIn X.K (.ref C)=true)
  (F:FnOk X.prog X.w X.K X.mg X.base CX0 k fI fd ps (spInit C fld)) (hb:Binds X.K fd ps []) (hr:Room (k+1) X.A) (hg:Gl X x) (hm:X.mg x=some (.ref C)) (hc:X.calm=true) (L:Lands X EH) (ha:ZE X a te)
  (hdb:(x == ("__debug__" : Str))=false:=by decide) (he:starEach [a] X.env=(false,eval a X.env)::starEach [] X.env:=by rfl) (hpl:(backTo cpos (starEach [] X.env)).any (·.1)=false:=by rfl) :
  ZS X (.Raise (some (.Call (.Name x np) [a] [] cpos)) none pos) (tRaise1 C fld te EH):=⟨ps_raise1 c hi hf hk F hb hr hg hm hc L ha.to hdb he hpl⟩
theorem zpe_base {pl:Sem Bool} (hr:PySem.W.readsIn X.K B (.type "type")=true) (hf:PySem.W.findCls X.K (.ref B) (.type "type") "__init__" = some (.val (.builtin "ValueError.__init__")))
  (hs:PySem.W.specialIn X.K (.ref B) "__getattribute__" = some (some (.builtin "type.__getattribute__"))) (hg:Gl X x) (hm:X.mg x=some (.ref B)) (ha:ZA X [a,b] t)
  (hdb:(x == ("__debug__" : Str))=false:=by decide) (hst:starEach [a,b] X.env=(false,eval a X.env)::starEach [b] X.env:=by rfl) (hpl:(backTo cpos (starEach [b] X.env)).any (·.1)=false:=by rfl)
  (ht:eval (.Call (.Attribute (.Name x np) "__init__" apos) [a,b] [] cpos) X.env=(do
   let ov <-eval (.Name x np) X.env
   standAt apos.atName
   let (f,first) <-holding [ov] (getMethod ov "__init__" pl)
   callWith cpos f first (backTo cpos (starEach [a,b] X.env)) (backToKw cpos (keywordEach [] X.env))):=by rfl) :
  ZE X (.Call (.Attribute (.Name x np) "__init__" apos) [a,b] [] cpos) (tBase X.K t):=⟨pe_base (pl:=pl) hr hf hs hg hm ha.to hdb hst hpl ht⟩
theorem zps_xfld (ha:ZE X o ta) (hv:ZE X value tv) (hs:swapsWith value (some (.Attribute o fld pos')) pos.line X.env=pure false):ZS X (.Assign [.Attribute o fld pos'] value pos) (sXFld X.K ta tv fld):=⟨ps_xfld ha.to hv.to hs⟩
theorem zpe_fldX {K:Frag} {f:Str} (hK:X.K=K) (he:ZE X o ta) (hb:attributeBase o f X.env (eval o X.env)=eval o X.env):ZE X (.Attribute o f pos) (tFldX K ta f):=hK ▸ ⟨pe_fldX he.to hb⟩
theorem zpsk_try (hc:HC X N sc) (nd:N.Nodup) (i:Nat) (h:okL1 N sc i n=true) (hst:X.stack=X.env::X.outer) (hfr:X.env.frame=some X.env.locals) (q:xcIn X.K B=true) (hg:Gl X x) (hm:X.mg x=some (.ref B))
  (hb:∀(EH:St->XK) (xe:Value->Shared->Prop) (pn:List (Addr×Obj)),Lands (X.tri xe pn) EH->PassesOwn (model X.prog X.w) X.A X.env xe->ZSs (X.tri xe pn) body (tb EH)) (hs:∀e,ZSs (X.sui e) (b₀::suite) ts) (hdb:(x == ("__debug__" : Str))=false:=by decide) :
  ZS X (.Try body [.ExceptHandler (some (.Name x np)) (some n) (b₀::suite) hpos] [] [] pos) (tTry X.K i B tb ts):=
 ⟨ps_try hst hfr (by rw [hc.n];exact nd) (okL1_loc hc h).1 (okL1_loc hc h).2 q hg hm (fun EH xe pn l p=>(hb EH xe pn l p).to) (fun e=>(hs e).to) hdb⟩
end
section
variable {X:Cx}
def qEqTS (neg:Bool):R2:=fun x y H Q=>∃p q,x=.ref p/\y=.ref q/\∃xs ys:List Str,H p=some (.tup (List.map V.str xs))/\H q=some (.tup (List.map V.str ys))/\Q (.bl (if neg then !decide (xs=ys) else decide (xs=ys))) H
end
end L2
end
section
namespace L2
open PySem PySem.Spec PySem.W PyProof.Rows
abbrev pinO (o:Obj):HO:=.frz o (.own 0)
def addP (C:List (Addr×Obj)) (H:Hp):Hp:=fun b=>match C.lookup b with | some o=>some (pinO o) | none=>H b
def dropP (C:List (Addr×Obj)) (H:Hp):Hp:=fun b=>match C.lookup b with | some _=>none | none=>H b
theorem addP_in {C:List (Addr×Obj)} {H:Hp} {b:Addr} {o:Obj} (h:C.lookup b=some o):addP C H b=some (pinO o):=by unfold addP;rw [h]
theorem addP_out {C:List (Addr×Obj)} {H:Hp} {b:Addr} (h:C.lookup b=none):addP C H b=H b:=by unfold addP;rw [h]
theorem dropP_in {C:List (Addr×Obj)} {H:Hp} {b:Addr} {o:Obj} (h:C.lookup b=some o):dropP C H b=none:=by unfold dropP;rw [h]
theorem dropP_out {C:List (Addr×Obj)} {H:Hp} {b:Addr} (h:C.lookup b=none):dropP C H b=H b:=by unfold dropP;rw [h]
def PinsIn (C:List (Addr×Obj)) (H:Hp):Prop:=∀b o,C.lookup b=some o->H b=some (pinO o)
def PinsOut (C:List (Addr×Obj)) (H:Hp):Prop:=∀b o,C.lookup b=some o->H b=none
theorem PinsIn.out {C:List (Addr×Obj)} {H:Hp} (p:PinsIn C H) {b:Addr} {u:HO} (e:H b=some u) (n:∀o,u≠pinO o):C.lookup b=none:=by
 cases q:C.lookup b with
 | none=>rfl
 | some o=>rw [p b o q] at e;cases e;exact absurd rfl (n o)
theorem PinsIn.outN {C:List (Addr×Obj)} {H:Hp} (p:PinsIn C H) {b:Addr} (e:H b=none):C.lookup b=none:=by
 cases q:C.lookup b with
 | none=>rfl
 | some o=>rw [p b o q] at e;cases e
theorem PinsOut.out {C:List (Addr×Obj)} {H:Hp} (p:PinsOut C H) {b:Addr} {u:HO} (e:H b=some u):C.lookup b=none:=by
 cases q:C.lookup b with
 | none=>rfl
 | some o=>rw [p b o q] at e;cases e
theorem PinsOut.added {C:List (Addr×Obj)} {H:Hp}:PinsIn C (addP C H):=fun _ _ h=>addP_in h
section
variable {P:Program} {w:World} {H H':Hp} {h h':Heap} {C:List (Addr×Obj)} {fs:List Addr}
theorem _root_.L2.HOk.addP (x:HOk P w H h) (p:PinsOut C H) (k:∀b o,C.lookup b=some o->h.get? b=some o):HOk P w (addP C H) h:=fun b u e=>by
 cases q:C.lookup b with
 | some o=>rw [addP_in q] at e;cases e;exact ⟨k b o q,o,k b o q⟩
 | none=>
  rw [addP_out q] at e
  exact (x b u e).stay (fun _ _ _ z=>z) (fun c z=>by rw [addP_out (p.out z)];exact z) fun c xs z=>by rw [addP_out (p.out z)];exact z
theorem _root_.L2.HOk.dropP (x:HOk P w H h) (p:PinsIn C H):HOk P w (dropP C H) h:=fun b u e=>by
 cases q:C.lookup b with
 | some o=>rw [dropP_in q] at e;cases e
 | none=>
  rw [dropP_out q] at e
  exact (x b u e).stay (fun _ _ _ z=>z) (fun c z=>by rw [dropP_out (p.out z (by intro o n;cases n))];exact z) fun c xs z=>by rw [dropP_out (p.out z (by intro o n;cases n))];exact z
theorem HOk.pins (x:HOk P w H h) (p:PinsIn C H):∀b o,C.lookup b=some o->h.get? b=some o:=fun b o q=>(x b _ (p b o q)).1
theorem Un.dropAdd (u:Un fs [] (addP C H) H' h h') (x:HOk P w H' h') (p:PinsOut C H) (k:∀b o,C.lookup b=some o->h.get? b=some o):Un fs [] H (dropP C H') h h':=by
 have pin':PinsIn C H':=fun b o q=>u.frzs b o _ (addP_in q)
 have at':∀b o,C.lookup b=some o->h'.get? b=some o:=x.pins pin'
 refine ⟨fun b o e n hb hx=>?_,fun b o e n hb hx=>?_,fun b o e n hx=>?_,u.there,fun b xs e=>?_,fun b o v e=>?_,fun b ps e=>?_⟩
 ·cases q:C.lookup b with
  | some o'=>have:=k b o' q;rw [e] at this;cases this;exact at' b o q
  | none=>exact u.keep b o e (by rw [addP_out q];exact n) hb hx
 ·cases q:C.lookup b with
  | some o'=>have:=k b o' q;rw [e] at this;cases this;exact ⟨o.slots,at' b o q⟩
  | none=>exact u.slot b o e (by rw [addP_out q];exact n) hb hx
 ·cases q:C.lookup b with
  | some o'=>exact dropP_in q
  | none=>rw [dropP_out q];exact u.free b o e (by rw [addP_out q];exact n) hx
 ·rw [dropP_out (p.out e)];exact u.tups b xs (by rw [addP_out (p.out e)];exact e)
 ·rw [dropP_out (p.out e)];exact u.frzs b o v (by rw [addP_out (p.out e)];exact e)
 ·obtain ⟨m,z⟩:=u.tbls b ps (by rw [addP_out (p.out e)];exact e)
  exact ⟨m,by rw [dropP_out (p.out e)];exact z⟩
theorem Un.addDrop (u:Un fs [] (dropP C H) H' h h') (x:HOk P w H h) (p:PinsIn C H) (nf:∀b o,C.lookup b=some o->b∉fs):Un fs [] H (addP C H') h h'/\PinsOut C H'/\∀b o,C.lookup b=some o->h'.get? b=some o:=by
 have k:=x.pins p
 refine ⟨⟨fun b o e n hb hx=>u.keep b o e (by rw [dropP_out (p.outN n)];exact n) hb hx,fun b o e n hb hx=>u.slot b o e (by rw [dropP_out (p.outN n)];exact n) hb hx,fun b o e n hx=>?_,u.there,fun b xs e=>?_,fun b o v e=>?_,fun b ps e=>?_⟩,fun b o q=>?_,fun b o q=>?_⟩
 ·rw [addP_out (p.outN n)];exact u.free b o e (by rw [dropP_out (p.outN n)];exact n) hx
 ·have q:=p.out e (by intro o n;cases n)
  rw [addP_out q];exact u.tups b xs (by rw [dropP_out q];exact e)
 ·cases q:C.lookup b with
  | some o'=>rw [p b o' q] at e;cases e;exact addP_in q
  | none=>rw [addP_out q];exact u.frzs b o v (by rw [dropP_out q];exact e)
 ·have q:=p.out e (by intro o n;cases n)
  obtain ⟨m,z⟩:=u.tbls b ps (by rw [dropP_out q];exact e)
  exact ⟨m,by rw [addP_out q];exact z⟩
 ·exact u.free b o (k b o q) (dropP_in q) (by simp)
 ·exact u.keep b o (k b o q) (dropP_in q) (nf b o q) (by simp)
end
def CloOk (P:Program) (w:World) (K:PySem.W.Frag) (mg:Str->Option Value) (base:Heap) (k:Nat) (f:Addr) (sp:Sp):Prop:=
 ∀(A:Around) (outer:List Env) (s:Shared) (H:Hp) (us:List Value) (vs:List V) (Q:VK) (E:XK),Room k A->Env0 P w K mg base A outer s H->Vals vs us->sp vs H Q E->codeAny (model P w) A (.call (.ref f) ⟨us,[]⟩) (CR CX0 outer P w H s Q E) s
def cxL (P:Program) (w:World) (K:PySem.W.Frag) (mg:Str->Option Value) (base:Heap) (N:List Str) (qual:Str) (scope:Scope) (f:Addr) (cd:Value) (cl:List (Str×Addr)) (A:Around) (outer:List Env) (s:Shared) (H:Hp):Cx where
 prog:=P
 w:=w
 K:=K
 mg:=mg
 base:=base
 A:=A.deeper (envX qual scope s.heap.objs.size f cd cl)
 N:=N
 s₀:=s
 H₀:=H
 env:=envX qual scope s.heap.objs.size f cd cl
 outer:=outer
 stack:=envX qual scope s.heap.objs.size f cd cl::outer
 ex:=[]
 calm:=true
 fn:=fun _=>false
 pn:=[]
 xe:=fun _ _=>False
end L2
end
section
namespace L2
open PySem PySem.Spec PySem.W PyProof.Rows
theorem lookup_uniq {u:Value} {x:Str}:∀{l:List (Str×Value)},(x,u)∈l->(∀v,(x,v)∈l->v=u)->l.lookup x=some u
 | [],h,_=>nomatch h
 | (y,v)::l,h,q=>by
  rw [List.lookup_cons]
  by_cases e:x=y
  ·subst e
   rw [beq_self_eq_true]
   show some v=some u
   rw [q v List.mem_cons_self]
  ·rw [beq_false_of_ne e]
   refine lookup_uniq ?_ fun v hv=>q v (List.mem_cons_of_mem _ hv)
   rcases List.mem_cons.mp h with z | z
   ·cases z;exact absurd rfl e
   ·exact z
theorem lookup_zip {ps:List Str} {us:List Value} {i:Nat} {x:Str} {u:Value} (nd:ps.Nodup) (h1:ps[i]? = some x) (h2:us[i]? = some u):(ps.zip us).reverse.lookup x=some u:=by
 have hz:(ps.zip us)[i]? = some (x,u):=by rw [List.getElem?_zip_eq_some];exact ⟨h1,h2⟩
 refine lookup_uniq (List.mem_reverse.mpr (List.mem_of_getElem? hz)) fun v hv=>?_
 obtain ⟨j,hj⟩:=List.mem_iff_getElem?.mp (List.mem_reverse.mp hv)
 rw [List.getElem?_zip_eq_some] at hj
 have:i=j:=nodup_ix nd h1 hj.1
 subst this
 rw [h2] at hj
 exact (Option.some.inj hj.2).symm
def CellsOk (C:List (Addr×Obj)) (cl:List (Str×Addr)) (fr:List Str) (fvs:List V):Prop:=∀(i:Nat) x,fr[i]? = some x->∃c o u v,cl.lookup x=some c/\C.lookup c=some o/\o.data=.cell (some u)/\fvs[i]? = some v/\RelV v u
theorem clo_of {P:Program} {w:World} {K:PySem.W.Frag} {mg:Str->Option Value} {base:Heap} {k:Nat} {f c':Addr} {name qual:Str} {params:Arguments} {body:List Stmt} {scope:Scope} {cl:List (Str×Addr)} {doc pm ctv:Value} {fo oc:Obj} {vsC:Array Value} {tq:Tok}
  {ps fr:List Str} {sp:Sp} (hfo:fo.data=.func (fnX name qual params body scope cl .none .none doc pm none (.ref c') ctv)) (hoc:oc.data=.fields vsC) (hq:vsC[1]? = some (.str qual tq))
  (kind:scope.kind=.function) (co:scope.isCoroutine=false) (gen:scope.isGenerator=false) (nocell:∀x∈scope.names,x.2≠.cell) (nd:(ps++fr).Nodup) (par:∀x∈ps,scope.names.lookup x=some .local) (frk:∀x∈fr,scope.names.lookup x=some .free)
  (has:∀x,scope.names.lookup x=some .free->x∈fr)
  (incl:∀x c,cl.lookup x=some c->x∈fr) (inj:∀x y c,cl.lookup x=some c->cl.lookup y=some c->x=y)
  (hbind:∀us:List Value,us.length=ps.length->bindArgs (fnX name qual params body scope cl .none .none doc pm none (.ref c') ctv) ⟨us,[]⟩=pure (ps.zip us))
  (hbody:∀vs H Q E,sp vs H Q E->∃C fvs,vs.length=ps.length/\H f=some (pinO fo)/\H c'=some (pinO oc)/\PinsIn C H/\fvs.length=fr.length/\CellsOk C cl fr fvs/\
   ∀(A:Around) (outer:List Env) (s:Shared),Room k (A.deeper (envX qual scope s.heap.objs.size f (.ref c') cl))->
   HC (cxL P w K mg base (ps++fr) qual scope f (.ref c') cl A outer s (dropP C H)) (ps++fr) scope->
   ∃t,ZSs (cxL P w K mg base (ps++fr) qual scope f (.ref c') cl A outer s (dropP C H)) body t/\t { nx:=fun _ H'=>Q .non (addP C H'),rt:=fun v H'=>Q v (addP C H') } ((vs++fvs).map some) (dropP C H)) :
  CloOk P w K mg base (k+1) f sp:=by
 intro A outer s H us vs Q E hr e0 r hsp
 obtain ⟨C,fvs,hl,hf,hc,hC,lfv,hlk,hbody⟩:=hbody _ _ _ _ hsp
 have lim:s.heap.NoLimit:=e0.mod.nolimit.keeps fun b o e=>(e0.bs b o e).1
 have hk:=e0.hok
 have pins:=hk.pins hC
 have hu:us.length=ps.length:=by rw [<-r.length];exact hl
 have ndP:ps.Nodup:=(List.nodup_append.mp nd).1
 refine codeAny_call_def (body:=body) (binds:=ps.zip us) hr.depth (hk _ _ hf).1 hfo lim ⟨c',oc,vsC,tq,rfl,(hk _ _ hc).1,hoc,hq⟩ rfl (.of_eq (hbind us hu)) nocell (fun y hy=>par y.1 (List.of_mem_zip (a:=y.1) (b:=y.2) hy).1) (fun h₁ hns hk₁=>?_) co gen kind
 obtain ⟨t,ht,hq'⟩:=hbody A outer s (hr.deeper _) ⟨rfl,rfl⟩
 have nf:∀b o,C.lookup b=some o->b∉frs outer:=fun b o q z=>by have:=e0.frf b z;rw [hC b o q] at this;cases this
 have cellAt:∀x c,cl.lookup x=some c->∃o u,C.lookup c=some o/\o.data=.cell (some u)/\s.heap.get? c=some o:=fun x c e=>by
  obtain ⟨i,hi⟩:=List.mem_iff_getElem?.mp (incl x c e)
  obtain ⟨c2,o,u,v,h1,h2,h3,_⟩:=hlk i x hi
  rw [e] at h1;cases h1
  exact ⟨o,u,h2,h3,pins _ _ h2⟩
 have hok1:HOk P w (dropP C H) h₁:=(hk.dropP hC).kept hk₁
 have I:Inv (cxL P w K mg base (ps++fr) qual scope f (.ref c') cl A outer s (dropP C H)) [] ((vs++fvs).map some) (dropP C H) { s with heap:=h₁,toks:=s.toks+(ps.zip us).length }:=by
  have noA:∀b:Addr,b∉(cxL P w K mg base (ps++fr) qual scope f (.ref c') cl A outer s (dropP C H)).ex:=fun b z=>absurd (show b∈([]:List Addr) from z) (by simp)
  have out0:∀b,H b=none->dropP C H b=none:=fun b n=>by rw [dropP_out (hC.outN n)];exact n
  refine ⟨⟨e0.mod,kind,rfl,rfl,Nat.le_refl _,inj,fun y hy=>?_,fun y c z _=>absurd (show false=true from z) (by simp),fun _=>hr.hd,Around.frames_deeper e0.frames,.inr ⟨rfl,rfl⟩,fun b z=>absurd z (noA b),fun b o e=>⟨(e0.bs b o e).1,out0 b (e0.bs b o e).2⟩,e0.bsz,fun b _ _=>noA b,fun b z=>absurd z (noA b),e0.funs,fun b hb=>out0 b (e0.frf b hb)⟩,
   rfl,e0.bare,Un.kept hk₁,⟨_,hns,fun i y v h1 h2 h3=>?_⟩,fun y c h=>?_,?_,fun y c h=>?_,fun p hp=>absurd (show p∈([]:List (Addr×Obj)) from hp) (by simp),hok1,?_⟩
  ·have hy:scope.names.lookup y=some .cell\/scope.names.lookup y=some .free:=hy
   rcases hy with hy | hy
   ·exact absurd rfl (nocell _ (PySem.mem_of_lookup hy))
   ·obtain ⟨i,hi⟩:=List.mem_iff_getElem?.mp (has y hy)
    obtain ⟨c,_,_,_,e,_⟩:=hlk i y hi
    exact ⟨c,e⟩
  ·have h1:(ps++fr)[i]? = some y:=h1
   rw [List.getElem?_map] at h2
   by_cases hi:i < ps.length
   ·rw [List.getElem?_append_left hi] at h1
    rw [List.getElem?_append_left (by omega)] at h2
    have ha:vs[i]? = some v:=by
     cases e:vs[i]? with
     | none=>rw [e] at h2;cases h2
     | some a=>rw [e] at h2;cases h2;rfl
    obtain ⟨u,hu',rv⟩:=r.get ha
    exact ⟨u,rv,.inl ⟨par y (List.mem_of_getElem? h1),lookup_zip ndP h1 hu'⟩⟩
   ·rw [List.getElem?_append_right (by omega)] at h1
    rw [List.getElem?_append_right (by omega),hl] at h2
    obtain ⟨c,o,u,v',e1,e2,e3,e4,e5⟩:=hlk _ y h1
    rw [e4] at h2;cases h2
    exact ⟨u,e5,.inr ⟨.inr (frk y (List.mem_of_getElem? h1)),c,e1,o,hk₁ _ _ (pins _ _ e2),e3⟩⟩
  ·obtain ⟨o,u,_,e3,e4⟩:=cellAt y c h
   exact ⟨_,o,hk₁ _ _ e4,e3⟩
  ·exact (hk.dropP hC).fresh (Nat.le_refl _)
  ·obtain ⟨o,u,e2,_⟩:=cellAt y c h
   exact dropP_in e2
  ·rw [List.length_map,List.length_append,hl,lfv]
   exact List.length_append.symm
 refine wpAny_mono (ht.to [] _ _ _ _ I hq') (fun fl s' hs=>?_) fun e s' hs=>False.elim hs
 have fin:∀{σ':St} {H':Hp} {v:V} {u:Value},Inv (cxL P w K mg base (ps++fr) qual scope f (.ref c') cl A outer s (dropP C H)) [] σ' H' s'->RelV v u->Q v (addP C H')->CE outer P w H s Q u s':=fun {σ' H' v u} J rv q=>by
  obtain ⟨un,po,at'⟩:=Un.addDrop (H:=H) (h:=s.heap) J.base hk hC nf
  exact ⟨v,addP C H',J.os,J.bare,un,J.hok.addP po at',rv,q⟩
 cases fl with
 | ret u=>
  obtain ⟨v,σ',H',J,rv,q⟩:=hs
  exact fin J rv q
 | next=>
  obtain ⟨σ',H',J,q⟩:=hs
  exact fin (v:=V.non) (u:=Value.none) J rfl q
 | brk=>
  obtain ⟨_,_,_,q⟩:=hs
  exact False.elim q
 | cont=>
  obtain ⟨_,_,_,q⟩:=hs
  exact False.elim q
end L2
end
section
namespace L2
open PySem PySem.Spec PySem.W PyProof.Rows
def FnO (H:Hp) (f:Addr):Prop:=∃fo fd,H f=some (pinO fo)/\fo.data=.func fd
theorem FnO.at {P:Program} {w:World} {H:Hp} {h:Heap} {f:Addr} (x:FnO H f) (ok:HOk P w H h):FnAt f h:=by
 obtain ⟨fo,fd,e,d⟩:=x
 obtain ⟨oc,od,dt,sl⟩:=fo
 have d':dt=.func fd:=d
 subst d'
 exact ⟨oc,od,fd,sl,(ok f _ e).1⟩
section
variable {X:Cx} {k:Nat} {f C:Addr} {sp:Sp} {E:XK} {x m:Str} {p pos apos:Pos} {e o:Expr} {es:List Expr} {ta:TE} {t:TA}
theorem run_clo {pins:List (Addr×Obj)} {σ:St} {H:Hp} {s:Shared} {Q:VK} {us:List Value} {vs:List V} (F:CloOk X.prog X.w X.K X.mg X.base k f sp) (hr:Room k X.A) (I:Inv X pins σ H s) (r:Vals vs us) (h:sp vs H Q E) :
  wpAny (model X.prog X.w) X.A (call (.ref f) us) (EP X pins σ Q) X.xe s:=by
 refine wpAny_call (codeAny_mono (F X.A X.stack s H us vs Q E hr I.env0 r h) fun r s' hq=>?_)
 cases r with
 | error e=>exact False.elim hq
 | ok fl=>
  cases fl with
  | ret u=>exact I.after hq
  | next=>exact False.elim hq
  | brk=>exact False.elim hq
  | cont=>exact False.elim hq
def tCallV (P:Program) (w:World) (K:PySem.W.Frag) (mg:Str->Option Value) (base:Heap) (k:Nat) (tv:TE) (t:TA):TE:=fun σ H Q=>tv σ H fun x H1=>∃f,x=.ref f/\FnO H1 f/\t σ H1 fun vs H2=>FnO H2 f/\∃sp,CloOk P w K mg base k f sp/\sp vs H2 Q E0
theorem pe_callV {tv:TE} (hr:Room k X.A) (hv:PE X (.Name x p) tv) (ha:PA X (e::es) t) (he:starEach (e::es) X.env=(false,eval e X.env)::starEach es X.env:=by rfl) (hpl:(backTo pos (starEach es X.env)).any (·.1)=false:=by rfl) :
  PE X (.Call (.Name x p) (e::es) [] pos) (tCallV X.prog X.w X.K X.mg X.base k tv t):=by
 intro pins s σ H Q I h
 refine wpAny_Call_Name_kw (thn (hv pins s σ H _ I h) fun u s1 ⟨v,H1,I1,r1,f,ev,hf,h1⟩=>?_)
 subst ev
 cases r1
 refine callWith_F (hf.at I1.hok) (thn (ha pos pins s1 σ H1 _ I1 h1) fun us s2 ⟨vs,H2,I2,r2,hf2,sp,F,q⟩=>⟨hf2.at I2.hok,?_⟩) he hpl
 exact run_clo F hr I2 r2 q
theorem zpe_callV {tv:TE} (hr:Room k X.A) (hv:ZE X (.Name x p) tv) (ha:ZA X (e::es) t) (he:starEach (e::es) X.env=(false,eval e X.env)::starEach es X.env:=by rfl) (hpl:(backTo pos (starEach es X.env)).any (·.1)=false:=by rfl) :
  ZE X (.Call (.Name x p) (e::es) [] pos) (tCallV X.prog X.w X.K X.mg X.base k tv t):=⟨pe_callV hr hv.to ha.to he hpl⟩
end
def BMain (mg:Str->Option Value) (base:Heap):Prop:=∃bm o,mg "__builtins__" = some (.ref bm)/\bm≠builtinsNs/\bm≠mainGlobals/\base.get? bm=some o/\o.cls=.type "module"/\o.dict=some builtinsNs/\o.data=.plain
section
variable {X:Cx} {pins:List (Addr×Obj)} {σ:St} {H:Hp} {s:Shared} {h':Heap} {P c':Addr} {ps more:Array Value} {fo oc:Obj}
def made (H:Hp) (P:Addr) (ps:Array Value) (c':Addr) (oc:Obj) (f:Addr) (fo:Obj):Hp:=upd (upd (upd H P (.tbl ps)) c' (pinO oc)) f (pinO fo)
theorem Inv.madeF {t':Nat} (I:Inv X pins σ H s) (hP:H P=some (.tbl ps)) (hx:Heap.ExtBut P s.heap h') (hge:s.heap.objs.size<=c') (hlt:c' < h'.objs.size) (hoc:h'.get? c'=some oc) (ht:h'.get? P=some (tabObj (ps++more))) (hfr:fo.isFreed=false) :
  Inv X pins σ (L2.made H P (ps++more) c' oc h'.objs.size fo) { s with heap:=h'.push fo,toks:=t' }:=by
 have hPlt:=I.hok.lt hP
 have ncP:c'≠P:=Nat.ne_of_gt (Nat.lt_of_lt_of_le hPlt hge)
 have nfP:h'.objs.size≠P:=Nat.ne_of_gt (Nat.lt_trans (Nat.lt_of_lt_of_le hPlt hge) hlt)
 have ncf:c'≠h'.objs.size:=Nat.ne_of_lt hlt
 have at_:∀{b:Addr},b < s.heap.objs.size->b≠P->L2.made H P (ps++more) c' oc h'.objs.size fo b=H b:=fun {b} hb nb=>by
  unfold L2.made
  rw [upd_ne (Nat.ne_of_lt (Nat.lt_trans (Nat.lt_of_lt_of_le hb hge) hlt)),upd_ne (Nat.ne_of_lt (Nat.lt_of_lt_of_le hb hge)),upd_ne nb]
 have keep:∀b o,b≠P->s.heap.get? b=some o->(h'.push fo).get? b=some o:=fun b o nb e=>Heap.get?_push_of_some _ (hx b o nb e)
 have tabP:(h'.push fo).get? P=some (tabObj (ps++more)):=Heap.get?_push_of_some _ ht
 have atP:L2.made H P (ps++more) c' oc h'.objs.size fo P=some (.tbl (ps++more)):=by
  unfold L2.made
  rw [upd_ne nfP.symm,upd_ne ncP.symm,upd_same]
 refine I.un ⟨fun b o e n _ _=>keep b o (fun z=>by rw [z,hP] at n;cases n) e,fun b o e n _ _=>⟨o.slots,keep b o (fun z=>by rw [z,hP] at n;cases n) e⟩,fun b o e n _=>?_,fun b o e _=>?_,fun b xs e=>?_,fun b o v e=>?_,fun b qs e=>?_⟩ fun b u e=>?_
 ·rw [at_ (Heap.lt_size e) (fun z=>by rw [z,hP] at n;cases n)];exact n
 ·by_cases nb:b=P
  ·exact ⟨_,by rw [nb];exact tabP⟩
  ·exact ⟨o,keep b o nb e⟩
 ·rw [at_ (I.hok.lt e) (fun z=>by rw [z,hP] at e;cases e)];exact e
 ·rw [at_ (I.hok.lt e) (fun z=>by rw [z,hP] at e;cases e)];exact e
 ·by_cases nb:b=P
  ·subst nb
   rw [hP] at e;cases e
   exact ⟨more,atP⟩
  ·exact ⟨#[],by rw [at_ (I.hok.lt e) nb,e];simp⟩
 ·by_cases h1:b=h'.objs.size
  ·subst h1
   have e':some (pinO fo)=some u:=by rw [<-e];unfold L2.made;exact upd_same.symm
   cases e'
   exact ⟨Heap.get?_push_size _ hfr,fo,Heap.get?_push_size _ hfr⟩
  ·by_cases h2:b=c'
   ·subst h2
    have e':some (pinO oc)=some u:=by rw [<-e];unfold L2.made;rw [upd_ne ncf];exact upd_same.symm
    cases e'
    have:(h'.push fo).get? b=some oc:=Heap.get?_push_of_some _ hoc
    exact ⟨this,oc,this⟩
   ·by_cases h3:b=P
    ·subst h3
     rw [atP] at e;cases e
     exact tabP
    ·have e0:H b=some u:=by rw [<-e];unfold L2.made;rw [upd_ne h1,upd_ne h2,upd_ne h3]
     have np:∀c,(c=b\/H c=some (.own b))->c≠P:=fun c hc z=>by
      rcases hc with hc | hc
      ·exact h3 (hc ▸ z)
      ·rw [z,hP] at hc;cases hc
     refine (I.hok b u e0).stay (fun c v hc q=>keep c v (np c hc) q) (fun c q=>?_) fun c xs q=>?_
     ·rw [at_ (I.hok.lt q) (fun z=>by rw [z,hP] at q;cases q)];exact q
     ·rw [at_ (I.hok.lt q) (fun z=>by rw [z,hP] at q;cases q)];exact q
end
section
variable {X:Cx} {c P:Addr} {name qual:Str} {params:Arguments} {body:List Stmt} {scope:Scope} {cl:List (Str×Addr)} {pos:Pos} {i:Nat}
def tDef (P:Addr) (mg:Str->Option Value) (name qual:Str) (params:Arguments) (body:List Stmt) (scope:Scope) (cl:List (Str×Addr)) (pos:Pos) (i:Nat):TS:=fun D σ H=>∃ps,H P=some (.tbl ps)/\TriplesOk ps.toList/\codeAmong pos ps.toList=none/\
 ∀f c' oc vs t ctv doc,H f=none->H c'=none->f≠c'->oc.data=.fields vs->vs[1]? = some (.str qual t)->
  D.nx (σ.set i (some (.ref f))) (made H P (ps ++ #[rawInt pos.line,rawInt pos.col,.ref c']) c' oc f (fnMade name qual params body scope cl doc ((mg "__name__").getD .none) c' ctv))
theorem ps_def (hcode:X.env.code=.ref c) (hC:CodeHd X.base c P) (hB:BMain X.mg X.base) (hN:X.N.Nodup) (hi:X.N[i]? = some name) (hx:Loc X.env.scope name) (hq:qualnameIn X.env name name=qual) (hcl:closureFor scope X.env=pure cl)
  (hd0:params.defaults=[]) (hk0:params.kw_defaults=[]) (ha:annTrees params none X.env=[]) (hf:X.fn name=true\/X.env.scope.names.lookup name=some .local) :
  PS X (.FunctionDef name params body [] none [] scope none name pos) (tDef P X.mg name qual params body scope cl pos i):=by
 intro pins s σ H D I h
 obtain ⟨ps,hP,ht,hnf,q⟩:=h
 refine nestDef_K hd0 hk0 ha ?_
 rw [hq]
 have hg:=I.mod.glob.keeps I.bk
 have hP':s.heap.get? P=some (tabObj ps):=I.hok _ _ hP
 obtain ⟨bm,ob,b1,b2,b3,b4,b5,b6,b7⟩:=hB
 have none_:∀{b:Addr} {o:Obj},X.base.get? b=some o->b≠P:=fun {b o} e z=>by have:=(I.bs _ _ e).2;rw [z,hP] at this;cases this
 have hgP:mainGlobals≠P:=by
  obtain ⟨o,_,_,e,_⟩:=I.mod.glob
  exact none_ e
 refine makeFunction_K (mg:=X.mg) hcl I.ok.glob hg hcode (hC.keeps I.bk) hP' ht hnf hgP ⟨bm,ob,b1,b2,b3,none_ b4,I.bk _ _ b4,b5,b6,b7⟩ fun c' ctv doc h' tk hx' hge hlt hrec htb=>?_
 obtain ⟨c2,oc,vs,t,e2,hoc,hd,hv⟩:=hrec
 cases e2
 have I2:=I.madeF (fo:=fnMade name qual params body scope cl doc ((X.mg "__name__").getD .none) c' ctv) (t':=tk) hP hx' hge hlt hoc htb rfl
 have fr1:H h'.objs.size=none:=I.hok.fresh (Nat.le_of_lt (Nat.lt_of_le_of_lt hge hlt))
 have fr2:H c'=none:=I.hok.fresh hge
 exact store_ok (v:=.ref h'.objs.size) I2 hN hi hx rfl (fun s' I3=>⟨_,_,I3,q h'.objs.size c' oc vs t ctv doc fr1 fr2 (Nat.ne_of_gt hlt) hd hv⟩) hf
end
end L2
end
section
namespace L2
open PySem PySem.Spec PySem.W PyProof.Rows
def CellsAre (cells:List (Str×Addr)) (σ:St) (xs:List (Nat×Str)) (C:List (Addr×Obj)):Prop:=∀q∈xs,∃c o u v,cells.lookup q.2=some c/\C.lookup c=some o/\o.data=.cell (some u)/\σ[q.1]? = some (some v)/\RelV v u
section
variable {X:Cx} {pins:List (Addr×Obj)} {σ:St} {H:Hp} {s:Shared}
theorem cells_get (I:Inv X pins σ H s):∀xs:List (Nat×Str),(∀q∈xs,X.N[q.1]? = some q.2/\X.env.scope.names.lookup q.2=some .cell/\∃v,σ[q.1]? = some (some v))->
  ∃C,(∀b o,C.lookup b=some o->s.heap.get? b=some o/\∃x,X.env.cells.lookup x=some b)/\CellsAre X.env.cells σ xs C
 | [],_=>⟨[],fun _ _ h=>(by cases h),fun _ h=>(nomatch h)⟩
 | q::xs,h=>by
  obtain ⟨C,h1,h2⟩:=cells_get I xs fun r hr=>h r (List.mem_cons_of_mem _ hr)
  obtain ⟨hN,hk,v,hv⟩:=h q List.mem_cons_self
  obtain ⟨m,hn,hl⟩:=I.loc
  obtain ⟨u,rv,l⟩:=hl q.1 q.2 v hN hv (.inr (.inl hk))
  have hk':X.env.kindOf q.2=some .cell:=hk
  obtain ⟨c,hc,o,ho,hd⟩:∃c,X.env.cells.lookup q.2=some c/\∃o,s.heap.get? c=some o/\o.data=.cell (some u):=by
   rcases l with ⟨z,_⟩ | ⟨_,c,hc,o,ho,hd⟩
   ·rw [hk'] at z;cases z
   ·exact ⟨c,hc,o,ho,hd⟩
  refine ⟨(c,o)::C,fun b o' e=>?_,fun r hr=>?_⟩
  ·rw [List.lookup_cons] at e
   by_cases hb:b=c
   ·subst hb
    rw [beq_self_eq_true] at e
    cases e
    exact ⟨ho,q.2,hc⟩
   ·rw [beq_false_of_ne hb] at e
    exact h1 b o' e
  ·rcases List.mem_cons.mp hr with rfl | hr
   ·exact ⟨c,o,u,v,hc,by rw [List.lookup_cons,beq_self_eq_true],hd,hv,rv⟩
   ·obtain ⟨c2,o2,u2,v2,e1,e2,e3,e4,e5⟩:=h2 r hr
    by_cases hb:c2=c
    ·subst hb
     have:=(h1 c2 o2 e2).1
     rw [ho] at this
     cases this
     exact ⟨c2,o,u2,v2,e1,by rw [List.lookup_cons,beq_self_eq_true],e3,e4,e5⟩
    ·exact ⟨c2,o2,u2,v2,e1,by rw [List.lookup_cons,beq_false_of_ne hb];exact e2,e3,e4,e5⟩
variable {C:List (Addr×Obj)}
theorem Inv.pinsOut (I:Inv X pins σ H s) (h:∀b o,C.lookup b=some o->s.heap.get? b=some o/\∃x,X.env.cells.lookup x=some b):PinsOut C H:=fun b o e=>let ⟨x,hx⟩:=(h b o e).2;I.freeC x b hx
theorem Inv.env0P (I:Inv X pins σ H s) (hfn:∀x,X.fn x=true) (h:∀b o,C.lookup b=some o->s.heap.get? b=some o/\∃x,X.env.cells.lookup x=some b):Env0 X.prog X.w X.K X.mg X.base X.A X.stack s (addP C H):=by
 have e:=I.env0
 have big:∀b o,C.lookup b=some o->X.s₀.heap.objs.size<=b:=fun b o q=>let ⟨x,hx⟩:=(h b o q).2;I.ok.cab x b (hfn x) hx
 refine ⟨e.frames,e.mod,fun b o q=>⟨(e.bs b o q).1,?_⟩,e.bsz,e.funs,fun b hb=>?_,I.hok.addP (I.pinsOut h) fun b o q=>(h b o q).1,e.bare⟩
 ·cases z:C.lookup b with
  | none=>rw [addP_out z];exact (e.bs b o q).2
  | some o'=>exact absurd (Nat.lt_of_lt_of_le (Heap.lt_size q) (Nat.le_trans I.ok.bsz (big b o' z))) (Nat.lt_irrefl _)
 ·cases z:C.lookup b with
  | none=>rw [addP_out z];exact e.frf b hb
  | some o'=>
   obtain ⟨x,hx⟩:=(h b o' z).2
   rcases List.mem_cons.mp (I.stkSub b hb) with y | y
   ·exact absurd y (I.cne x b hx)
   ·obtain ⟨_,ob,ho,_⟩:=I.ok.funs.mem y
    exact absurd (Nat.lt_of_lt_of_le (Heap.lt_size ho) (big b o' z)) (Nat.lt_irrefl _)
end
section
variable {X:Cx} {k:Nat} {f:Addr} {fd:FuncData} {ps:List Str} {sp:Sp} {EH:St->XK} {x:Str} {p pos:Pos} {e:Expr} {es:List Expr} {t:TA}
def tCallP (cells:List (Str×Addr)) (xs:List (Nat×Str)) (sp:Sp) (EH:St->XK) (t:TA):TE:=fun σ H Q=>t σ H fun vs H1=>(∀q∈xs,∃v,σ[q.1]? = some (some v))/\
 ∀C,CellsAre cells σ xs C->PinsOut C H1->sp vs (addP C H1) (fun v H'=>Q v (dropP C H')) (fun c dx H'=>EH σ c dx (dropP C H'))
theorem run_fnP {xs:List (Nat×Str)} {pins:List (Addr×Obj)} {σ:St} {H:Hp} {s:Shared} {Q:VK} {us:List Value} {vs:List V} (F:FnOk X.prog X.w X.K X.mg X.base (CXE X.prog X.w) k f fd ps sp) (hr:Room k X.A) (hb:Binds X.K fd ps []) (hx:Lands X EH) (hfn:∀x,X.fn x=true)
  (hxs:∀q∈xs,X.N[q.1]? = some q.2/\X.env.scope.names.lookup q.2=some .cell)
  (I:Inv X pins σ H s) (r:Vals vs us) (hv:∀q∈xs,∃v,σ[q.1]? = some (some v)) (h:∀C,CellsAre X.env.cells σ xs C->PinsOut C H->sp vs (addP C H) (fun v H'=>Q v (dropP C H')) (fun c dx H'=>EH σ c dx (dropP C H'))) :
  wpAny (model X.prog X.w) X.A (call (.ref f) us) (EP X pins σ Q) X.xe s:=by
 obtain ⟨C,h1,h2⟩:=cells_get I xs fun q hq=>⟨(hxs q hq).1,(hxs q hq).2,hv q hq⟩
 have po:=I.pinsOut h1
 have at_:∀b o,C.lookup b=some o->s.heap.get? b=some o:=fun b o q=>(h1 b o q).1
 have h:=h C h2 po
 have hl:us.length=ps.length:=by rw [<-r.length];exact F.len _ _ _ _ h
 have b:=hb s us I.kIn (by rw [List.append_nil];exact hl)
 rw [List.append_nil] at b
 refine wpAny_call (codeAny_mono (F.run X.A X.stack s (addP C H) ⟨us,[]⟩ us vs _ _ hr (I.env0P hfn h1) b r h) fun r s' hq=>?_)
 cases r with
 | error e=>
  obtain ⟨e,c,dx,H',rfl,os,bare,un,hok,xa,q⟩:=hq
  have pin':PinsIn C H':=fun b o q=>un.frzs b o _ (addP_in q)
  refine hx.pass I ⟨e,c,dx,dropP C H',rfl,os,bare,un.dropAdd hok po at_,hok.dropP pin',xa.mono fun b hb=>⟨hb.1,?_⟩,q⟩
  rw [dropP_out (pin'.outN hb.2)];exact hb.2
 | ok fl=>
  cases fl with
  | ret u=>
   obtain ⟨v,H',os,bare,un,hok,r',q⟩:=hq
   have pin':PinsIn C H':=fun b o q=>un.frzs b o _ (addP_in q)
   exact I.after ⟨v,dropP C H',os,bare,un.dropAdd hok po at_,hok.dropP pin',r',q⟩
  | _=>exact False.elim hq
theorem pe_callP {xs:List (Nat×Str)} {cells:List (Str×Addr)} (hcl:X.env.cells=cells) (F:FnOk X.prog X.w X.K X.mg X.base (CXE X.prog X.w) k f fd ps sp) (hr:Room k X.A) (hg:Gl X x) (hm:X.mg x=some (.ref f)) (hk:PySem.W.keepIn X.K (.ref f)=true) (hb:Binds X.K fd ps []) (hx:Lands X EH) (hfn:∀x,X.fn x=true)
  (hxs:∀q∈xs,X.N[q.1]? = some q.2/\X.env.scope.names.lookup q.2=some .cell)
  (ha:PA X (e::es) t) (hdb:(x == ("__debug__" : Str))=false:=by decide) (he:starEach (e::es) X.env=(false,eval e X.env)::starEach es X.env:=by rfl) (hpl:(backTo pos (starEach es X.env)).any (·.1)=false:=by rfl) :
  PE X (.Call (.Name x p) (e::es) [] pos) (tCallP cells xs sp EH t):=by
 subst hcl
 intro pins s σ H Q I h
 refine wpAny_Call_Name_kw (ld_glob I hg hm ?_ hdb)
 exact PySem.W.callWith_K (h₀:=X.base) I.ok.mod.kin hk (thn (ha pos pins s σ H _ I h) fun us s1 ⟨vs,H1,I1,r,hv,q⟩=>⟨I1.kIn,run_fnP F hr hb hx hfn hxs I1 r hv q⟩) he hpl
theorem zpe_callP {xs:List (Nat×Str)} {cells:List (Str×Addr)} (hcl:X.env.cells=cells) (F:FnOk X.prog X.w X.K X.mg X.base (CXE X.prog X.w) k f fd ps sp) (hr:Room k X.A) (hg:Gl X x) (hm:X.mg x=some (.ref f)) (hk:PySem.W.keepIn X.K (.ref f)=true) (hb:Binds X.K fd ps []) (hx:Lands X EH) (hfn:∀x,X.fn x=true)
  (hxs:∀q∈xs,X.N[q.1]? = some q.2/\X.env.scope.names.lookup q.2=some .cell)
  (ha:ZA X (e::es) t) (hdb:(x == ("__debug__" : Str))=false:=by decide) (he:starEach (e::es) X.env=(false,eval e X.env)::starEach es X.env:=by rfl) (hpl:(backTo pos (starEach es X.env)).any (·.1)=false:=by rfl) :
  ZE X (.Call (.Name x p) (e::es) [] pos) (tCallP cells xs sp EH t):=⟨pe_callP hcl F hr hg hm hk hb hx hfn hxs ha.to hdb he hpl⟩
end
theorem addP_same {C:List (Addr×Obj)} {H:Hp} (p:PinsOut C H):Same H (addP C H):=fun b o e=>by rw [addP_out (p.out e)];exact e
end L2
end
section
namespace L2
open PySem PySem.Spec PySem.W PyProof.Rows
def TabsH (ts:List (Addr×Addr)) (H:Hp):Prop:=∀q∈ts,H q.2=some (.tbl #[])
theorem law_callT {P:Program} {w:World} {K:PySem.W.Frag} {mg mb:Str->Option Value} {CX:CXT} {k:Nat} {fa a:Addr} {fd:FuncData} {x:Str} {sp:Sp} {s₁:Shared} {vs:List Value} {ns:List Int} {ts:List (Addr×Addr)}
  (hT:TabsAt ts s₁.heap) (hKt:∀q∈ts,K.lookup q.2=none) (hB:BMain mg s₁.heap)
  (KX:K.In s₁.heap) (hns:s₁.heap.Ns mainGlobals mg) (hb:s₁.heap.Ns builtinsNs mb) (hbb:∀x:Str,x≠"__name__"->mb x=bootBuiltins x) (hlim:s₁.heap.NoLimit) (hg:s₁.gens = #[])
  (ha:s₁.heap.get? a=some { cls:=.type "list",data:=.seq vs.toArray }) (hi:IntsAre vs ns) (hl:ns.length<=sizeLine) (hr:Room k callerA)
  (F:∀base:Heap,K.In base->base.Ns mainGlobals mg->BMain mg base->FnOk P w K mg base CX k fa fd [x] sp) (hbind:∀(s:Shared) (u:Value),BindsTo s fd ⟨[u],[]⟩ [(x,u)])
  (hsp:∀H:Hp,TabsH ts H->SqL K H a (ns.map V.int)->sp [.ref a] H (fun v _=>v=.bl true) fun _ _ _=>False)
  (hCX:∀H e s',CX [] H s₁ (fun _ _ _=>False) e s'->False) :
  codeAny (model P w) callerA (.call (.ref fa) ⟨[.ref a],[]⟩) (fun r s'=>r=.ok (.ret (.bool true))/\OldK s₁.heap s'.heap/\s'.os=s₁.os/\AllBare s'.gens) s₁:=by
 have rv:=vals_ints hi
 have lenV:=hi.length
 have core:∀H:Hp,TabsH ts H->SqL K H a (ns.map V.int)->HOk P w H s₁.heap->(∀b,H b≠none->b=a\/b∈ts.map (·.2))->(∀b u,H b=some u->(∃o xs,u=.frz o (.lst xs))\/(b∈ts.map (·.2)/\u=.tbl #[]))->(H a≠none->K.lookup a=none)->
   codeAny (model P w) callerA (.call (.ref fa) ⟨[.ref a],[]⟩) (fun r s'=>r=.ok (.ret (.bool true))/\OldK s₁.heap s'.heap/\s'.os=s₁.os/\AllBare s'.gens) s₁:=by
  intro H hO hS hok hA hU hK
  have base_of:∀{b:Addr} {o:Obj},s₁.heap.get? b=some o->H b=none->(hidT s₁.heap H).get? b=some o:=fun e n=>hidT_get e n
  have isTab:∀{b:Addr},b∈ts.map (·.2)->s₁.heap.get? b=some (tabObj #[]):=fun {b} h=>by
   obtain ⟨q,hq,rfl⟩:=List.mem_map.mp h
   exact (hT q hq).2
  have noA:∀{b:Addr} {o:Obj},s₁.heap.get? b=some o->(o.cls≠.none\/∃es ep,o.data=.dict es ep)->b≠a->H b=none:=fun {b o} e d nb=>by
   cases q:H b with
   | none=>rfl
   | some u=>
    rcases hA b (by rw [q];simp) with z | z
    ·exact absurd z nb
    ·rw [isTab z] at e;cases e
     rcases d with d | ⟨es,ep,d⟩
     ·exact absurd rfl d
     ·cases d
  have neA:∀{b:Addr} {o:Obj} {es:Array DictEntry} {ep:Nat},s₁.heap.get? b=some o->o.data=.dict es ep->b≠a:=fun {b o es ep} e d z=>by
   subst z
   rw [ha] at e;cases e
   have d':Data.seq vs.toArray _=Data.dict es ep:=d
   cases d'
  have nsK:∀{b:Addr} {m:Str->Option Value},s₁.heap.Ns b m->(hidT s₁.heap H).Ns b m:=fun {b m} ⟨o,es,ep,e,d,r⟩=>⟨o,es,ep,base_of e (noA e (.inr ⟨es,ep,d⟩) (neA e d)),d,r⟩
  have hKb:K.In (hidT s₁.heap H):=fun b o e=>base_of (KX b o e) (by
   cases q:H b with
   | none=>rfl
   | some u=>
    rcases hA b (by rw [q];simp) with z | z
    ·subst z
     rw [hK (by rw [q];simp)] at e;cases e
    ·obtain ⟨r,hr',rfl⟩:=List.mem_map.mp z
     rw [hKt r hr'] at e;cases e)
  have hM:Mod K mg (hidT s₁.heap H):=⟨hKb,nsK hns,⟨mb,nsK hb,hbb⟩,let ⟨mc,h1,h2⟩:=hlim;⟨mc,nsK h1,h2⟩⟩
  have hBb:BMain mg (hidT s₁.heap H):=by
   obtain ⟨bm,o,b1,b2,b3,b4,b5,b6,b7⟩:=hB
   have nb:bm≠a:=fun z=>by
    rw [z,ha] at b4;cases b4
    have b7':Data.seq vs.toArray _=Data.plain:=b7
    cases b7'
   exact ⟨bm,o,b1,b2,b3,base_of b4 (noA b4 (.inl (by rw [b5];intro z;cases z)) nb),b5,b6,b7⟩
  have e0:Env0 P w K mg (hidT s₁.heap H) callerA [] s₁ H:=⟨rfl,hM,fun b o e=>of_hidT e,Nat.le_of_eq (hidT_size _ _),trivial,fun b hb=>absurd (show b∈([]:List Addr) from hb) (by simp),hok,.of_eq hg⟩
  refine codeAny_mono ((F _ hKb (nsK hns) hBb).run callerA [] s₁ H ⟨[.ref a],[]⟩ [.ref a] [.ref a] _ _ hr e0 (hbind s₁ (.ref a)) (.cons rfl .nil) (hsp H hO hS)) fun r s' h=>?_
  cases r with
  | error e=>exact (hCX H e s' h).elim
  | ok fl=>
   cases fl with
   | next=>exact False.elim h
   | brk=>exact False.elim h
   | cont=>exact False.elim h
   | ret u=>
    obtain ⟨v,H',os,bare,un,hok',r',q⟩:=h
    have q':v=.bl true:=q
    subst q'
    obtain rfl:u=Value.bool true:=r'
    have each:∀b o,s₁.heap.get? b=some o->asItWas s₁.heap s'.heap b o/\∃o',s'.heap.get? b=some o':=fun b o e=>by
     cases q:H b with
     | none=>
      have:=un.keep b o e q (by intro z;exact absurd (show b∈([]:List Addr) from z) (by simp)) (by simp)
      exact ⟨.inl this,o,this⟩
     | some u=>
      rcases hU b u q with ⟨ob,xs,rfl⟩ | ⟨hm,rfl⟩
      ·have z2:=un.frzs b ob _ q
       obtain ⟨e1,_⟩:=hok b _ q
       obtain ⟨e2,_⟩:=hok' b _ z2
       rw [e] at e1;cases e1
       exact ⟨.inl e2,_,e2⟩
      ·obtain ⟨r,hr',rfl⟩:=List.mem_map.mp hm
       obtain ⟨more,z2⟩:=un.tbls _ _ q
       have e2:s'.heap.get? r.2=some (tabObj (#[]++more)):=hok' _ _ z2
       have e3:=(hT r hr').2
       rw [e] at e3;cases e3
       exact ⟨.inr (.inl ⟨((hT r hr').1.tab (hT r hr').2).isCodeTable,rfl,#[],more,rfl,e2⟩),_,e2⟩
    exact ⟨rfl,⟨fun b o e=>(each b o e).1,fun b o e=>(each b o e).2⟩,os,bare⟩
 have naT:a∉ts.map (·.2):=fun z=>by
  obtain ⟨q,hq,e⟩:=List.mem_map.mp z
  have:=(hT q hq).2
  rw [e,ha] at this;cases this
 have tabH:∀(H1:Hp),(∀b,b∈ts.map (·.2)->H1 b=some (.tbl #[]))->TabsH ts H1:=fun H1 h q hq=>h _ (List.mem_map_of_mem hq)
 have tabOk:∀b,b∈ts.map (·.2)->s₁.heap.get? b=some (tabObj #[]):=fun b h=>by
  obtain ⟨q,hq,rfl⟩:=List.mem_map.mp h
  exact (hT q hq).2
 cases hk:K.lookup a with
 | some o=>
  have e:=KX a o hk
  rw [ha] at e
  cases e
  refine core (fun b=>if b∈ts.map (·.2) then some (.tbl #[]) else none) (tabH _ fun b hb=>if_pos hb) (.inr ⟨_,vs.toArray,_,hk,rfl,rfl,rfl,by rw [List.size_toArray,lenV];exact hl,by simpa using rv⟩) (fun b u z=>?_) (fun b z=>?_) (fun b u z=>?_) fun z=>absurd (if_neg naT) z
  ·by_cases hb:b∈ts.map (·.2)
   ·have z':=(if_pos hb).symm.trans z
    cases z';exact tabOk b hb
   ·have z':=(if_neg hb).symm.trans z
    cases z'
  ·by_cases hb:b∈ts.map (·.2)
   ·exact .inr hb
   ·exact absurd (if_neg hb) z
  ·by_cases hb:b∈ts.map (·.2)
   ·have z':=(if_pos hb).symm.trans z
    cases z';exact .inr ⟨hb,rfl⟩
   ·have z':=(if_neg hb).symm.trans z
    cases z'
 | none=>
  let H0:Hp:=fun b=>if b=a then some (.frz { cls:=.type "list",data:=.seq vs.toArray } (.lst (ns.map V.int))) else if b∈ts.map (·.2) then some (.tbl #[]) else none
  have at0:H0 a=some (.frz { cls:=.type "list",data:=.seq vs.toArray } (.lst (ns.map V.int))):=if_pos rfl
  have atT:∀b,b∈ts.map (·.2)->H0 b=some (.tbl #[]):=fun b hb=>(if_neg (fun z:b=a=>naT (by rw [<-z];exact hb))).trans (if_pos hb)
  have atN:∀b,b≠a->b∉ts.map (·.2)->H0 b=none:=fun b h1 h2=>(if_neg h1).trans (if_neg h2)
  refine core H0 (tabH _ atT) (.inl (.inr ⟨{ cls:=.type "list",data:=.seq vs.toArray },at0⟩)) (fun b u z=>?_) (fun b z=>?_) (fun b u z=>?_) fun _=>hk
  ·by_cases hb:b=a
   ·subst hb
    rw [at0] at z;cases z
    exact ⟨ha,by rw [List.length_map];exact hl,vs,_,rv,ha⟩
   ·by_cases hm:b∈ts.map (·.2)
    ·rw [atT b hm] at z;cases z;exact tabOk b hm
    ·rw [atN b hb hm] at z;cases z
  ·by_cases hb:b=a
   ·exact .inl hb
   ·by_cases hm:b∈ts.map (·.2)
    ·exact .inr hm
    ·exact absurd (atN b hb hm) z
  ·by_cases hb:b=a
   ·subst hb
    rw [at0] at z;cases z
    exact .inl ⟨_,_,rfl⟩
   ·by_cases hm:b∈ts.map (·.2)
    ·rw [atT b hm] at z;cases z;exact .inr ⟨hm,rfl⟩
    ·rw [atN b hb hm] at z;cases z
theorem walk_ofT {l:PySem.W.OpenLaw} {n k:Nat} {q:Program} {loose:List Str} {XP:(Str->Option Value)->Heap->Prop} {YP:World->Heap->Prop} {d:DefRec} {K:Params->PySem.W.Frag} {CX:World->CXT} {sp:World->Sp} {x:Str} {ts:List (Addr×Addr)}
  (hn:l.most=some n) (hn2:n<=sizeLine) (hdf:d.params.defaults=[]) (hr:Room k callerA)
  (hY:∀(w:World) (h:Heap),YP w h->(K w.params).In h/\∀q∈ts,h.get? q.2=some (tabObj #[]))
  (hCd:∀w:World,∀q∈ts,codeHdIn (K w.params) q.1 q.2=true/\(K w.params).lookup q.2=none)
  (F:∀(w:World) (mg:Str->Option Value) (fa:Addr) (h:Heap),(K w.params).In h->h.Ns mainGlobals mg->mg d.name=some (.ref fa)->
   ∃fd:FuncData,(∀(s:Shared) (u:Value),BindsTo s fd ⟨[u],[]⟩ [(x,u)])/\
    ∀base:Heap,(K w.params).In base->base.Ns mainGlobals mg->BMain mg base->FnOk l.prog w (K w.params) mg base (CX w) k fa fd [x] (sp w))
  (hsp:∀(w:World) (H:Hp) (a:Addr) (ns:List Int),ns.length<=n->TabsH ts H->SqL (K w.params) H a (ns.map V.int)->sp w [.ref a] H (fun v _=>v=.bl true) fun _ _ _=>False)
  (hCX:∀(w:World) (H:Hp) (s:Shared) (e:Value) (s':Shared),CX w [] H s (fun _ _ _=>False) e s'->False) :
  PySem.W.WalkO q loose XP YP l.row.toRowW d [] (fun f vs=>PySem.call f vs):=by
 refine Att.attach_call hn hdf fun w s₀ s₁ mg mb fa o pm cd doc a vs ns G Y ho hd hcd hmg hobj hints hlen hg=>?_
 obtain ⟨KX,hP⟩:=hY w _ Y
 obtain ⟨fd,hb,hF⟩:=F w mg fa _ KX G.T.g hmg
 have hB:BMain mg s₁.heap:=by
  obtain ⟨bm,ob,b1,b2,b3,b4,b5,b6⟩:=G.T.bmain
  refine ⟨bm,ob,b1,b2,fun z=>?_,b3,b4,b5,b6⟩
  obtain ⟨o,es,ep,e,dd,_⟩:=G.T.g
  rw [z,e] at b3;cases b3
  rw [dd] at b6;cases b6
 exact law_callT (fun q hq=>⟨codeHd_of_K KX (hCd w q hq).1,hP q hq⟩) (fun q hq=>(hCd w q hq).2) hB KX G.T.g G.T.b G.T.builtins G.T.nolimit hg hobj hints (Nat.le_trans hlen hn2) hr hF hb (fun H hO hS=>hsp w H a ns hlen hO hS) fun H e s'=>hCX w H s₁ e s'
end L2
end
section
namespace L2
open PySem PySem.Spec PySem.W PyProof.Rows
def qSumI:List V->Hp->VK->Prop:=fun vs H Q=>∃a,vs=[.ref a]/\∃ns:List Int,H a=some (.lst (List.map V.int ns))/\Q (.int ns.sum) H
theorem ints_are:∀{ns:List Int} {its:List Value},Vals (List.map V.int ns) its->IntsAre its ns
 | [],[],_=>.nil
 | n::ns,u::its,.cons r rs=>by
  obtain ⟨t,rfl⟩:=(r:∃t,u=.int n t)
  exact .cons n t (ints_are rs)
section
variable {X:Cx}
theorem call_sumI (hh:X.A.handled=none):CallR X (.builtin "sum") qSumI:=by
 intro pins s σ H vs us Q I rv h
 obtain ⟨a,rfl,ns,hq,q⟩:=h
 obtain ⟨u,rfl,ru⟩:=vals1 rv
 cases ru
 obtain ⟨its,r,pl,hz⟩:=I.list (sqL_of hq)
 have hi:=ints_are r
 obtain ⟨xs,hx⟩:=hi.allInts.items
 have hl':s.heap.IsList a (intItems xs):=hx ▸ pl.isList
 refine sum_intListG hh hl' fun h' tk t' hk=>?_
 have e1:ns=xs.toList.map (·.1):=by
  rw [<-nums_intItems,<-hx]
  exact (show numsOf its.toArray.toList=ns from hi.numsOf).symm
 have e2:preSum (numAt xs) xs.size=ns.sum:=by
  rw [preSum_eq,List.take_of_length_le (by simp),e1]
 rw [e2]
 exact ⟨.int ns.sum,H,I.kept hk,⟨_,rfl⟩,q⟩
end
theorem closure_loop {env:Env} {ad:Str->Addr}:∀(ns:List (Str×NameKind)) (acc:List (Str×Addr)),(∀x,(x,NameKind.free)∈ns->env.cells.lookup x=some (ad x))->
  (forIn ns acc fun q cs=>match q with | (name,kind)=>if (kind == .free)=true then do let c <-cellOf env name;pure PUnit.unit;pure (ForInStep.yield ((name,c)::cs)) else do pure PUnit.unit;pure (ForInStep.yield cs):Sem (List (Str×Addr))) =
   pure (((ns.filter fun q=>q.2 == .free).map fun q=>(q.1,ad q.1)).reverse++acc)
 | [],acc,_=>rfl
 | (x,k)::ns,acc,h=>by
  rw [List.forIn_cons]
  have ih:=closure_loop (env:=env) (ad:=ad) ns
  by_cases e:k=.free
  ·subst e
   have hx:=h x List.mem_cons_self
   have hc:cellOf env x=pure (ad x):=by unfold cellOf;rw [hx]
   simp only [hc,pure_bind,beq_self_eq_true,if_true]
   rw [ih _ fun y hy=>h y (List.mem_cons_of_mem _ hy)]
   simp
  ·have e':(k == NameKind.free)=false:=beq_false_of_ne e
   simp only [e',Bool.false_eq_true,if_false,pure_bind]
   rw [ih _ fun y hy=>h y (List.mem_cons_of_mem _ hy)]
   simp [e]
theorem closureFor_of {scope:Scope} {env:Env} {ad:Str->Addr} (h:∀x,(x,NameKind.free)∈scope.names->env.cells.lookup x=some (ad x)):closureFor scope env=pure ((scope.names.filter fun q=>q.2 == .free).map fun q=>(q.1,ad q.1)).reverse:=by
 have:=closure_loop (ad:=ad) scope.names [] h
 rw [List.append_nil] at this
 unfold closureFor
 simp only [bind_pure]
 exact this
theorem lookup_map {ad:Str->Addr} {x:Str}:∀(l:List Str),(l.map fun x=>(x,ad x)).lookup x=if x∈l then some (ad x) else none
 | []=>rfl
 | y::l=>by
  rw [List.map_cons,List.lookup_cons]
  by_cases e:x=y
  ·subst e;rw [beq_self_eq_true,if_pos List.mem_cons_self]
  ·rw [beq_false_of_ne e,lookup_map l]
   by_cases h:x∈l
   ·rw [if_pos h,if_pos (List.mem_cons_of_mem _ h)]
   ·rw [if_neg h,if_neg (fun z=>(List.mem_cons.mp z).elim e h)]
def freeOf (sc:Scope):List Str:=(sc.names.filter fun q=>q.2 == .free).map (·.1)
section
variable {X:Cx} {N:List Str} {sc:Scope} {c P:Addr} {name qual:Str} {params:Arguments} {body:List Stmt} {scope:Scope} {pos:Pos} {fr:List Str}
def tDefK (P:Addr) (mg:Str->Option Value) (name qual:Str) (params:Arguments) (body:List Stmt) (scope:Scope) (pos:Pos) (i:Nat) (cells:List (Str×Addr)) (fr:List Str):TS:=fun D σ H=>∃ps,H P=some (.tbl ps)/\TriplesOk ps.toList/\codeAmong pos ps.toList=none/\
 ∀cl f c' oc vs t ctv doc,(∀x∈fr,∃c,cells.lookup x=some c/\cl.lookup x=some c)->(∀x c,cl.lookup x=some c->x∈fr)->(∀x y c,cl.lookup x=some c->cl.lookup y=some c->x=y)->H f=none->H c'=none->f≠c'->oc.data=.fields vs->vs[1]? = some (.str qual t)->
  D.nx (σ.set i (some (.ref f))) (made H P (ps ++ #[rawInt pos.line,rawInt pos.col,.ref c']) c' oc f (fnMade name qual params body scope cl doc ((mg "__name__").getD .none) c' ctv))
theorem psk_def (hc:HC X N sc) (nd:N.Nodup) (hf:∀x,X.fn x=true) (i:Nat) (h:okL N sc i name=true) (hcode:X.env.code=.ref c) (hC:CodeHd X.base c P) (hB:BMain X.mg X.base) (hq:qualnameIn X.env name name=qual) (hfr:freeOf scope=fr) (hce:∀x∈fr,sc.names.lookup x=some .cell)
  (hd0:params.defaults=[]) (hk0:params.kw_defaults=[]) (ha:annTrees params none X.env=[]) :
  PS X (.FunctionDef name params body [] none [] scope none name pos) (tDefK P X.mg name qual params body scope pos i X.env.cells fr):=by
 intro pins s σ H D I hw
 obtain ⟨hN,hx⟩:=okL_loc hc h
 have has:∀x∈fr,∃c,X.env.cells.lookup x=some c:=fun x hx=>I.ok.has x (.inl (show X.env.scope.names.lookup x=some .cell by rw [hc.s];exact hce x hx))
 have had:∀x∈fr,X.env.cells.lookup x=some ((X.env.cells.lookup x).getD 0):=fun x hx=>by
  obtain ⟨c,e⟩:=has x hx
  rw [e];rfl
 have mem:∀x,(x,NameKind.free)∈scope.names->x∈fr:=fun x hx=>by
  rw [<-hfr]
  exact List.mem_map.mpr ⟨(x,.free),List.mem_filter.mpr ⟨hx,rfl⟩,rfl⟩
 have hcl:=closureFor_of (scope:=scope) (env:=X.env) (ad:=fun x=>(X.env.cells.lookup x).getD 0) fun x hx=>had x (mem x hx)
 have ecl:((scope.names.filter fun q=>q.2 == .free).map fun q=>(q.1,(X.env.cells.lookup q.1).getD 0)).reverse=(freeOf scope).reverse.map fun x=>(x,(X.env.cells.lookup x).getD 0):=by
  unfold freeOf
  rw [<-List.map_reverse,<-List.map_reverse,List.map_map]
  rfl
 rw [ecl,hfr] at hcl
 have lk:∀x,(fr.reverse.map fun x=>(x,(X.env.cells.lookup x).getD 0)).lookup x=if x∈fr then some ((X.env.cells.lookup x).getD 0) else none:=fun x=>by
  rw [lookup_map];simp
 have inF:∀x c,(fr.reverse.map fun x=>(x,(X.env.cells.lookup x).getD 0)).lookup x=some c->x∈fr:=fun x c e=>by
  rw [lk] at e
  by_cases hx:x∈fr
  ·exact hx
  ·rw [if_neg hx] at e;cases e
 have eqF:∀x c,(fr.reverse.map fun x=>(x,(X.env.cells.lookup x).getD 0)).lookup x=some c->X.env.cells.lookup x=some c:=fun x c e=>by
  have hx:=inF x c e
  rw [lk,if_pos hx] at e
  rw [had x hx];exact e
 obtain ⟨ps,hP,ht,hnf,q⟩:=hw
 exact ps_def hcode hC hB (by rw [hc.n];exact nd) hN hx hq hcl hd0 hk0 ha (.inl (hf name)) pins s σ H D I ⟨ps,hP,ht,hnf,fun f c' oc vs t ctv doc=>q _ f c' oc vs t ctv doc
  (fun x hx=>⟨_,had x hx,by rw [lk,if_pos hx]⟩) inF fun x y c e1 e2=>I.ok.inj x y c (eqF x c e1) (eqF y c e2)⟩
theorem zpsk_def (hc:HC X N sc) (nd:N.Nodup) (hf:∀x,X.fn x=true) (i:Nat) (h:okL N sc i name=true) (hcode:X.env.code=.ref c) (hC:CodeHd X.base c P) (hB:BMain X.mg X.base) (hq:qualnameIn X.env name name=qual) (hfr:freeOf scope=fr) (hce:∀x∈fr,sc.names.lookup x=some .cell)
  (hd0:params.defaults=[]) (hk0:params.kw_defaults=[]) (ha:annTrees params none X.env=[]) :
  ZS X (.FunctionDef name params body [] none [] scope none name pos) (tDefK P X.mg name qual params body scope pos i X.env.cells fr):=⟨psk_def hc nd hf i h hcode hC hB hq hfr hce hd0 hk0 ha⟩
end
theorem Fun.okZc {P:Program} {w:World} {K:PySem.W.Frag} {mg:Str->Option Value} {base:Heap} {x qual:Str} {st:Stmt} {f:Addr} {fd:FuncData} {N ps:List Str} {k:Nat} {sp:Sp} (F:Fun K x qual st f fd) (S:FnScope N ps (defScope st)) (len:∀vs H Q E,sp vs H Q E->vs.length=ps.length)
  (hbody:∀(cdv:Value) (A:Around) (outer:List Env) (s:Shared) (H:Hp) (vs:List V) (Q:VK) (E:XK),fd.code=cdv->Room k (A.deeper (envOfC qual (defScope st) s.heap.objs.size f cdv))->sp vs H Q E->
   HC (cxOf CX0 P w K mg base N qual (defScope st) f cdv A outer s H E).nox N (defScope st)->(∀x,(cxOf CX0 P w K mg base N qual (defScope st) f cdv A outer s H E).nox.fn x=true)->
   ∃t,ZSs (cxOf CX0 P w K mg base N qual (defScope st) f cdv A outer s H E).nox (defBody st) t/\t { nx:=fun _ H'=>Q .non H',rt:=Q } (start N vs) H):FnOk P w K mg base CX0 (k+1) f fd ps sp:=by
 obtain ⟨oc,od,kV,doc,pm,an,cdv,ct,osl,rfl,lk,hcd⟩:=F.ex
 refine fn_of lk hcd S len fun A outer s H vs Q E hr hsp=>?_
 obtain ⟨t,h,q⟩:=hbody cdv A outer s H vs Q E rfl hr hsp ⟨rfl,rfl⟩ fun _=>rfl
 exact ⟨t,h.to.nox,q⟩
theorem lands0 {X:Cx}:Lands X fun _=>E0:=fun _ _ _ _ _ _ _ _ _ h=>h.elim
theorem hxs_of {X:Cx} {N:List Str} {sc:Scope} {xs:List (Nat×Str)} (hc:HC X N sc) (h:(xs.all fun q=>N[q.1]? == some q.2 && sc.names.lookup q.2 == some .cell)=true):∀q∈xs,X.N[q.1]? = some q.2/\X.env.scope.names.lookup q.2=some .cell:=fun q hq=>by
 have:=List.all_eq_true.mp h q hq
 simp only [Bool.and_eq_true,beq_iff_eq] at this
 rw [hc.n,hc.s];exact this
end L2
end
namespace My
open PySem L2
def top (i:Nat):Stmt:=PySem.Challenge.pw_truceroll_k51_grown.main.body.getD i (.Pass ⟨0,0,0,0⟩)
abbrev s_set_of:Stmt:=top 4
abbrev s_rest_of:Stmt:=top 5
abbrev s_grown:Stmt:=top 7
abbrev s__law_hand:Stmt:=top 9
abbrev s__law_next:Stmt:=top 10
abbrev s__law_take:Stmt:=top 11
abbrev s__law_draw:Stmt:=top 12
abbrev s__law_is_within:Stmt:=top 13
abbrev s__law_is_whole:Stmt:=top 14
abbrev s__law_is_set:Stmt:=top 15
abbrev s__law_members:Stmt:=top 16
abbrev s__law_some:Stmt:=top 17
abbrev s__law_model:Stmt:=top 18
abbrev s__law_tells:Stmt:=top 19
abbrev s__law_asked_well:Stmt:=top 20
abbrev s__law_due:Stmt:=top 21
abbrev s_law:Stmt:=top 22
abbrev nm_set_of:List Str:=["numbers"]
abbrev nm_rest_of:List Str:=["whole","part"]
abbrev nm_grown:List Str:=["whole","ask","part","peace","member","more"]
abbrev nm__law_hand:List Str:=["_law_script"]
abbrev nm__law_next:List Str:=["_law_hand_here"]
abbrev nm__law_take:List Str:=["_law_hand_here","_law_cell"]
abbrev nm__law_draw:List Str:=["_law_hand_here","_law_many","_law_got","_law_value","_law_size"]
abbrev nm__law_is_within:List Str:=["_law_one","_law_other"]
abbrev nm__law_is_whole:List Str:=["_law_thing"]
abbrev nm__law_is_set:List Str:=["_law_thing"]
abbrev nm__law_members:List Str:=["_law_hand_here","_law_most","_law_far","_law_step","_law_at","_law_row","_law_k"]
abbrev nm__law_some:List Str:=["_law_hand_here","_law_whole"]
abbrev nm__law_model:List Str:=["_law_hand_here","_law_whole","_law_way","_law_weights","_law_alike","_law_one","_law_most","_law_sets","_law_at"]
abbrev nm__law_tells:List Str:=["_law_model_here","_law_part"]
abbrev nm__law_asked_well:List Str:=["_law_notes","_law_whole","_law_part"]
abbrev nm__law_due:List Str:=["_law_model_here","_law_whole","_law_part","_law_member","_law_larger"]
abbrev nm_law:List Str:=["_law_script","_law_hand_here","_law_whole","_law_model_here","_law_notes","_law_ask","_law_k","_law_part","_law_told","_law_refused","e"]
def inCls (s:Stmt) (j:Nat):Stmt:=match s with
 | .ClassDef _ _ _ b _ _ _ _ _ _ _=>b.getD j (.Pass ⟨0,0,0,0⟩)
 | _=>.Pass ⟨0,0,0,0⟩
abbrev s_NoPeace___init__:Stmt:=inCls (top 2) 0
abbrev nm_NoPeace___init__:List Str:=["self","part"]
abbrev s_law_in__law_ask:Stmt:=(defBody s_law).getD 4 (.Pass ⟨0,0,0,0⟩)
abbrev ps_law_in__law_ask:List Str:=["_law_part"]
abbrev fr_law_in__law_ask:List Str:=["_law_model_here","_law_notes"]
structure Adr where
 a_set_of:Addr
 d_set_of:FuncData
 a_rest_of:Addr
 d_rest_of:FuncData
 a_grown:Addr
 d_grown:FuncData
 a__law_hand:Addr
 d__law_hand:FuncData
 a__law_next:Addr
 d__law_next:FuncData
 a__law_take:Addr
 d__law_take:FuncData
 a__law_draw:Addr
 d__law_draw:FuncData
 a__law_is_within:Addr
 d__law_is_within:FuncData
 a__law_is_whole:Addr
 d__law_is_whole:FuncData
 a__law_is_set:Addr
 d__law_is_set:FuncData
 a__law_members:Addr
 d__law_members:FuncData
 a__law_some:Addr
 d__law_some:FuncData
 a__law_model:Addr
 d__law_model:FuncData
 a__law_tells:Addr
 d__law_tells:FuncData
 a__law_asked_well:Addr
 d__law_asked_well:FuncData
 a__law_due:Addr
 d__law_due:FuncData
 a_law:Addr
 d_law:FuncData
 c_TruceError:Addr
 c_NoPeace:Addr
 a_NoPeace___init__:Addr
 d_NoPeace___init__:FuncData
structure Txt (K:PySem.W.Frag) (mg:Str->Option Value) (t:Adr):Prop where
 F_set_of:Fun K "set_of" "set_of" s_set_of t.a_set_of t.d_set_of
 b_set_of:Binds K t.d_set_of ["numbers"] []
 m_set_of:mg "set_of" = some (.ref t.a_set_of)
 F_rest_of:Fun K "rest_of" "rest_of" s_rest_of t.a_rest_of t.d_rest_of
 b_rest_of:Binds K t.d_rest_of ["whole","part"] []
 m_rest_of:mg "rest_of" = some (.ref t.a_rest_of)
 F_grown:Fun K "grown" "grown" s_grown t.a_grown t.d_grown
 b_grown:Binds K t.d_grown ["whole","ask","part"] []
 m_grown:mg "grown" = some (.ref t.a_grown)
 F__law_hand:Fun K "_law_hand" "_law_hand" s__law_hand t.a__law_hand t.d__law_hand
 b__law_hand:Binds K t.d__law_hand ["_law_script"] []
 m__law_hand:mg "_law_hand" = some (.ref t.a__law_hand)
 F__law_next:Fun K "_law_next" "_law_next" s__law_next t.a__law_next t.d__law_next
 b__law_next:Binds K t.d__law_next ["_law_hand_here"] []
 m__law_next:mg "_law_next" = some (.ref t.a__law_next)
 F__law_take:Fun K "_law_take" "_law_take" s__law_take t.a__law_take t.d__law_take
 b__law_take:Binds K t.d__law_take ["_law_hand_here"] []
 m__law_take:mg "_law_take" = some (.ref t.a__law_take)
 F__law_draw:Fun K "_law_draw" "_law_draw" s__law_draw t.a__law_draw t.d__law_draw
 b__law_draw:Binds K t.d__law_draw ["_law_hand_here","_law_many"] []
 m__law_draw:mg "_law_draw" = some (.ref t.a__law_draw)
 F__law_is_within:Fun K "_law_is_within" "_law_is_within" s__law_is_within t.a__law_is_within t.d__law_is_within
 b__law_is_within:Binds K t.d__law_is_within ["_law_one","_law_other"] []
 m__law_is_within:mg "_law_is_within" = some (.ref t.a__law_is_within)
 F__law_is_whole:Fun K "_law_is_whole" "_law_is_whole" s__law_is_whole t.a__law_is_whole t.d__law_is_whole
 b__law_is_whole:Binds K t.d__law_is_whole ["_law_thing"] []
 m__law_is_whole:mg "_law_is_whole" = some (.ref t.a__law_is_whole)
 F__law_is_set:Fun K "_law_is_set" "_law_is_set" s__law_is_set t.a__law_is_set t.d__law_is_set
 b__law_is_set:Binds K t.d__law_is_set ["_law_thing"] []
 m__law_is_set:mg "_law_is_set" = some (.ref t.a__law_is_set)
 F__law_members:Fun K "_law_members" "_law_members" s__law_members t.a__law_members t.d__law_members
 b__law_members:Binds K t.d__law_members ["_law_hand_here","_law_most"] []
 m__law_members:mg "_law_members" = some (.ref t.a__law_members)
 F__law_some:Fun K "_law_some" "_law_some" s__law_some t.a__law_some t.d__law_some
 b__law_some:Binds K t.d__law_some ["_law_hand_here","_law_whole"] []
 m__law_some:mg "_law_some" = some (.ref t.a__law_some)
 F__law_model:Fun K "_law_model" "_law_model" s__law_model t.a__law_model t.d__law_model
 b__law_model:Binds K t.d__law_model ["_law_hand_here","_law_whole"] []
 m__law_model:mg "_law_model" = some (.ref t.a__law_model)
 F__law_tells:Fun K "_law_tells" "_law_tells" s__law_tells t.a__law_tells t.d__law_tells
 b__law_tells:Binds K t.d__law_tells ["_law_model_here","_law_part"] []
 m__law_tells:mg "_law_tells" = some (.ref t.a__law_tells)
 F__law_asked_well:Fun K "_law_asked_well" "_law_asked_well" s__law_asked_well t.a__law_asked_well t.d__law_asked_well
 b__law_asked_well:Binds K t.d__law_asked_well ["_law_notes","_law_whole"] []
 m__law_asked_well:mg "_law_asked_well" = some (.ref t.a__law_asked_well)
 F__law_due:Fun K "_law_due" "_law_due" s__law_due t.a__law_due t.d__law_due
 b__law_due:Binds K t.d__law_due ["_law_model_here","_law_whole","_law_part"] []
 m__law_due:mg "_law_due" = some (.ref t.a__law_due)
 F_law:Fun K "law" "law" s_law t.a_law t.d_law
 b_law:Binds K t.d_law ["_law_script"] []
 m_law:mg "law" = some (.ref t.a_law)
 z_abs:mg "abs" = none
 z_all:mg "all" = none
 z_any:mg "any" = none
 z_bool:mg "bool" = none
 z_int:mg "int" = none
 z_isinstance:mg "isinstance" = none
 z_len:mg "len" = none
 z_list:mg "list" = none
 z_range:mg "range" = none
 z_set:mg "set" = none
 z_sorted:mg "sorted" = none
 z_sum:mg "sum" = none
 z_tuple:mg "tuple" = none
 m_TruceError:mg "TruceError" = some (.ref t.c_TruceError)
 x_TruceError:XC K t.c_TruceError
 kc_TruceError:PySem.W.keepIn K (.ref t.c_TruceError)=true
 ii_TruceError:PySem.W.findIn K (.ref t.c_TruceError) "__init__" = some (some (.builtin "ValueError.__init__"))
 rd_TruceError:PySem.W.readsIn K t.c_TruceError (.type "type")=true
 fc_TruceError:PySem.W.findCls K (.ref t.c_TruceError) (.type "type") "__init__" = some (.val (.builtin "ValueError.__init__"))
 sg_TruceError:PySem.W.specialIn K (.ref t.c_TruceError) "__getattribute__" = some (some (.builtin "type.__getattribute__"))
 m_NoPeace:mg "NoPeace" = some (.ref t.c_NoPeace)
 x_NoPeace:XC K t.c_NoPeace
 kc_NoPeace:PySem.W.keepIn K (.ref t.c_NoPeace)=true
 F_NoPeace___init__:Fun K "__init__" "NoPeace.__init__" s_NoPeace___init__ t.a_NoPeace___init__ t.d_NoPeace___init__
 b_NoPeace___init__:Binds K t.d_NoPeace___init__ nm_NoPeace___init__ []
 ii_NoPeace:PySem.W.findIn K (.ref t.c_NoPeace) "__init__" = some (some (.ref t.a_NoPeace___init__))
 if_NoPeace:PySem.W.typeIn K (.ref t.a_NoPeace___init__)=some (.type "function")
 tk_NoPeace:PySem.W.takerIn K t.c_NoPeace "part" = some none
 nf_NoPeace:PySem.W.findIn K (.ref t.c_NoPeace) "part" = some none
 su_NoPeace_NoPeace:PySem.W.subIn K (.ref t.c_NoPeace) (.ref t.c_NoPeace)=some true
 kv_NoPeace:PySem.W.kitOne K (.ref t.c_NoPeace) (.type "ValueError")=some true
theorem sc_NoPeace___init__:FnScope nm_NoPeace___init__ nm_NoPeace___init__ (defScope s_NoPeace___init__):=⟨rfl,rfl,rfl,by decide +kernel,rfl,by decide +kernel,by decide +kernel⟩
theorem sc_set_of:FnScope nm_set_of ["numbers"] (defScope s_set_of):=⟨rfl,rfl,rfl,by decide +kernel,rfl,by decide +kernel,by decide +kernel⟩
theorem sc_rest_of:FnScope nm_rest_of ["whole","part"] (defScope s_rest_of):=⟨rfl,rfl,rfl,by decide +kernel,rfl,by decide +kernel,by decide +kernel⟩
theorem sc_grown:FnScope nm_grown ["whole","ask","part"] (defScope s_grown):=⟨rfl,rfl,rfl,by decide +kernel,rfl,by decide +kernel,by decide +kernel⟩
theorem sc__law_hand:FnScope nm__law_hand ["_law_script"] (defScope s__law_hand):=⟨rfl,rfl,rfl,by decide +kernel,rfl,by decide +kernel,by decide +kernel⟩
theorem sc__law_next:FnScope nm__law_next ["_law_hand_here"] (defScope s__law_next):=⟨rfl,rfl,rfl,by decide +kernel,rfl,by decide +kernel,by decide +kernel⟩
theorem sc__law_take:FnScope nm__law_take ["_law_hand_here"] (defScope s__law_take):=⟨rfl,rfl,rfl,by decide +kernel,rfl,by decide +kernel,by decide +kernel⟩
theorem sc__law_draw:FnScope nm__law_draw ["_law_hand_here","_law_many"] (defScope s__law_draw):=⟨rfl,rfl,rfl,by decide +kernel,rfl,by decide +kernel,by decide +kernel⟩
theorem sc__law_is_within:FnScope nm__law_is_within ["_law_one","_law_other"] (defScope s__law_is_within):=⟨rfl,rfl,rfl,by decide +kernel,rfl,by decide +kernel,by decide +kernel⟩
theorem sc__law_is_whole:FnScope nm__law_is_whole ["_law_thing"] (defScope s__law_is_whole):=⟨rfl,rfl,rfl,by decide +kernel,rfl,by decide +kernel,by decide +kernel⟩
theorem sc__law_is_set:FnScope nm__law_is_set ["_law_thing"] (defScope s__law_is_set):=⟨rfl,rfl,rfl,by decide +kernel,rfl,by decide +kernel,by decide +kernel⟩
theorem sc__law_members:FnScope nm__law_members ["_law_hand_here","_law_most"] (defScope s__law_members):=⟨rfl,rfl,rfl,by decide +kernel,rfl,by decide +kernel,by decide +kernel⟩
theorem sc__law_some:FnScope nm__law_some ["_law_hand_here","_law_whole"] (defScope s__law_some):=⟨rfl,rfl,rfl,by decide +kernel,rfl,by decide +kernel,by decide +kernel⟩
theorem sc__law_model:FnScope nm__law_model ["_law_hand_here","_law_whole"] (defScope s__law_model):=⟨rfl,rfl,rfl,by decide +kernel,rfl,by decide +kernel,by decide +kernel⟩
theorem sc__law_tells:FnScope nm__law_tells ["_law_model_here","_law_part"] (defScope s__law_tells):=⟨rfl,rfl,rfl,by decide +kernel,rfl,by decide +kernel,by decide +kernel⟩
theorem sc__law_asked_well:FnScope nm__law_asked_well ["_law_notes","_law_whole"] (defScope s__law_asked_well):=⟨rfl,rfl,rfl,by decide +kernel,rfl,by decide +kernel,by decide +kernel⟩
theorem sc__law_due:FnScope nm__law_due ["_law_model_here","_law_whole","_law_part"] (defScope s__law_due):=⟨rfl,rfl,rfl,by decide +kernel,rfl,by decide +kernel,by decide +kernel⟩
theorem sc_law:FnScope nm_law ["_law_script"] (defScope s_law):=⟨rfl,rfl,rfl,by decide +kernel,rfl,by decide +kernel,by decide +kernel⟩
theorem b_abs:bootBuiltins "abs" = some (.builtin "abs"):=by decide +kernel
theorem b_all:bootBuiltins "all" = some (.builtin "all"):=by decide +kernel
theorem b_any:bootBuiltins "any" = some (.builtin "any"):=by decide +kernel
theorem b_bool:bootBuiltins "bool" = some (.type "bool"):=by decide +kernel
theorem b_int:bootBuiltins "int" = some (.type "int"):=by decide +kernel
theorem b_isinstance:bootBuiltins "isinstance" = some (.builtin "isinstance"):=by decide +kernel
theorem b_len:bootBuiltins "len" = some (.builtin "len"):=by decide +kernel
theorem b_list:bootBuiltins "list" = some (.type "list"):=by decide +kernel
theorem b_set:bootBuiltins "set" = some (.type "set"):=by decide +kernel
theorem b_sorted:bootBuiltins "sorted" = some (.builtin "sorted"):=by decide +kernel
theorem b_sum:bootBuiltins "sum" = some (.builtin "sum"):=by decide +kernel
theorem b_tuple:bootBuiltins "tuple" = some (.type "tuple"):=by decide +kernel
local macro_rules | `(tactic| walk_at "rd") => `(tactic| walk_at "rc")
local macro_rules | `(tactic| walk_at "rl") => `(tactic| first | (refine seq_op fun R hR => ?_) | walk_at "ry" | (refine Nx.to (by assumption) _ _ ?_))
local macro_rules | `(tactic| walk_at "rc") => do
  let ids := ("L2.start tSeq tNext tIfS tTest tB tOp tUn tVar tC tAsg gName gTup gCons gNil qEqFL gSub tRet tRetN tDrop tCall tCons tNil tCB tTxtsL tDNewK tLst tTup rI0 rI rU rEq rNe scal tAugS ipI qIxL qIxT qIxS qSlL qSlT qSlT2 qLenL qLenT qListL qListT qTupleL qListD qDictD qSorted qSetS qSortSet qAllB qEqD rUpdateD tNever qJoin qInL qInT qInS qEqL qIsi qSet tSl tPart tNoPart rSlS tBM tBM0 rAppend rExtend rReverse rClear rClearD rPopAt rCat tRev tAnd tOr tNot tAndV tOrV tNotV tIf List.map_cons List.map_nil List.cons_append List.nil_append List.append_nil List.length_cons List.length_nil List.replicate List.getElem?_cons_zero List.getElem?_cons_succ List.set_cons_zero List.set_cons_succ Nat.reduceAdd Nat.reduceSub Nat.reduceLeDiff Option.some.injEq V.int.injEq V.ref.injEq V.str.injEq V.bl.injEq V.ty.injEq List.cons.injEq HO.lst.injEq HO.tup.injEq HO.dK.injEq exists_eq_left exists_eq_left' exists_and_left and_true true_and and_assoc exists_const reduceCtorEq upd_same upd_upd decide_eq_true_eq List.length_map ite_true ite_false Bool.false_eq_true Bool.true_and Bool.and_true atI_0 atI_1 atI_2 atI_3 atI_4 atI_5 ixN6_1 ixN6_2 ixN6_3 ixN6_4 ixN6_5 cmul1 cmul2 cmul3 cmul4 cmul5a cmul5b cmul5c cmul5d cpow18 subS Option.join_some Option.join_none tComp_eq tFor_eq iRng1 iRng2 iRng3 qCatT tDNewT tSortK qAnyB qEqTI qEqSL rInsert qIsB rPopAt qSetI qSetIT qSortSetI iList iRev iTup tyV_str tYes Int.zero_add Int.reduceMul Int.reduceAdd Int.reduceSub Int.reduceLT Int.reduceLE Int.reducePow Int.reduceToNat Int.reduceNeg gt_iff_lt ge_iff_le spNext hv tFld sFld tMeth tMake Ends.unb HO.ext.injEq HO.xd.injEq iDict qEqDS qEqTS qIsiXA qIsiXC qIsiXT rExtendT rGetDI sXFld tBase tCallE tDPop1 tFldX tPar tRaise0 tRaise1 tThaw tTry qSumI tCallV tCallP tDefK".splitOn " ").toArray.map fun x => Lean.mkIdent x.toName
  `(tactic| simp only [$[$ids:ident],*])
local macro_rules | `(tactic| walk_at "ry") => do
  let ids := ("L2.start tNext tIfS tTest tB tOp tUn tVar tC tAsg gName gTup gCons gNil qEqFL gSub tRet tRetN tDrop tCall tCons tNil tCB tTxtsL tDNewK tLst tTup rI0 rI rU rEq rNe scal tAugS ipI qIxL qIxT qIxS qSlL qSlT qSlT2 qLenL qLenT qListL qListT qTupleL qListD qDictD qSorted qSetS qSortSet qAllB qEqD rUpdateD tNever qJoin qInL qInT qInS qEqL qIsi qSet tSl tPart tNoPart rSlS tBM tBM0 rAppend rExtend rReverse rClear rClearD rPopAt rCat tRev tAnd tOr tNot tAndV tOrV tNotV tIf List.map_cons List.map_nil List.cons_append List.nil_append List.append_nil List.length_cons List.length_nil List.replicate List.getElem?_cons_zero List.getElem?_cons_succ List.set_cons_zero List.set_cons_succ Nat.reduceAdd Nat.reduceSub Nat.reduceLeDiff Option.some.injEq V.int.injEq V.ref.injEq V.str.injEq V.bl.injEq V.ty.injEq List.cons.injEq HO.lst.injEq HO.tup.injEq HO.dK.injEq exists_eq_left exists_eq_left' exists_and_left and_true true_and and_assoc exists_const reduceCtorEq upd_same upd_upd decide_eq_true_eq List.length_map ite_true ite_false Bool.false_eq_true Bool.true_and Bool.and_true atI_0 atI_1 atI_2 atI_3 atI_4 atI_5 ixN6_1 ixN6_2 ixN6_3 ixN6_4 ixN6_5 cmul1 cmul2 cmul3 cmul4 cmul5a cmul5b cmul5c cmul5d cpow18 subS Option.join_some Option.join_none tComp_eq tFor_eq iRng1 iRng2 iRng3 qCatT tDNewT tSortK qAnyB qEqTI qEqSL rInsert qIsB rPopAt qSetI qSetIT qSortSetI iList iRev iTup tyV_str tYes Int.zero_add Int.reduceMul Int.reduceAdd Int.reduceSub Int.reduceLT Int.reduceLE Int.reducePow Int.reduceToNat Int.reduceNeg gt_iff_lt ge_iff_le spNext hv tFld sFld tMeth tMake Ends.unb HO.ext.injEq HO.xd.injEq iDict qEqDS qEqTS qIsiXA qIsiXC qIsiXT rExtendT rGetDI sXFld tBase tCallE tDPop1 tFldX tPar tRaise0 tRaise1 tThaw tTry qSumI tCallV tCallP tDefK".splitOn " ").toArray.map fun x => Lean.mkIdent x.toName
  `(tactic| simp only [$[$ids:ident],*])
section
variable {P:Program} {w:World} {K:PySem.W.Frag} {mg:Str->Option Value} {base:Heap} {t:Adr}
theorem ok_rest (T:Txt K mg t):FnOk P w K mg base CX0 1 t.a_rest_of t.d_rest_of ["whole","part"] spRest:=by
 refine T.F_rest_of.okZ sc_rest_of (fun vs H Q E h=>?_) (fun cdv A outer s H vs Q E hr h hc hf=>?_)
 ·obtain ⟨a,b,rfl,_⟩:=h;rfl
 obtain ⟨a,b,rfl,x,y,ha,hb,lx,q⟩:=h
 have hu:=hu_of hr
 have hu0:=hr.units0
 refine ⟨_,(by exact zqss_one (zps_ret (zpe_callTy call_tupleL (glk hc (by decide +kernel)) T.z_tuple b_tuple (zpa_cons (zpek_comp hc ["member"] [1] rfl (by decide +kernel) (zpi_tup (zpvk hc 0 (by decide +kernel))) (fun _ hc=>zpgb hc (by decide +kernel) 0 (by decide +kernel)) (fun _ hc=>zpifs_one (zpt_cmpR op_notInT (zpvk hc 0 (by decide +kernel)) (zpvk hc 1 (by decide +kernel)) (by with_unfolding_all rfl))) (fun _ hc=>(zpvk hc 0 (by decide +kernel)))) zpa_nil)))),?_⟩
 repeat (walk_at "rd")
 refine ⟨⟨_,sqT_of ha⟩,?_⟩
 obtain ⟨Pc,hPc⟩:∃Pc:Addr->Nat->List V->Hp->Prop,∀Z i ys H',Pc Z i ys H'↔ys=List.map V.int (restF (x.take i) y)/\Same H H'/\H' Z=some (.lst ys):=⟨_,fun _ _ _ _=>Iff.rfl⟩
 refine compAll_tup (zs:=List.map V.int x) Pc (fun Z hZ=>(hPc _ _ _ _).mpr ⟨rfl,same_new hZ _,upd_same⟩) (fun Z hZ i ys H' _ pv=>?_) (fun Z hZ i z ys H' hz pv cb=>?_) (fun Z hZ ys H' pv=>?_)
 ·obtain ⟨_,s,_⟩:=(hPc _ _ _ _).mp pv
  exact s _ _ ha
 ·obtain ⟨rfl,s1,hZ1⟩:=(hPc _ _ _ _).mp pv
  obtain ⟨n,en,rfl⟩:=int_at hz
  have hi:i < x.length:=(List.getElem?_eq_some_iff.mp en).1
  have hb1:=s1 _ _ hb
  have ef:restF (x.take (i+1)) y=restF (x.take i) y++(if n∈y then [] else [n]):=by
   unfold restF
   rw [List.take_add_one,en,List.filter_append]
   by_cases hm:n∈y <;> simp [hm]
  walk_at "rc"
  repeat (first | walk_at "rd" | simp only [hb1])
  refine ⟨rfl,flat_ints y,?_⟩
  rw [inV_ints]
  by_cases hm:n∈y
  ·rw [if_neg (by simp [hm])]
   refine (hPc _ _ _ _).mpr ⟨?_,s1,hZ1⟩
   rw [ef,if_pos hm,List.append_nil]
  ·rw [if_pos (by simp [hm])]
   have ll:(restF (x.take i) y).length<=900:=Nat.le_trans (List.length_filter_le _ _) (by rw [List.length_take];omega)
   refine ⟨hZ1,small1000 (by omega),(hPc _ _ _ _).mpr ⟨?_,same_put' s1 hZ,upd_same⟩⟩
   rw [ef,if_neg hm,List.map_append]
   rfl
 ·obtain ⟨rfl,s1,hZ1⟩:=(hPc _ _ _ _).mp pv
  rw [List.length_map,List.take_length] at hZ1
  refine ⟨Z,rfl,_,hZ1,fun p hp=>q p _ (s1.trans (same_new hp _)) (s1.free hp) ?_⟩
  exact upd_same
end
def spSetOfT:Sp:=fun vs H Q _=>∃L,vs=[.ref L]/\∃ns:List Int,H L=some (.tup (List.map V.int ns))/\ns.length < 64/\∀p ms H',Same H H'->H p=none->H' p=some (.tup (List.map V.int ms))->Rise ms->(∀x,x∈ms↔x∈ns)->Q (.ref p) H'
section
variable {P:Program} {w:World} {K:PySem.W.Frag} {mg:Str->Option Value} {base:Heap} {t:Adr}
theorem ok_setofT (T:Txt K mg t):FnOk P w K mg base CX0 1 t.a_set_of t.d_set_of ["numbers"] spSetOfT:=by
 refine T.F_set_of.okZ sc_set_of (fun vs H Q E h=>?_) (fun cdv A outer s H vs Q E hr h hc hf=>?_)
 ·obtain ⟨L,rfl,_⟩:=h;rfl
 obtain ⟨L,rfl,ns,hL,l64,q⟩:=h
 refine ⟨_,(by exact zqss_one (zps_ret (zpe_callTy call_tupleL (glk hc (by decide +kernel)) T.z_tuple b_tuple (zpa_cons (zpe_callB (call_sortSetIQ hr.hd) (glk hc (by decide +kernel)) T.z_sorted b_sorted (zpa_cons (zpe_callTy (call_setIT hr.hd) (glk hc (by decide +kernel)) T.z_set b_set (zpa_cons (zpvk hc 0 (by decide +kernel)) zpa_nil)) zpa_nil)) zpa_nil)))),?_⟩
 repeat (first | walk_at "rd" | simp only [hL])
 refine ⟨ns,rfl,by omega,fun p hp=>⟨ns,rfl,l64,fun ss' mem up p1 hp1 l hl=>?_⟩⟩
 exact q l ss' _ (((same_new hp _).trans (same_new hp1 _)).trans (same_new hl _)) (((same_new hp _).trans (same_new hp1 _)).free hl) upd_same up mem
end
local macro_rules | `(tactic| walk_at "rd") => `(tactic| walk_at "rc")
local macro_rules | `(tactic| walk_at "rc") => do
  let ids := ("L2.start tSeq tNext tIfS tTest tB tOp tUn tVar tC tAsg gName gSub tRet tRetN tDrop tCall tCons tNil tCB tTxtsL tDNewK tLst tTup rI0 rI rU rEq rNe scal tAugS ipI qIxL qIxT qIxS qSlL qSlT qSlT2 qLenL qLenT qListL qListT qTupleL qListD qDictD qSorted qSetS qSortSet qAllB qEqD rUpdateD tNever qJoin qInL qInT qInS qEqL qIsi qSet tSl tPart tNoPart rSlS tBM tBM0 rAppend rExtend rReverse rClear rClearD rPopAt rCat tRev tAnd tOr tNot tAndV tOrV tNotV tIf List.map_cons List.map_nil List.cons_append List.nil_append List.append_nil List.length_cons List.length_nil List.replicate List.getElem?_cons_zero List.getElem?_cons_succ List.set_cons_zero List.set_cons_succ Nat.reduceAdd Nat.reduceSub Nat.reduceLeDiff Option.some.injEq V.int.injEq V.ref.injEq V.str.injEq V.bl.injEq V.ty.injEq List.cons.injEq HO.lst.injEq HO.tup.injEq HO.dK.injEq exists_eq_left exists_eq_left' exists_and_left and_true true_and and_assoc exists_const reduceCtorEq upd_same upd_upd decide_eq_true_eq List.length_map ite_true ite_false Bool.false_eq_true Bool.true_and Bool.and_true atI_0 atI_1 atI_2 atI_3 atI_4 atI_5 ixN6_1 ixN6_2 ixN6_3 ixN6_4 ixN6_5 cmul1 cmul2 cmul3 cmul4 cmul5a cmul5b cmul5c cmul5d cpow18 subS Option.join_some Option.join_none tComp_eq tFor_eq iRng1 iRng2 iRng3 qCatT tDNewT tSortK qAnyB qEqTI qEqSL rInsert qIsB rPopAt qSetI qSetIT qSortSetI iList iRev iTup tyV_str tYes Int.zero_add Int.reduceMul Int.reduceAdd Int.reduceSub Int.reduceLT Int.reduceLE Int.reducePow Int.reduceToNat Int.reduceNeg gt_iff_lt ge_iff_le spNext hv".splitOn " ").toArray.map fun x => Lean.mkIdent x.toName
  `(tactic| simp only [$[$ids:ident],*])
section
variable {P:Program} {w:World} {K:PySem.W.Frag} {mg:Str->Option Value} {base:Heap} {t:Adr}
theorem ok_next (T:Txt K mg t):FnOk P w K mg base CX0 1 t.a__law_next t.d__law_next ["_law_hand_here"] spNext:=by
 refine T.F__law_next.okZ sc__law_next (fun vs H Q E h=>?_) (fun cdv A outer s H vs Q E hr h hc hf=>?_)
 ·obtain ⟨h,rfl,_⟩:=h;rfl
 obtain ⟨h,rfl,l,a,b,c,d,e,hh,q⟩:=h
 refine ⟨_,(by apply zqss_cons;exact (zps_asg (zpe_op op_mod (zpe_op op_mul (zpe_ix ix_l (zpvk hc 0 (by decide +kernel)) zpe_int (fun _ _=>rfl)) zpe_int) zpe_int) (zpg_sub (zpvk hc 0 (by decide +kernel)) zpe_int set_l));apply zqss_cons;exact (zps_asg (zpe_op op_mod (zpe_op op_mul (zpe_ix ix_l (zpvk hc 0 (by decide +kernel)) zpe_int (fun _ _=>rfl)) zpe_int) zpe_int) (zpg_sub (zpvk hc 0 (by decide +kernel)) zpe_int set_l));exact zqss_one (zps_ret (zpe_op op_add (zpe_ix ix_l (zpvk hc 0 (by decide +kernel)) zpe_int (fun _ _=>rfl)) (zpe_ix ix_l (zpvk hc 0 (by decide +kernel)) zpe_int (fun _ _=>rfl))))),?_⟩
 unfold hv at *
 walk_at "rd"
 simp only [hh]
 walk_at "rd"
 exact q
theorem ok_take (T:Txt K mg t):FnOk P w K mg base CX0 2 t.a__law_take t.d__law_take ["_law_hand_here"] spTake:=by
 have G__law_next:=ok_next (P:=P) (w:=w) (base:=base) T
 refine T.F__law_take.okZ sc__law_take (fun vs H Q E h=>?_) (fun cdv A outer s H vs Q E hr h hc hf=>?_)
 ·obtain ⟨h,rfl,_⟩:=h;rfl
 obtain ⟨h,rfl,l,ns,o,hh,⟨a,b,c,d,e,rfl,ha⟩,hl,q⟩:=h
 refine ⟨_,(by apply zqss_cons;exact (zpsk_set hc sc__law_take.nd hf 1 (by decide +kernel) zpe_int);apply zqss_cut;exact (zqs_if (zpt_cmpR op_lt (zpe_ix ix_l (zpvk hc 0 (by decide +kernel)) zpe_int (fun _ _=>rfl)) (zpe_callB call_lenL (glk hc (by decide +kernel)) T.z_len b_len (zpa_cons (zpe_ix ix_l (zpvk hc 0 (by decide +kernel)) zpe_int (fun _ _=>rfl)) zpa_nil)) (nomark _)) (by exact zqss_one (zpsk_set hc sc__law_take.nd hf 1 (by decide +kernel) (zpe_callB call_abs (glk hc (by decide +kernel)) T.z_abs b_abs (zpa_cons (zpe_ix ix_l (zpe_ix ix_l (zpvk hc 0 (by decide +kernel)) zpe_int (fun _ _=>rfl)) (zpe_ix ix_l (zpvk hc 0 (by decide +kernel)) zpe_int (fun _ _=>rfl)) (fun _ _=>rfl)) zpa_nil)))) zqss_nil);apply zqss_cons;exact (zps_augS (zpvk hc 0 (by decide +kernel)) zpe_int get_l zpe_int ip_add set_l);apply zqss_cut;exact (zqs_if (zpt_cmpR op_ge (zpvk hc 1 (by decide +kernel)) (zpe_op op_pow zpe_int zpe_int) (nomark _)) (by exact zqss_one (zps_asg (zpvk hc 1 (by decide +kernel)) (zpg_sub (zpvk hc 0 (by decide +kernel)) zpe_int set_l))) (by exact zqss_one (zps_asg zpe_int (zpg_sub (zpvk hc 0 (by decide +kernel)) zpe_int set_l))));apply zqss_cons;exact (zps_asg (zpe_op op_add (zpe_op op_mod (zpe_op op_add (zpe_ix ix_l (zpvk hc 0 (by decide +kernel)) zpe_int (fun _ _=>rfl)) (zpe_op op_mod (zpvk hc 1 (by decide +kernel)) zpe_int)) zpe_int) zpe_int) (zpg_sub (zpvk hc 0 (by decide +kernel)) zpe_int set_l));apply zqss_cons;exact (zps_asg (zpe_op op_add (zpe_op op_mod (zpe_op op_add (zpe_op op_mul (zpe_ix ix_l (zpvk hc 0 (by decide +kernel)) zpe_int (fun _ _=>rfl)) zpe_int) (zpe_op op_mod (zpvk hc 1 (by decide +kernel)) zpe_int)) zpe_int) zpe_int) (zpg_sub (zpvk hc 0 (by decide +kernel)) zpe_int set_l));apply zqss_cons;exact (zps_expr (zpe_call G__law_next (hr.mono (by omega)) (glk hc (by decide +kernel)) T.m__law_next T.F__law_next.kp T.b__law_next .nil pass0 (zpa_cons (zpvk hc 0 (by decide +kernel)) zpa_nil)));exact zqss_one (zps_expr (zpe_call G__law_next (hr.mono (by omega)) (glk hc (by decide +kernel)) T.m__law_next T.F__law_next.kp T.b__law_next .nil pass0 (zpa_cons (zpvk hc 0 (by decide +kernel)) zpa_nil)))),?_⟩
 unfold hv at *
 walk_at "rd"
 refine ⟨fun σ' H'=>∃z,σ'=[some (.ref h),some (.int z)]/\H'=H,?_,?_⟩
 ·repeat (first | walk_at "rd" | simp only [hh,hl])
  split
  ·rename_i hlt
   obtain ⟨v,hv'⟩:=atI_ints ha hlt
   rw [hv']
   walk_at "rd"
   exact ⟨_,rfl⟩
  ·exact ⟨_,rfl⟩
 ·rintro σ' H' ⟨z,e1,e2⟩
  subst e1 e2
  repeat (first | walk_at "rd" | simp only [hh,hl])
  refine ⟨fun σ' H''=>∃b' c',σ'=[some (.ref h),some (.int z)]/\H''=upd H' h (.lst [.ref l,.int (a+1),.int b',.int c',.int d,.int e]),?_,?_⟩
  ·repeat (first | walk_at "rd" | simp only [hh,hl])
   split
   ·exact ⟨_,_,rfl⟩
   ·exact ⟨_,_,rfl⟩
  ·rintro σ' H'' ⟨b',c',e1,e2⟩
   subst e1 e2
   repeat (first | walk_at "rd" | simp only [hh,hl])
   exact q _ ⟨_,_,_,_,_,rfl,by omega⟩
theorem ok_draw (T:Txt K mg t):FnOk P w K mg base CX0 3 t.a__law_draw t.d__law_draw ["_law_hand_here","_law_many"] spDraw:=by
 have G__law_next:=ok_next (P:=P) (w:=w) (base:=base) T
 have G__law_take:=ok_take (P:=P) (w:=w) (base:=base) T
 refine T.F__law_draw.okZ sc__law_draw (fun vs H Q E h=>?_) (fun cdv A outer s H vs Q E hr h hc hf=>?_)
 ·obtain ⟨h,m,rfl,_⟩:=h;rfl
 obtain ⟨h,m,rfl,hm,hm2,l,ns,o,hh,⟨a,b,c,d,e,rfl,ha⟩,hl,q⟩:=h
 refine ⟨_,(by apply zqss_cut;exact (zqs_if (zPWpt (zpw_and (zpt_cmpR op_eq (zpe_ix ix_l (zpvk hc 0 (by decide +kernel)) zpe_int (fun _ _=>rfl)) zpe_int (nomark _)) (zpw_and1 (zpt_cmpR op_eq (zpe_ix ix_l (zpvk hc 0 (by decide +kernel)) zpe_int (fun _ _=>rfl)) zpe_int (nomark _))))) (by exact zqss_one (zps_expr (zpe_call G__law_take (hr.mono (by omega)) (glk hc (by decide +kernel)) T.m__law_take T.F__law_take.kp T.b__law_take .nil pass0 (zpa_cons (zpvk hc 0 (by decide +kernel)) zpa_nil)))) zqss_nil);apply zqss_cons;exact (zqs_if (zpt_cmpR op_gt (zpe_ix ix_l (zpvk hc 0 (by decide +kernel)) zpe_int (fun _ _=>rfl)) zpe_int (nomark _)) (by apply zqss_cons;exact (zpsk_set hc sc__law_draw.nd hf 2 (by decide +kernel) (zpe_op op_mod (zpe_ix ix_l (zpvk hc 0 (by decide +kernel)) zpe_int (fun _ _=>rfl)) (zpvk hc 1 (by decide +kernel))));apply zqss_cons;exact (zps_asg (zpe_op op_fdivB (zpe_ix ix_l (zpvk hc 0 (by decide +kernel)) zpe_int (fun _ _=>rfl)) (zpvk hc 1 (by decide +kernel))) (zpg_sub (zpvk hc 0 (by decide +kernel)) zpe_int set_l));exact zqss_one (zps_ret (zpvk hc 2 (by decide +kernel)))) zqss_nil);apply zqss_cons;exact (zps_augS (zpvk hc 0 (by decide +kernel)) zpe_int get_l zpe_int ip_sub set_l);apply zqss_cons;exact (zpsk_set hc sc__law_draw.nd hf 3 (by decide +kernel) (zpe_call G__law_next (hr.mono (by omega)) (glk hc (by decide +kernel)) T.m__law_next T.F__law_next.kp T.b__law_next .nil pass0 (zpa_cons (zpvk hc 0 (by decide +kernel)) zpa_nil)));apply zqss_cons;exact (zpsk_set hc sc__law_draw.nd hf 4 (by decide +kernel) zpe_int);apply zqss_cons;exact (zqs_while PassesOwn.never (zpt_cmpR op_lt (zpvk hc 4 (by decide +kernel)) (zpvk hc 1 (by decide +kernel)) (nomark _)) (by apply zqss_cons;exact (zpsk_set hc sc__law_draw.nd hf 3 (by decide +kernel) (zpe_op op_add (zpe_op op_mul (zpvk hc 3 (by decide +kernel)) zpe_int) (zpe_call G__law_next (hr.mono (by omega)) (glk hc (by decide +kernel)) T.m__law_next T.F__law_next.kp T.b__law_next .nil pass0 (zpa_cons (zpvk hc 0 (by decide +kernel)) zpa_nil))));exact zqss_one (zpsk_set hc sc__law_draw.nd hf 4 (by decide +kernel) (zpe_op op_mul (zpvk hc 4 (by decide +kernel)) zpe_int))));exact zqss_one (zps_ret (zpe_op op_mod (zpvk hc 3 (by decide +kernel)) (zpvk hc 1 (by decide +kernel))))),?_⟩
 unfold hv at *
 walk_at "rd"
 refine ⟨fun σ' H'=>∃a b c d e,σ'=[some (.ref h),some (.int m),none,none,none]/\H'=upd H h (hv l a b c d e)/\0<=a,?_,?_⟩
 ·have same:H=upd H h (hv l a b c d e):=by
   funext x;unfold upd;split
   ·rename_i e;rw [e,hh];rfl
   ·rfl
  repeat (first | walk_at "rd" | simp only [hh,hl])
  by_cases hb:b=0
  ·by_cases hc:c=0
   ·simp only [hb,hc,if_true]
    repeat (first | walk_at "rd" | simp only [hh,hl])
    refine ⟨h,rfl,l,ns,_,hh,⟨a,b,c,d,e,by rw [hb,hc];rfl,ha⟩,hl,?_⟩
    rintro o' ⟨a',b',c',d',e',rfl,ha'⟩
    exact ⟨a',b',c',d',e',rfl,ha'⟩
   ·simp only [hb,hc,if_true,if_false,Bool.false_eq_true]
    exact ⟨a,b,c,d,e,same,ha⟩
  ·simp only [hb,if_false,Bool.false_eq_true]
   exact ⟨a,b,c,d,e,same,ha⟩
 ·rintro σ' H' ⟨a,b,c,d,e,e1,e2,ha⟩
  subst e1 e2
  repeat (first | walk_at "rd" | simp only [hh,hl])
  split
  ·rename_i hb
   refine ⟨by omega,⟨by omega,hm2⟩,q _ _ (Int.emod_nonneg _ (by omega)) (Int.emod_lt_of_pos _ (by omega)) ⟨_,_,_,_,_,rfl,ha⟩⟩
  ·rename_i hb
   obtain ⟨W,hW⟩:∃W:Nat->St->Hp->Prop,∀μ σ' H',W μ σ' H'↔∃v z a b c d e:Int,μ=(m - z).toNat/\σ'=[some (.ref h),some (.int m),none,some (.int v),some (.int z)]/\H'=upd H h (hv l a b c d e)/\0<=a/\1<=z:=⟨_,fun _ _ _=>Iff.rfl⟩
   refine ⟨W,⟨_,(hW _ _ _).mpr ⟨_,_,_,_,_,_,_,rfl,rfl,rfl,ha,by omega⟩⟩,?_⟩
   intro μ σ' H' hw'
   obtain ⟨v,z,a,b,c,d,e,rfl,e1,e2,ha,hz⟩:=(hW _ _ _).mp hw'
   subst e1 e2
   walk_at "rd"
   split
   ·rename_i hlt
    obtain ⟨N,hN⟩:∃N:St->Hp->Prop,∀σ' H',N σ' H'↔∃v z' a b c d e:Int,σ'=[some (.ref h),some (.int m),none,some (.int v),some (.int z')]/\H'=upd H h (hv l a b c d e)/\0<=a/\z'=z * 4294967296:=⟨_,fun _ _=>Iff.rfl⟩
    refine ⟨N,fun σ' H' hn=>?_,?_⟩
    ·obtain ⟨v,z',a,b,c,d,e,e1,e2,ha,e3⟩:=(hN _ _).mp hn
     exact ⟨(m - z').toNat,by omega,(hW _ _ _).mpr ⟨v,z',a,b,c,d,e,rfl,e1,e2,ha,by omega⟩⟩
    ·repeat (first | walk_at "rd" | simp only [hh,hl])
     exact (hN _ _).mpr ⟨_,_,_,_,_,_,_,rfl,rfl,ha,rfl⟩
   ·refine ⟨by omega,q _ _ (Int.emod_nonneg _ (by omega)) (Int.emod_lt_of_pos _ (by omega)) ⟨_,_,_,_,_,rfl,ha⟩⟩
end
section
variable {P:Program} {w:World} {K:PySem.W.Frag} {mg:Str->Option Value} {base:Heap} {t:Adr}
theorem ok_hand (T:Txt K mg t):FnOk P w K mg base CX0 1 t.a__law_hand t.d__law_hand ["_law_script"] (spHand K):=by
 refine T.F__law_hand.okZ sc__law_hand (fun vs H Q E h=>?_) (fun cdv A outer s H vs Q E hr h hc hf=>?_)
 ·obtain ⟨a,ns,rfl,_⟩:=h;rfl
 obtain ⟨a,ns,rfl,hS,q⟩:=h
 refine ⟨_,(by exact zqss_one (zps_ret (zpe_lst (zpa_cons (zpe_callTy call_listL (glk hc (by decide +kernel)) T.z_list b_list (zpa_cons (zpe_slice sl_list (zpvk hc 0 (by decide +kernel)) zpo_none (zpo_some zpe_int)) zpa_nil)) (zpa_cons zpe_int (zpa_cons zpe_int (zpa_cons zpe_int (zpa_cons zpe_int (zpa_cons zpe_int zpa_nil))))))))),?_⟩
 walk_at "rd"
 refine ⟨a,List.map V.int ns,rfl,hS,fun p hp=>?_⟩
 rw [cutV_map]
 walk_at "rd"
 refine fun l hl=>⟨by decide,fun h hh=>?_⟩
 have s1:=same_new hp (.lst (List.map V.int ((ns.drop (HT.sIx ns.length 0 none)).take (HT.sIx ns.length ns.length (some 63) - HT.sIx ns.length 0 none))))
 have s2:=same_new hl (.lst (List.map V.int ((ns.drop (HT.sIx ns.length 0 none)).take (HT.sIx ns.length ns.length (some 63) - HT.sIx ns.length 0 none))))
 have s3:=same_new hh (hv l 0 0 0 20011 40009)
 exact q h _ (s1.trans (s2.trans s3)) ((s1.trans s2).free hh) ⟨l,_,_,upd_same,⟨_,_,_,_,_,rfl,Int.le_refl 0⟩,s3 _ _ upd_same⟩
end
local macro_rules | `(tactic| walk_at "rd") => `(tactic| walk_at "rc")
local macro_rules | `(tactic| walk_at "rl") => `(tactic| first | (refine seq_op fun R hR => ?_) | walk_at "ry" | (refine Nx.to (by assumption) _ _ ?_))
section
variable {P:Program} {w:World} {K:PySem.W.Frag} {mg:Str->Option Value} {base:Heap} {t:Adr}
theorem ok_whole (T:Txt K mg t):FnOk P w K mg base CX0 1 t.a__law_is_whole t.d__law_is_whole ["_law_thing"] spWhole:=by
 refine T.F__law_is_whole.okZ sc__law_is_whole (fun vs H Q E h=>?_) (fun cdv A outer s H vs Q E hr h hc hf=>?_)
 ·obtain ⟨i,rfl,_⟩:=h;rfl
 obtain ⟨i,rfl,q⟩:=h
 refine ⟨_,(by exact zqss_one (zps_ret (zpe_and (zpe_callB call_isiT (glk hc (by decide +kernel)) T.z_isinstance b_isinstance (zpa_cons (zpvk hc 0 (by decide +kernel)) (zpa_cons (zpe_bltn (v:=V.ty "int") (glk hc (by decide +kernel)) T.z_int b_int rfl) zpa_nil))) (zpe_one (zpe_not (zpe_callB call_isiT (glk hc (by decide +kernel)) T.z_isinstance b_isinstance (zpa_cons (zpvk hc 0 (by decide +kernel)) (zpa_cons (zpe_bltn (v:=V.ty "bool") (glk hc (by decide +kernel)) T.z_bool b_bool rfl) zpa_nil)))))))),?_⟩
 repeat (walk_at "rd")
 refine ⟨_,.int i,true,kit_same _ _,?_⟩
 repeat (walk_at "rd")
 refine ⟨_,.int i,false,kit_no (by decide) rfl,?_⟩
 repeat (walk_at "rd")
 exact q
theorem ok_isset (T:Txt K mg t):FnOk P w K mg base CX0 2 t.a__law_is_set t.d__law_is_set ["_law_thing"] spIsSet:=by
 have G__law_is_whole:=ok_whole (P:=P) (w:=w) (base:=base) T
 refine T.F__law_is_set.okZ sc__law_is_set (fun vs H Q E h=>?_) (fun cdv A outer s H vs Q E hr h hc hf=>?_)
 ·obtain ⟨a,rfl,_⟩:=h;rfl
 obtain ⟨a,rfl,x,ha,lx,rise,q⟩:=h
 refine ⟨_,(by apply zqss_cons;exact (zqs_if (zPWpt (zpw_or (zpt_not (zpt_val (zpe_callB call_isiT (glk hc (by decide +kernel)) T.z_isinstance b_isinstance (zpa_cons (zpvk hc 0 (by decide +kernel)) (zpa_cons (zpe_bltn (v:=V.ty "tuple") (glk hc (by decide +kernel)) T.z_tuple b_tuple rfl) zpa_nil))))) (zpw_or1 (zpt_not (zpt_val (zpe_callB (call_allB hr.hd) (glk hc (by decide +kernel)) T.z_all b_all (zpa_cons (zpek_comp hc ["_law_one"] [] rfl (by decide +kernel) (zpi_tup (zpvk hc 0 (by decide +kernel))) (fun _ hc=>zpgb hc (by decide +kernel) 0 (by decide +kernel)) (fun _ _=>zpifs_nil) (fun _ hc=>(zpe_call G__law_is_whole (hr.mono (by omega)) (glk hc (by decide +kernel)) T.m__law_is_whole T.F__law_is_whole.kp T.b__law_is_whole .nil pass0 (zpa_cons (zpvk hc 0 (by decide +kernel)) zpa_nil)))) zpa_nil))))))) (by exact zqss_one (zps_ret zpe_bl)) zqss_nil);exact zqss_one (zps_ret (zpe_callB (call_allB hr.hd) (glk hc (by decide +kernel)) T.z_all b_all (zpa_cons (zpek_comp hc ["_law_k"] [0] rfl (by decide +kernel) (zpi_range1 (glk hc (by decide +kernel)) T.z_range (zpa_cons (zpe_op op_sub (zpe_callB call_lenT (glk hc (by decide +kernel)) T.z_len b_len (zpa_cons (zpvk hc 0 (by decide +kernel)) zpa_nil)) zpe_int) zpa_nil)) (fun _ hc=>zpgb hc (by decide +kernel) 0 (by decide +kernel)) (fun _ _=>zpifs_nil) (fun _ hc=>(zpe_cmpR op_lt (zpe_ix ix_t (zpvk hc 1 (by decide +kernel)) (zpvk hc 0 (by decide +kernel)) (fun _ _=>rfl)) (zpe_ix ix_t (zpvk hc 1 (by decide +kernel)) (zpe_op op_add (zpvk hc 0 (by decide +kernel)) zpe_int) (fun _ _=>rfl)) (nomark _)))) zpa_nil)))),?_⟩
 repeat (walk_at "rd")
 refine ⟨_,.tup ha,true,kit_same _ _,?_⟩
 repeat (walk_at "rd")
 refine ⟨⟨_,sqT_of ha⟩,?_⟩
 obtain ⟨Pc,hPc⟩:∃Pc:Addr->Nat->List V->Hp->Prop,∀Z i ys H',Pc Z i ys H'↔ys=List.map V.bl (List.replicate i true)/\Same H H'/\H' Z=some (.lst ys):=⟨_,fun _ _ _ _=>Iff.rfl⟩
 refine compAll_tup (zs:=List.map V.int x) Pc (fun Z hZ=>(hPc _ _ _ _).mpr ⟨rfl,same_new hZ _,upd_same⟩) (fun Z hZ i ys H' _ pv=>?_) (fun Z hZ i z ys H' hz pv cb=>?_) (fun Z hZ ys H' pv=>?_)
 ·obtain ⟨_,s,_⟩:=(hPc _ _ _ _).mp pv
  exact s _ _ ha
 ·obtain ⟨rfl,s1,hZ1⟩:=(hPc _ _ _ _).mp pv
  obtain ⟨n,en,rfl⟩:=int_at hz
  have hi:i < x.length:=(List.getElem?_eq_some_iff.mp en).1
  walk_at "rc"
  repeat (walk_at "rd")
  refine ⟨n,rfl,hZ1,by rw [List.length_replicate];exact small1000 (by omega),(hPc _ _ _ _).mpr ⟨?_,same_put' s1 hZ,upd_same⟩⟩
  rw [List.replicate_succ',List.map_append];rfl
 ·obtain ⟨rfl,s1,hZ1⟩:=(hPc _ _ _ _).mp pv
  refine ⟨Z,rfl,_,hZ1,?_⟩
  rw [all_true]
  repeat (walk_at "rd")
  have ha1:=s1 _ _ ha
  repeat (first | walk_at "rd" | simp only [ha1])
  refine ⟨by omega,by omega,?_⟩
  obtain ⟨Pd,hPd⟩:∃Pd:Addr->Nat->List V->Hp->Prop,∀Z2 i ys H'',Pd Z2 i ys H''↔ys=List.map V.bl (List.replicate i true)/\Same H' H''/\H'' Z2=some (.lst ys):=⟨_,fun _ _ _ _=>Iff.rfl⟩
  refine compAll_rng Pd (fun Z2 hZ2=>(hPd _ _ _ _).mpr ⟨rfl,same_new hZ2 _,upd_same⟩) (fun Z2 hZ2 i ys H2 hi pv cb=>?_) (fun Z2 hZ2 ys H2 pv=>?_)
  ·obtain ⟨rfl,s2,hZ3⟩:=(hPd _ _ _ _).mp pv
   have ha2:=s2 _ _ ha1
   have j1:i < x.length:=by omega
   have j2:i+1 < x.length:=by omega
   have e1:atI (List.map V.int x) (i:Int)=some (.int x[i]):=atI_nat (by rw [List.getElem?_map,List.getElem?_eq_getElem j1];rfl)
   have e2:atI (List.map V.int x) ((i:Int)+1)=some (.int x[i+1]):=atI_nat (j:=i+1) (by rw [List.getElem?_map,List.getElem?_eq_getElem j2];rfl)
   walk_at "rc"
   repeat (first | walk_at "rd" | simp only [ha2,e1,e2])
   have lt:x[i] < x[i+1]:=(List.pairwise_iff_getElem.mp rise) i (i+1) j1 j2 (by omega)
   rw [decide_eq_true lt]
   refine ⟨hZ3,by rw [List.length_replicate];exact small1000 (by omega),(hPd _ _ _ _).mpr ⟨?_,same_put' s2 hZ2,upd_same⟩⟩
   rw [List.replicate_succ',List.map_append];rfl
  ·obtain ⟨rfl,s2,hZ3⟩:=(hPd _ _ _ _).mp pv
   refine ⟨Z2,rfl,_,hZ3,?_⟩
   rw [all_true]
   exact q _ (s1.trans s2)
end
local macro_rules | `(tactic| walk_at "rd") => `(tactic| walk_at "rc")
local macro_rules | `(tactic| walk_at "rl") => `(tactic| first | (refine seq_op fun R hR => ?_) | walk_at "ry" | (refine Nx.to (by assumption) _ _ ?_))
def spWithin:Sp:=fun vs H Q _=>∃a b,vs=[.ref a,.ref b]/\∃x y:List Int,H a=some (.tup (List.map V.int x))/\H b=some (.tup (List.map V.int y))/\x.length<=900/\∀H',Same H H'->Q (.bl (isPart x y)) H'
section
variable {P:Program} {w:World} {K:PySem.W.Frag} {mg:Str->Option Value} {base:Heap} {t:Adr}
theorem ok_within (T:Txt K mg t):FnOk P w K mg base CX0 1 t.a__law_is_within t.d__law_is_within ["_law_one","_law_other"] spWithin:=by
 refine T.F__law_is_within.okZ sc__law_is_within (fun vs H Q E h=>?_) (fun cdv A outer s H vs Q E hr h hc hf=>?_)
 ·obtain ⟨a,b,rfl,_⟩:=h;rfl
 obtain ⟨a,b,rfl,x,y,ha,hb,lx,q⟩:=h
 refine ⟨_,(by exact zqss_one (zps_ret (zpe_callB (call_allB hr.hd) (glk hc (by decide +kernel)) T.z_all b_all (zpa_cons (zpek_comp hc ["_law_member"] [1] rfl (by decide +kernel) (zpi_tup (zpvk hc 0 (by decide +kernel))) (fun _ hc=>zpgb hc (by decide +kernel) 0 (by decide +kernel)) (fun _ _=>zpifs_nil) (fun _ hc=>(zpe_cmpR op_inT (zpvk hc 0 (by decide +kernel)) (zpvk hc 1 (by decide +kernel)) (by with_unfolding_all rfl)))) zpa_nil)))),?_⟩
 repeat (walk_at "rl")
 refine ⟨⟨_,sqT_of ha⟩,?_⟩
 refine compS_tup (zs:=List.map V.int x) (fun j=>x[j]?.map fun m=>V.bl (decide (m∈y))) (fun _=>RVal) (fun _ _ _ _ _ _ r=>r) (fun _ _ _ _ _ _ _ r=>r) ha (by rw [List.length_map];omega) (fun DD c H4 j z yes no hj s4 hDD hDx hyes hno=>?_) (fun D H4 vs s4 hD hD4 rl=>?_)
 ·obtain ⟨m,em,rfl⟩:=int_at hj
  rw [em] at hyes
  walk_at "rc"
  repeat (walk_at "rl")
  refine ⟨_,s4 _ _ hb,rfl,flat_ints _,?_⟩
  rw [inV_ints]
  exact hyes _ rfl _ _ (fun _ _ e=>e) rfl
 have ev:=vals_is rl
 rw [List.length_map,fm_map (l:=x) (g:=fun m=>V.bl (decide (m∈y))) fun k hk=>by rw [List.getElem?_eq_getElem hk];rfl] at ev
 subst ev
 refine ⟨D,rfl,x.map fun m=>decide (m∈y),by rw [hD4,List.map_map];rfl,?_⟩
 rw [List.all_map]
 exact q _ s4
end
def spMembers:Sp:=fun vs H Q _=>∃h most,vs=[.ref h,.int most]/\∃n:Nat,most=(n:Int)/\n<=12/\HandAt H h/\∀R ms H',Dr h H H'->H R=none->H' R=some (.tup (List.map V.int ms))->ms.length<=n->Rise ms->Q (.ref R) H'
theorem three_at {r a b c:Int} (r0:0<=r) (r1:r < 3):∃z,atI [V.int a,V.int b,V.int c] r=some (.int z)/\(z=a\/z=b\/z=c):=by
 have h:r=0\/r=1\/r=2:=by omega
 rcases h with rfl | rfl | rfl
 ·exact ⟨a,rfl,.inl rfl⟩
 ·exact ⟨b,rfl,.inr (.inl rfl)⟩
 ·exact ⟨c,rfl,.inr (.inr rfl)⟩
section
variable {P:Program} {w:World} {K:PySem.W.Frag} {mg:Str->Option Value} {base:Heap} {t:Adr}
theorem ok_members (T:Txt K mg t):FnOk P w K mg base CX0 4 t.a__law_members t.d__law_members ["_law_hand_here","_law_most"] spMembers:=by
 have G__law_draw:=ok_draw (P:=P) (w:=w) (base:=base) T
 refine T.F__law_members.okZ sc__law_members (fun vs H Q E h=>?_) (fun cdv A outer s H vs Q E hr h hc hf=>?_)
 ·obtain ⟨h,m,rfl,_⟩:=h;rfl
 obtain ⟨h,_,rfl,n,rfl,hn,hd,q⟩:=h
 refine ⟨_,(by apply zqss_cons;exact (zpsk_set hc sc__law_members.nd hf 2 (by decide +kernel) (zpe_ix ix_l (zpe_lst (zpa_cons zpe_int (zpa_cons (zpe_op op_pow zpe_int zpe_int) (zpa_cons (zpe_op op_pow zpe_int zpe_int) zpa_nil)))) (zpe_call G__law_draw (hr.mono (by omega)) (glk hc (by decide +kernel)) T.m__law_draw T.F__law_draw.kp T.b__law_draw .nil pass0 (zpa_cons (zpvk hc 0 (by decide +kernel)) (zpa_cons zpe_int zpa_nil))) (fun _ _=>rfl)));apply zqss_cons;exact (zpsk_set hc sc__law_members.nd hf 3 (by decide +kernel) (zpe_ix ix_l (zpe_lst (zpa_cons zpe_int (zpa_cons zpe_int (zpa_cons (zpe_op op_pow zpe_int zpe_int) zpa_nil)))) (zpe_call G__law_draw (hr.mono (by omega)) (glk hc (by decide +kernel)) T.m__law_draw T.F__law_draw.kp T.b__law_draw .nil pass0 (zpa_cons (zpvk hc 0 (by decide +kernel)) (zpa_cons zpe_int zpa_nil))) (fun _ _=>rfl)));apply zqss_cons;exact (zpsk_set hc sc__law_members.nd hf 4 (by decide +kernel) (zpe_op op_sub (zpe_call G__law_draw (hr.mono (by omega)) (glk hc (by decide +kernel)) T.m__law_draw T.F__law_draw.kp T.b__law_draw .nil pass0 (zpa_cons (zpvk hc 0 (by decide +kernel)) (zpa_cons (zpe_op op_add (zpe_op op_mul zpe_int (zpvk hc 2 (by decide +kernel))) zpe_int) zpa_nil))) (zpvk hc 2 (by decide +kernel))));apply zqss_cons;exact (zpsk_set hc sc__law_members.nd hf 5 (by decide +kernel) (zpe_lst zpa_nil));apply zqss_cons;exact (zqs_for PassesOwn.never rfl (zpi_range1 (glk hc (by decide +kernel)) T.z_range (zpa_cons (zpe_call G__law_draw (hr.mono (by omega)) (glk hc (by decide +kernel)) T.m__law_draw T.F__law_draw.kp T.b__law_draw .nil pass0 (zpa_cons (zpvk hc 0 (by decide +kernel)) (zpa_cons (zpe_op op_add (zpvk hc 1 (by decide +kernel)) zpe_int) zpa_nil))) zpa_nil)) (zpgk hc sc__law_members.nd hf 6 (by decide +kernel)) (by apply zqss_cons;exact (zps_expr (zpe_bm PySem.F.plainAttrs_list PySem.F.slot_list_append PySem.F.type_list_append mt_append (zpvk hc 5 (by decide +kernel)) (zpa_cons (zpvk hc 4 (by decide +kernel)) zpa_nil)));exact zqss_one (zpsk_aug hc sc__law_members.nd hf 4 (by decide +kernel) (zpe_op op_add zpe_int (zpe_call G__law_draw (hr.mono (by omega)) (glk hc (by decide +kernel)) T.m__law_draw T.F__law_draw.kp T.b__law_draw .nil pass0 (zpa_cons (zpvk hc 0 (by decide +kernel)) (zpa_cons (zpvk hc 3 (by decide +kernel)) zpa_nil)))) ip_add)));exact zqss_one (zps_ret (zpe_callTy call_tupleL (glk hc (by decide +kernel)) T.z_tuple b_tuple (zpa_cons (zpvk hc 5 (by decide +kernel)) zpa_nil)))),?_⟩
 repeat (walk_at "rd")
 refine ⟨⟨by decide,by decide,by decide⟩,⟨by decide,by decide,by decide⟩,by decide,fun p hp=>?_⟩
 have d0:=(Dr.refl (h:=h) (H:=H)).new (o:=.lst [V.int 3,V.int 1000000,V.int 1000000000000000000000000000000000000000000000000000000000000]) hp
 have hph:p≠h:=hd.ne hp
 refine draw_by hd d0 (by decide) (by decide) fun r H1 r0 r1 d1 k1=>?_
 obtain ⟨z,ez,hz⟩:=three_at (a:=3) (b:=1000000) (c:=1000000000000000000000000000000000000000000000000000000000000) r0 r1
 refine ⟨_,rfl,_,by rw [k1 p hph];exact upd_same,_,ez,⟨by decide,by decide,by decide⟩,by decide,fun p2 hp2=>?_⟩
 have d2:=d1.new (o:=.lst [V.int 1,V.int 5,V.int 1000000000]) hp2
 have hph2:p2≠h:=(d1.handAt hd).ne hp2
 refine draw_by hd d2 (by decide) (by decide) fun r' H2 r0' r1' d3 k3=>?_
 obtain ⟨st,es,hs⟩:=three_at (a:=1) (b:=5) (c:=1000000000) r0' r1'
 have hz1:1<=z/\z<=1000000000000000000000000000000000000000000000000000000000000:=by omega
 have hs1:1<=st/\st<=1000000000:=by omega
 refine ⟨_,rfl,_,by rw [k3 p2 hph2];exact upd_same,_,es,?_⟩
 repeat (walk_at "rd")
 refine ⟨.inl (by decide),draw_by hd d3 (by omega) (by omega) fun at0 H3 a0 a1 d4 k4=>⟨_,rfl,by decide,fun R hR3=>?_⟩⟩
 have hR:H R=none:=d4.free hd hR3
 have hRh:R≠h:=hd.ne hR
 refine draw_by hd (d4.new hR3) (by omega) (by omega) fun nn H4 n0 n1 d5 k5=>?_
 have hR4:H4 R=some (.lst []):=(k5 R hRh).trans upd_same
 obtain ⟨m,rfl⟩:∃m:Nat,nn=(m:Int):=⟨nn.toNat,by omega⟩
 refine ⟨_,rfl,by omega,by omega,?_⟩
 obtain ⟨Pv,hPv⟩:∃Pv:Nat->St->Hp->Prop,∀i σ' H',Pv i σ' H'↔∃(v:Int) (y:Option V) (ms:List Int),σ'=[some (.ref h),some (.int (n:Int)),some (.int z),some (.int st),some (.int v),some (.ref R),y]/\Dr h H H'/\H' R=some (.lst (List.map V.int ms))/\ms.length=i/\Rise ms/\∀m∈ms,m < v:=⟨_,fun _ _ _=>Iff.rfl⟩
 refine forAll_rng Pv ((hPv _ _ _).mpr ⟨_,none,[],rfl,d5,hR4,rfl,List.Pairwise.nil,fun k hk=>by cases hk⟩) (fun i σ' H4 hi pv=>?_) (fun σ' H4 pv=>?_)
 ·obtain ⟨v,y,ms,rfl,d5,hR5,lm,rise,below⟩:=(hPv _ _ _).mp pv
  rw [Int.toNat_natCast] at hi
  repeat (first | walk_at "rd" | simp only [hR5])
  refine ⟨.inl ⟨rfl,_,sqL_of hR5⟩,small1000 (by omega),?_⟩
  simp only [tAug,ipI]
  repeat (walk_at "rd")
  refine draw_by hd (d5.put hR) (by omega) (by omega) fun r H6 r0 r1 d6 k6=>?_
  refine ⟨_,rfl,(hPv _ _ _).mpr ⟨_,_,ms++[v],rfl,d6,by rw [k6 R hRh,upd_same,List.map_append];rfl,by rw [List.length_append];simp;omega,?_,fun m hm=>?_⟩⟩
  ·unfold Rise
   rw [List.pairwise_append]
   exact ⟨rise,by simp,fun a ha b hb=>by rw [show b=v by simpa using hb];exact below a ha⟩
  ·rcases List.mem_append.mp hm with u | u
   ·have:=below m u;omega
   ·have:m=v:=by simpa using u
    omega
 ·obtain ⟨v,y,ms,rfl,d5,hR5,lm,rise,below⟩:=(hPv _ _ _).mp pv
  rw [Int.toNat_natCast] at lm
  repeat (first | walk_at "rd" | simp only [hR5])
  exact fun p hp=>q p ms _ (d5.new hp) (d5.free hd hp) upd_same (by omega) rise
end
def spSome:Sp:=fun vs H Q _=>∃h W,vs=[.ref h,.ref W]/\HandAt H h/\∃x:List Int,H W=some (.tup (List.map V.int x))/\x.length<=100/\∀R y H',Dr h H H'->H R=none->H' R=some (.tup (List.map V.int y))->y.Sublist x->Q (.ref R) H'
section
variable {P:Program} {w:World} {K:PySem.W.Frag} {mg:Str->Option Value} {base:Heap} {t:Adr}
theorem ok_some (T:Txt K mg t):FnOk P w K mg base CX0 4 t.a__law_some t.d__law_some ["_law_hand_here","_law_whole"] spSome:=by
 have G__law_draw:=ok_draw (P:=P) (w:=w) (base:=base) T
 refine T.F__law_some.okZ sc__law_some (fun vs H Q E h=>?_) (fun cdv A outer s H vs Q E hr h hc hf=>?_)
 ·obtain ⟨h,m,rfl,_⟩:=h;rfl
 obtain ⟨h,W,rfl,hd,x,hW,lx,q⟩:=h
 have hWh:=hd.ntup hW
 refine ⟨_,(by exact zqss_one (zps_ret (zpe_callTy call_tupleL (glk hc (by decide +kernel)) T.z_tuple b_tuple (zpa_cons (zpek_comp hc ["_law_one"] [0] rfl (by decide +kernel) (zpi_tup (zpvk hc 1 (by decide +kernel))) (fun _ hc=>zpgb hc (by decide +kernel) 0 (by decide +kernel)) (fun _ hc=>zpifs_one (zpt_cmpR op_eq (zpe_call G__law_draw (hr.mono (by omega)) (glk hc (by decide +kernel)) T.m__law_draw T.F__law_draw.kp T.b__law_draw .nil pass0 (zpa_cons (zpvk hc 1 (by decide +kernel)) (zpa_cons zpe_int zpa_nil))) zpe_int (nomark _))) (fun _ hc=>(zpvk hc 0 (by decide +kernel)))) zpa_nil)))),?_⟩
 repeat (walk_at "rd")
 refine ⟨⟨_,sqT_of hW⟩,?_⟩
 obtain ⟨Pc,hPc⟩:∃Pc:Addr->Nat->List V->Hp->Prop,∀Z i ys H',Pc Z i ys H'↔∃y:List Int,ys=List.map V.int y/\Dr h H H'/\H' Z=some (.lst ys)/\y.Sublist (x.take i):=⟨_,fun _ _ _ _=>Iff.rfl⟩
 refine compAll_tup (zs:=List.map V.int x) Pc (fun Z hZ=>(hPc _ _ _ _).mpr ⟨[],rfl,Dr.refl.new hZ,upd_same,List.nil_sublist _⟩) (fun Z hZ i ys H' _ pv=>?_) (fun Z hZ i z ys H' hz pv cb=>?_) (fun Z hZ ys H' pv=>?_)
 ·obtain ⟨_,_,d,_⟩:=(hPc _ _ _ _).mp pv
  exact d.keep _ _ hWh hW
 ·obtain ⟨y,rfl,d1,hZ1,sl⟩:=(hPc _ _ _ _).mp pv
  obtain ⟨m,em,rfl⟩:=int_at hz
  have hZh:Z≠h:=hd.ne hZ
  have ly:=sl.length_le
  rw [List.length_take] at ly
  walk_at "rc"
  repeat (walk_at "rd")
  refine draw_by hd d1 (by decide) (by decide) fun r H2 r0 r1 d2 k2=>?_
  have hZ2:H2 Z=_:=(k2 Z hZh).trans hZ1
  have tk:x.take (i+1)=x.take i++[m]:=by rw [List.take_add_one,em];rfl
  by_cases e:r=1
  ·subst e
   refine ⟨rfl,?_⟩
   rw [if_pos rfl]
   refine ⟨hZ2,small1000 (by omega),(hPc _ _ _ _).mpr ⟨y++[m],by rw [List.map_append];rfl,d2.put hZ,upd_same,?_⟩⟩
   rw [tk];exact sl.append (List.Sublist.refl _)
  ·refine ⟨rfl,?_⟩
   rw [if_neg (by simpa using e)]
   refine (hPc _ _ _ _).mpr ⟨y,rfl,d2,hZ2,?_⟩
   rw [tk];exact sl.trans (List.sublist_append_left _ _)
 ·obtain ⟨y,rfl,d1,hZ1,sl⟩:=(hPc _ _ _ _).mp pv
  rw [List.length_map,List.take_length] at sl
  repeat (first | walk_at "rd" | simp only [hZ1])
  exact fun p hp=>q p y _ (d1.new hp) (d1.free hd hp) upd_same sl
end
local macro_rules | `(tactic| walk_at "rd") => `(tactic| walk_at "rc")
local macro_rules | `(tactic| walk_at "rl") => `(tactic| first | (refine seq_op fun R hR => ?_) | walk_at "ry" | (refine Nx.to (by assumption) _ _ ?_))
def dkG (ks:List Int) (g:Int->V):List (Key×V):=ks.map fun z=>(Sum.inl z,g z)
theorem dkG_val (ks:List Int) (g:Int->V) (m:Int):valV (dkG ks g) (Sum.inl m)=if m∈ks then some (g m) else none:=by
 induction ks with
 | nil=>rfl
 | cons k ks ih=>
  by_cases e:k=m
  ·subst e
   rw [if_pos List.mem_cons_self]
   exact valV_pos (p:=((Sum.inl k:Key),g k)) rfl
  ·have e2:valV (dkG (k::ks) g) (Sum.inl m)=valV (dkG ks g) (Sum.inl m):=valV_neg (p:=((Sum.inl k:Key),g k)) (fun z=>e (Sum.inl.inj z))
   rw [e2,ih]
   by_cases hm:m∈ks
   ·rw [if_pos hm,if_pos (List.mem_cons_of_mem _ hm)]
   ·rw [if_neg hm,if_neg (fun z=>(List.mem_cons.mp z).elim (fun z=>e z.symm) hm)]
theorem dkG_congr {ks:List Int} {g g':Int->V} (h:∀z∈ks,g z=g' z):dkG ks g=dkG ks g':=List.map_congr_left fun z hz=>by rw [h z hz]
theorem dkG_put {ks:List Int} (g:Int->V) {m:Int} (v:V) (h:m∈ks):putK (dkG ks g) (Sum.inl m) v=dkG ks (fun z=>if z=m then v else g z):=by
 unfold putK
 rw [if_pos (by rw [valV_any,dkG_val,if_pos h];rfl)]
 unfold dkG
 rw [List.map_map]
 refine List.map_congr_left fun z _=>?_
 by_cases e:z=m
 ·simp [e]
 ·simp [e]
theorem dkG_new {ks:List Int} (g:Int->V) {m:Int} (v:V) (h:m∉ks):putK (dkG ks g) (Sum.inl m) v=dkG (ks++[m]) (fun z=>if z=m then v else g z):=by
 rw [putK_new v (by rw [dkG_val,if_neg h])]
 unfold dkG
 rw [List.map_append]
 refine congr (congrArg _ (List.map_congr_left fun z hz=>?_)) ?_
 ·dsimp only
  rw [if_neg (show ¬z=m from fun e=>h (by rw [<-e];exact hz))]
 ·simp
theorem dkG_keys (ks:List Int) (g:Int->V):(dkG ks g).map (fun kv=>kV kv.1)=ks.map V.int:=by
 unfold dkG
 rw [List.map_map]
 rfl
theorem dkG_len (ks:List Int) (g:Int->V):(dkG ks g).length=ks.length:=List.length_map _
theorem ints_is {H:Hp} {vs:List V} {ds:List Int} (r:RepL (fun (_:Hp) (v:V) (d:Int)=>v=V.int d) H vs ds):vs=List.map V.int ds:=by
 apply List.ext_getElem (by rw [List.length_map];exact r.1)
 intro i h1 h2
 rw [List.length_map] at h2
 rw [List.getElem_map]
 exact r.2 i _ _ (List.getElem?_eq_getElem h1) (List.getElem?_eq_getElem h2)
theorem cut_le (xs:List V) (lo hi:Option Int):(cutV xs lo hi).length<=xs.length:=by
 unfold cutV
 rw [List.length_take,List.length_drop]
 omega
inductive Md where
 | wt (g:Int->Int) (most:Int) | inn (ss:List (List Int)) | out (ss:List (List Int))
def MdAt (H:Hp) (p:Addr) (W:List Int):Md->Prop
 | .wt g most=>∃d ks,H p=some (.tup [.int 2,.ref d,.int most])/\H d=some (.dK (dkG ks fun z=>.int (g z)))/\∀m∈W,m∈ks
 | .inn ss=>∃l bs,H p=some (.tup [.int 0,.ref l,.int 0])/\H l=some (.lst (List.map V.ref bs))/\SetsAt H bs ss/\ss.length<=900/\∀s∈ss,s.length<=100
 | .out ss=>∃l bs,H p=some (.tup [.int 1,.ref l,.int 0])/\H l=some (.lst (List.map V.ref bs))/\SetsAt H bs ss/\ss.length<=900/\∀s∈ss,s.length<=100
theorem MdAt.same {H H':Hp} {p:Addr} {W:List Int} {md:Md} (s:Same H H') (m:MdAt H p W md):MdAt H' p W md:=by
 cases md with
 | wt g most=>obtain ⟨d,ks,h1,h2,h3⟩:=m;exact ⟨d,ks,s _ _ h1,s _ _ h2,h3⟩
 | inn ss=>obtain ⟨l,bs,h1,h2,h3,h4⟩:=m;exact ⟨l,bs,s _ _ h1,s _ _ h2,h3.mono fun _ _ e=>s _ _ e,h4⟩
 | out ss=>obtain ⟨l,bs,h1,h2,h3,h4⟩:=m;exact ⟨l,bs,s _ _ h1,s _ _ h2,h3.mono fun _ _ e=>s _ _ e,h4⟩
def Md.tells:Md->List Int->Bool
 | .wt g most,S=>decide ((S.map g).sum<=most)
 | .inn ss,S=>ss.any fun s=>isPart S s
 | .out ss,S=>!(ss.any fun s=>isPart s S)
def spModel:Sp:=fun vs H Q _=>∃h W,vs=[.ref h,.ref W]/\HandAt H h/\∃x:List Int,H W=some (.tup (List.map V.int x))/\x.length<=12/\x.Nodup/\∀R md H',Dr h H H'->H R=none->MdAt H' R x md->Q (.ref R) H'
section
variable {P:Program} {w:World} {K:PySem.W.Frag} {mg:Str->Option Value} {base:Heap} {t:Adr}
theorem ok_model (T:Txt K mg t):FnOk P w K mg base CX0 5 t.a__law_model t.d__law_model ["_law_hand_here","_law_whole"] spModel:=by
 have G__law_draw:=ok_draw (P:=P) (w:=w) (base:=base) T
 have G__law_some:=ok_some (P:=P) (w:=w) (base:=base) T
 refine T.F__law_model.okZ sc__law_model (fun vs H Q E h=>?_) (fun cdv A outer s H vs Q E hr h hc hf=>?_)
 ·obtain ⟨h,m,rfl,_⟩:=h;rfl
 obtain ⟨h,W,rfl,hd,x,hW,lx,nd,q⟩:=h
 have hu:=hu_of hr
 have hu0:=hr.units0
 have hWh:=hd.ntup hW
 refine ⟨_,(by apply zqss_cons;exact (zpsk_set hc sc__law_model.nd hf 2 (by decide +kernel) (zpe_call G__law_draw (hr.mono (by omega)) (glk hc (by decide +kernel)) T.m__law_draw T.F__law_draw.kp T.b__law_draw .nil pass0 (zpa_cons (zpvk hc 0 (by decide +kernel)) (zpa_cons zpe_int zpa_nil))));apply zqss_cons;exact (zqs_if (zpt_cmpR op_eq (zpvk hc 2 (by decide +kernel)) zpe_int (nomark _)) (by apply zqss_cons;exact (zpsk_set hc sc__law_model.nd hf 3 (by decide +kernel) zpe_dnewK);apply zqss_cons;exact (zpsk_set hc sc__law_model.nd hf 4 (by decide +kernel) (zpe_cmpR op_eq (zpe_call G__law_draw (hr.mono (by omega)) (glk hc (by decide +kernel)) T.m__law_draw T.F__law_draw.kp T.b__law_draw .nil pass0 (zpa_cons (zpvk hc 0 (by decide +kernel)) (zpa_cons zpe_int zpa_nil))) zpe_int (nomark _)));apply zqss_cons;exact (zqs_for PassesOwn.never rfl (zpi_tup (zpvk hc 1 (by decide +kernel))) (zpgk hc sc__law_model.nd hf 5 (by decide +kernel)) (by apply zqss_cons;exact (zps_dput hu (zpvk hc 3 (by decide +kernel)) (zpvk hc 5 (by decide +kernel)) zpe_int rfl);exact zqss_one (zqs_if (zpt_not (zpt_val (zpvk hc 4 (by decide +kernel)))) (by exact zqss_one (zps_dput hu (zpvk hc 3 (by decide +kernel)) (zpvk hc 5 (by decide +kernel)) (zpe_call G__law_draw (hr.mono (by omega)) (glk hc (by decide +kernel)) T.m__law_draw T.F__law_draw.kp T.b__law_draw .nil pass0 (zpa_cons (zpvk hc 0 (by decide +kernel)) (zpa_cons zpe_int zpa_nil))) rfl)) zqss_nil)));exact zqss_one (zps_ret (zpe_tup (zpa_cons zpe_int (zpa_cons (zpvk hc 3 (by decide +kernel)) (zpa_cons (zpe_op op_sub (zpe_call G__law_draw (hr.mono (by omega)) (glk hc (by decide +kernel)) T.m__law_draw T.F__law_draw.kp T.b__law_draw .nil pass0 (zpa_cons (zpvk hc 0 (by decide +kernel)) (zpa_cons (zpe_op op_add (zpe_op op_mul zpe_int (zpe_callB call_lenT (glk hc (by decide +kernel)) T.z_len b_len (zpa_cons (zpvk hc 1 (by decide +kernel)) zpa_nil))) zpe_int) zpa_nil))) zpe_int) zpa_nil)))))) zqss_nil);apply zqss_cons;exact (zpsk_set hc sc__law_model.nd hf 6 (by decide +kernel) (zpe_ix ix_l (zpe_lst (zpa_cons zpe_int (zpa_cons zpe_int (zpa_cons zpe_int (zpa_cons zpe_int zpa_nil))))) (zpe_call G__law_draw (hr.mono (by omega)) (glk hc (by decide +kernel)) T.m__law_draw T.F__law_draw.kp T.b__law_draw .nil pass0 (zpa_cons (zpvk hc 0 (by decide +kernel)) (zpa_cons zpe_int zpa_nil))) (fun _ _=>rfl)));apply zqss_cons;exact (zpsk_comp hc sc__law_model.nd 7 (by decide +kernel) ["_law_k"] [0,1] rfl (by decide +kernel) (zpi_range1 (glk hc (by decide +kernel)) T.z_range (zpa_cons (zpe_call G__law_draw (hr.mono (by omega)) (glk hc (by decide +kernel)) T.m__law_draw T.F__law_draw.kp T.b__law_draw .nil pass0 (zpa_cons (zpvk hc 0 (by decide +kernel)) (zpa_cons (zpvk hc 6 (by decide +kernel)) zpa_nil))) zpa_nil)) (fun _ hc=>zpgb hc (by decide +kernel) 0 (by decide +kernel)) (fun _ _=>zpifs_nil) (fun _ hc=>(zpe_call G__law_some (hr.mono (by omega)) (glk hc (by decide +kernel)) T.m__law_some T.F__law_some.kp T.b__law_some .nil pass0 (zpa_cons (zpvk hc 1 (by decide +kernel)) (zpa_cons (zpvk hc 2 (by decide +kernel)) zpa_nil)))) (by rfl));apply zqss_cut;exact (zqs_if (zPWpt (zpw_and (zpt_cmpR op_gt (zpe_callB call_lenT (glk hc (by decide +kernel)) T.z_len b_len (zpa_cons (zpvk hc 1 (by decide +kernel)) zpa_nil)) zpe_int (nomark _)) (zpw_and1 (zpt_cmpR op_eq (zpe_call G__law_draw (hr.mono (by omega)) (glk hc (by decide +kernel)) T.m__law_draw T.F__law_draw.kp T.b__law_draw .nil pass0 (zpa_cons (zpvk hc 0 (by decide +kernel)) (zpa_cons zpe_int zpa_nil))) zpe_int (nomark _))))) (by apply zqss_cons;exact (zpsk_set hc sc__law_model.nd hf 8 (by decide +kernel) (zpe_call G__law_draw (hr.mono (by omega)) (glk hc (by decide +kernel)) T.m__law_draw T.F__law_draw.kp T.b__law_draw .nil pass0 (zpa_cons (zpvk hc 0 (by decide +kernel)) (zpa_cons (zpe_callB call_lenT (glk hc (by decide +kernel)) T.z_len b_len (zpa_cons (zpvk hc 1 (by decide +kernel)) zpa_nil)) zpa_nil))));exact zqss_one (zpsk_set hc sc__law_model.nd hf 7 (by decide +kernel) (zpe_op op_cat (zpvk hc 7 (by decide +kernel)) (zpe_slice sl_l (zpe_lst (zpa_cons (zpe_callTy call_tupleL (glk hc (by decide +kernel)) T.z_tuple b_tuple (zpa_cons (zpek_comp hc ["_law_one"] [1,8] rfl (by decide +kernel) (zpi_tup (zpvk hc 1 (by decide +kernel))) (fun _ hc=>zpgb hc (by decide +kernel) 0 (by decide +kernel)) (fun _ hc=>zpifs_one (zpt_cmpR op_ne (zpvk hc 0 (by decide +kernel)) (zpe_ix ix_t (zpvk hc 1 (by decide +kernel)) (zpvk hc 2 (by decide +kernel)) (fun _ _=>rfl)) (nomark _))) (fun _ hc=>(zpvk hc 0 (by decide +kernel)))) zpa_nil)) (zpa_cons (zpe_slice sl_t2 (zpvk hc 1 (by decide +kernel)) (zpo_some (zpvk hc 8 (by decide +kernel))) (zpo_some (zpe_op op_add (zpvk hc 8 (by decide +kernel)) zpe_int))) zpa_nil))) zpo_none (zpo_some (zpe_op op_add zpe_int (zpe_call G__law_draw (hr.mono (by omega)) (glk hc (by decide +kernel)) T.m__law_draw T.F__law_draw.kp T.b__law_draw .nil pass0 (zpa_cons (zpvk hc 0 (by decide +kernel)) (zpa_cons zpe_int zpa_nil))))))))) zqss_nil);exact zqss_one (zps_ret (zpe_tup (zpa_cons (zpvk hc 2 (by decide +kernel)) (zpa_cons (zpvk hc 7 (by decide +kernel)) (zpa_cons zpe_int zpa_nil)))))),?_⟩
 repeat (walk_at "rl")
 refine draw_by hd .refl (by decide) (by decide) fun way H1 w0 w1 d1 k1=>?_
 have hW1:=d1.keep _ _ hWh hW
 repeat (walk_at "rl")
 by_cases e2:way=2
 ·subst e2
  repeat (walk_at "rl")
  intro D hD
  have hD0:H D=none:=d1.free hd hD
  have hDh:D≠h:=hd.ne hD0
  have d2:Dr h H (upd H1 D (.dK [])):=d1.new hD
  have hD2:upd H1 D (.dK []) D=some (.dK []):=upd_same
  generalize upd H1 D (.dK [])=H2 at d2 hD2 ⊢
  repeat (walk_at "rl")
  refine draw_by hd d2 (by decide) (by decide) fun al H3 a0 a1 d3 k3=>?_
  have hD3:=(k3 D hDh).trans hD2
  repeat (walk_at "rl")
  have hW3:=d3.keep _ _ hWh hW
  generalize decide (al=1)=ab
  refine ⟨⟨_,sqT_of hW3⟩,?_⟩
  obtain ⟨Pv,hPv⟩:∃Pv:Nat->St->Hp->Prop,∀i σ' H',Pv i σ' H'↔∃(y:Option V) (g:Int->Int),σ'=[some (.ref h),some (.ref W),some (.int 2),some (.ref D),some (.bl ab),y,none,none,none]/\Dr h H H'/\H' D=some (.dK (dkG (x.take i) fun z=>.int (g z))):=⟨_,fun _ _ _=>Iff.rfl⟩
  refine forAll_tup (xs:=List.map V.int x) Pv ((hPv _ _ _).mpr ⟨none,fun _=>0,rfl,d3,hD3⟩) (fun i σ' H' _ pv=>?_) (fun i z σ' H4 hz pv=>?_) (fun σ' H4 pv=>?_)
  ·obtain ⟨_,_,_,d,_⟩:=(hPv _ _ _).mp pv
   exact d.keep _ _ hWh hW
  ·obtain ⟨y,g,rfl,d4,hD4⟩:=(hPv _ _ _).mp pv
   obtain ⟨m,em,rfl⟩:=int_at hz
   have hi:i < x.length:=(List.getElem?_eq_some_iff.mp em).1
   have tk:x.take (i+1)=x.take i++[m]:=by rw [List.take_add_one,em];rfl
   have nm:m∉x.take i:=fun hm=>by
    obtain ⟨j,hj,e⟩:=List.mem_take_iff_getElem.mp hm
    have:=(List.getElem_inj nd).mp (e.trans (List.getElem?_eq_some_iff.mp em).2.symm)
    omega
   repeat (first | walk_at "rl" | simp only [sDPut])
   refine ⟨_,DPut.k (k:=Sum.inl m) hD4 (small1000 (by rw [dkG_len,List.length_take];omega)),?_⟩
   rw [dkG_new _ _ nm,<-tk]
   have d5:Dr h H (upd H4 D (.dK (dkG (x.take (i+1)) fun z=>if z=m then V.int 1 else .int (g z)))):=d4.put hD0
   have eg:(fun z=>if z=m then V.int 1 else .int (g z))=fun z=>V.int (if z=m then 1 else g z):=funext fun z=>by split <;> rfl
   have hD5:upd H4 D (.dK (dkG (x.take (i+1)) fun z=>if z=m then V.int 1 else .int (g z))) D=some (.dK (dkG (x.take (i+1)) fun z=>.int (if z=m then 1 else g z))):=by rw [upd_same,eg]
   generalize upd H4 D (.dK (dkG (x.take (i+1)) fun z=>if z=m then V.int 1 else .int (g z)))=H5 at d5 hD5 ⊢
   repeat (walk_at "rl")
   cases ab with
   | true=>
    rw [if_neg (by decide)]
    exact (hPv _ _ _).mpr ⟨_,_,rfl,d5,hD5⟩
   | false=>
    rw [if_pos (by decide)]
    simp only [sDPut]
    repeat (walk_at "rl")
    refine draw_by hd d5 (by decide) (by decide) fun v H6 v0 v1 d6 k6=>?_
    have hD6:=(k6 D hDh).trans hD5
    refine ⟨_,DPut.k (k:=Sum.inl m) hD6 (small1000 (by rw [dkG_len,List.length_take];omega)),?_⟩
    rw [dkG_put _ _ (by rw [tk];simp)]
    have eg2:(fun z=>if z=m then V.int v else .int (if z=m then 1 else g z))=fun z=>V.int (if z=m then v else if z=m then 1 else g z):=funext fun z=>by split <;> rfl
    exact (hPv _ _ _).mpr ⟨_,_,rfl,d6.put hD0,by rw [upd_same,eg2]⟩
  obtain ⟨y,g,rfl,d4,hD4⟩:=(hPv _ _ _).mp pv
  rw [List.length_map,List.take_length] at hD4
  have hW4:=d4.keep _ _ hWh hW
  repeat (first | walk_at "rl" | simp only [hW4])
  refine draw_by hd d4 (by omega) (by omega) fun v H5 v0 v1 d5 k5=>⟨_,rfl,by decide,fun p hp=>?_⟩
  have hD5:=(k5 D hDh).trans hD4
  exact q p (.wt g (v - 1)) _ (d5.new hp) (d5.free hd hp) ⟨D,x,upd_same,by rw [upd_ne (ne_of_none hD5 hp)];exact hD5,fun m hm=>hm⟩
 ·rw [if_neg (by simpa using e2)]
  repeat (walk_at "rl")
  refine ⟨by decide,fun p hp=>?_⟩
  have d2:Dr h H (upd H1 p (.lst [V.int 6,V.int 6,V.int 6,V.int 21])):=d1.new hp
  have hph:p≠h:=(d1.handAt hd).ne hp
  refine draw_by hd d2 (by decide) (by decide) fun r H2 r0 r1 d3 k3=>?_
  obtain ⟨z,ez,hz⟩:=four_at (a:=6) (b:=6) (c:=6) (d:=21) r0 r1
  refine ⟨_,rfl,_,by rw [k3 p hph];exact upd_same,_,ez,?_⟩
  have hz1:6<=z/\z<=21:=by omega
  clear d2 k3 hz ez
  repeat (walk_at "rl")
  refine draw_by hd d3 (by omega) (by omega) fun nn H4 n0 n1 d4 k4=>?_
  obtain ⟨n,rfl⟩:∃n:Nat,nn=(n:Int):=⟨nn.toNat,by omega⟩
  repeat (walk_at "rl")
  refine ⟨by omega,by omega,?_⟩
  obtain ⟨Pc,hPc⟩:∃Pc:Addr->Nat->List V->Hp->Prop,∀Z i ys H',Pc Z i ys H'↔∃bs ss,ys=List.map V.ref bs/\Dr h H H'/\H' Z=some (.lst ys)/\SetsAt H' bs ss/\ss.length=i/\∀s∈ss,s.length<=100:=⟨_,fun _ _ _ _=>Iff.rfl⟩
  refine compAll_rng Pc (fun Z hZ=>(hPc _ _ _ _).mpr ⟨[],[],rfl,d4.new hZ,upd_same,⟨rfl,fun _ _ _ z=>by cases z⟩,rfl,fun _ z=>(nomatch z)⟩) (fun Z hZ i ys H' hi pv cb=>?_) (fun Z hZ ys H' pv=>?_)
  ·obtain ⟨bs,ss,rfl,d5,hZ5,sb,ls,l100⟩:=(hPc _ _ _ _).mp pv
   have hZ0:=d4.free hd hZ
   have hZh:Z≠h:=hd.ne hZ0
   walk_at "rc"
   repeat (walk_at "rl")
   refine ⟨h,W,rfl,d5.handAt hd,x,d5.keep _ _ hWh hW,by omega,fun R y H6 d6 hR hR6 sl=>?_⟩
   have hd5:=d5.handAt hd
   have hZ6:=d6.keep _ _ hZh hZ5
   have sb6:=Dr.sets hd5 d6 sb
   have lb:=sb.1
   rw [Int.toNat_natCast] at hi
   refine ⟨hZ6,small1000 (by omega),(hPc _ _ _ _).mpr ⟨bs++[R],ss++[y],by rw [List.map_append];rfl,(d5.trans d6).put hZ0,upd_same,?_,by rw [List.length_append,ls];rfl,fun s hs=>?_⟩⟩
   ·have s1:SetsAt H6 [R] [y]:=⟨rfl,fun j c u h1 h2=>by
     match j,h1,h2 with
     | 0,h1,h2=>cases h1;cases h2;exact hR6
     | _+1,h1,_=>cases h1⟩
    exact (sb6.app s1).mono fun c xs e=>by rw [upd_ne (ne_of e hZ6 (by intro z;cases z))];exact e
   ·rcases List.mem_append.mp hs with z | z
    ·exact l100 s z
    ·rw [List.mem_singleton.mp z];have:=sl.length_le;omega
  obtain ⟨bs,ss,rfl,d5,hZ5,sb,ls,l100⟩:=(hPc _ _ _ _).mp pv
  rw [Int.toNat_natCast] at ls
  have hZ0:=d4.free hd hZ
  clear hPc pv Pc d4 k4
  have hW5:=d5.keep _ _ hWh hW
  repeat (first | walk_at "rl" | simp only [hW5])
  obtain ⟨Mid,hMid⟩:∃Mid:St->Hp->Prop,∀σ' H',Mid σ' H'↔∃(L:Addr) (y:Option V) (bs:List Addr) (ss:List (List Int)),σ'=[some (.ref h),some (.ref W),some (.int way),none,none,none,some (.int z),some (.ref L),y]/\Dr h H H'/\H' L=some (.lst (List.map V.ref bs))/\SetsAt H' bs ss/\ss.length<=40/\∀s∈ss,s.length<=100:=⟨_,fun _ _=>Iff.rfl⟩
  have nx0:∀H6,Dr h H H6->H6 Z=some (.lst (List.map V.ref bs))->SetsAt H6 bs ss->Mid [some (.ref h),some (.ref W),some (.int way),none,none,none,some (.int z),some (.ref Z),none] H6:=fun H6 d6 h6 s6=>(hMid _ _).mpr ⟨Z,_,bs,ss,rfl,d6,h6,s6,by omega,l100⟩
  have fin:∀(l q2:Addr) (S1 S2:List Int) (r:Int) (L2:Addr) (y:Option V) (H2:Hp),Dr h H H2->H2 l=some (.tup (List.map V.int S1))->H2 q2=some (.tup (List.map V.int S2))->S1.length<=100->S2.length<=100->SetsAt H2 bs ss->0<=r->r < 2->
    H2 L2=some (.lst (List.map V.ref bs++cutV [V.ref l,V.ref q2] none (some (1+r))))->Mid [some (.ref h),some (.ref W),some (.int way),none,none,none,some (.int z),some (.ref L2),y] H2:=fun l q2 S1 S2 r L2 y H2 d2 h1 h2 l1 l2 s2 r0 r1 hL=>by
   have hr:r=0\/r=1:=by omega
   rcases hr with rfl | rfl
   ·refine (hMid _ _).mpr ⟨L2,y,bs++[l],ss++[S1],rfl,d2,by rw [hL,List.map_append];rfl,s2.app ⟨rfl,fun j c u e1 e2=>?_⟩,by rw [List.length_append];simp;omega,fun s hs=>?_⟩
    ·match j,e1,e2 with
     | 0,e1,e2=>cases e1;cases e2;exact h1
     | _+1,e1,_=>cases e1
    ·rcases List.mem_append.mp hs with k | k
     ·exact l100 s k
     ·rw [List.mem_singleton.mp k];exact l1
   ·refine (hMid _ _).mpr ⟨L2,y,bs++[l,q2],ss++[S1,S2],rfl,d2,by rw [hL,List.map_append];rfl,s2.app ⟨rfl,fun j c u e1 e2=>?_⟩,by rw [List.length_append];simp;omega,fun s hs=>?_⟩
    ·match j,e1,e2 with
     | 0,e1,e2=>cases e1;cases e2;exact h1
     | 1,e1,e2=>cases e1;cases e2;exact h2
     | _+2,e1,_=>cases e1
    ·rcases List.mem_append.mp hs with k | k
     ·exact l100 s k
     ·rcases List.mem_cons.mp k with k | k
      ·rw [k];exact l1
      ·rw [List.mem_singleton.mp k];exact l2
  refine ⟨Mid,?_,fun σ' H6 hm=>?_⟩
  ·repeat (first | walk_at "rl" | simp only [hW5])
   by_cases e0:0 < x.length
   ·rw [if_pos (by simpa using e0)]
    refine draw_by hd d5 (by decide) (by decide) fun r6 H6 _ _ d6 k6=>?_
    have hZh:Z≠h:=hd.ne hZ0
    have hZ6:=(k6 Z hZh).trans hZ5
    have hd5:=d5.handAt hd
    have kt:∀c xs,H' c=some (.tup xs)->H6 c=some (.tup xs):=fun c xs e=>(k6 c (hd5.ntup e)).trans e
    have sb6:=sb.mono kt
    have hW6:=kt _ _ hW5
    refine ⟨rfl,?_⟩
    by_cases e6:r6=0
    ·subst e6
     rw [if_pos rfl]
     repeat (first | walk_at "rl" | simp only [hW6])
     refine draw_by hd d6 (by omega) (by omega) fun at_ H7 a0 a1 d7 k7=>?_
     have hZ7:=(k7 Z hZh).trans hZ6
     have hd6:=d6.handAt hd
     have kt7:∀c xs,H6 c=some (.tup xs)->H7 c=some (.tup xs):=fun c xs e=>(k7 c (hd6.ntup e)).trans e
     have sb7:=sb6.mono kt7
     have hW7:=kt7 _ _ hW6
     repeat (first | walk_at "rl" | simp only [hW7])
     obtain ⟨a,rfl⟩:∃a:Nat,at_=(a:Int):=⟨at_.toNat,by omega⟩
     have ha:a < x.length:=by omega
     have eat:atI (List.map V.int x) (a:Int)=some (.int x[a]):=atI_nat (by rw [List.getElem?_map,List.getElem?_eq_getElem ha];rfl)
     refine ⟨⟨_,sqT_of hW7⟩,?_⟩
     refine compS_tup (zs:=List.map V.int x) (fun k=>if (x[k]?.any fun m=>decide (m≠x[a])) then x[k]? else none) (fun _ _ v d=>v=V.int d) (fun _ _ _ _ _ _ r=>r) (fun _ _ _ _ _ _ _ r=>r) hW7 (by rw [List.length_map];omega) (fun DD c H8 j z yes no hj s8 hDD hDx hyes hno=>?_) (fun D H8 vs s8 hD hD8 rl=>?_)
     ·obtain ⟨m,em,rfl⟩:=int_at hj
      rw [em] at hyes hno
      have hW8:=s8 _ _ hW7
      walk_at "rc"
      repeat (first | walk_at "rl" | simp only [hW8,eat])
      by_cases hm:m=x[a]
      ·rw [if_neg (by simpa using hm)]
       exact hno (if_neg (by simpa using hm)) _ fun _ _ e=>e
      ·rw [if_pos (by simpa using hm)]
       exact hyes _ (if_pos (by simpa using hm)) _ _ (fun _ _ e=>e) rfl
     have ev:=ints_is rl
     rw [List.length_map,fm_filter (l:=x) (p:=fun m=>decide (m≠x[a])) fun k hk=>by rw [List.getElem?_eq_getElem hk];rfl] at ev
     subst ev
     have lo:=List.length_filter_le (fun m=>decide (m≠x[a])) x
     generalize (x.filter fun m=>decide (m≠x[a]))=S1 at lo hD8
     have d8:=d7.on s8
     refine ⟨D,rfl,_,hD8,fun l hl=>?_⟩
     have s9:=same_new hl (.tup (List.map V.int S1))
     have hl9:upd H8 l (.tup (List.map V.int S1)) l=_:=upd_same
     have d9:Dr h H (upd H8 l (.tup (List.map V.int S1))):=d8.new hl
     generalize upd H8 l (.tup (List.map V.int S1))=H9 at s9 hl9 d9 ⊢
     have t79:=s8.trans s9
     have hW9:=t79 _ _ hW7
     have hZ9:=t79 _ _ hZ7
     have sb9:SetsAt H9 bs ss:=sb7.mono fun _ _ e=>t79 _ _ e
     refine ⟨_,hW9,fun _=>⟨by decide,fun p hp=>?_⟩,fun _ q2 hq2=>⟨by decide,fun p hp=>?_⟩⟩
     ·have s11:=same_new hp (.lst [V.ref l,V.ref W])
      have d11:Dr h H (upd H9 p (.lst [V.ref l,V.ref W])):=d9.new hp
      have hp11:upd H9 p (.lst [V.ref l,V.ref W]) p=_:=upd_same
      have hph:p≠h:=(d9.handAt hd).ne hp
      generalize upd H9 p (.lst [V.ref l,V.ref W])=H11 at s11 d11 hp11 ⊢
      refine draw_by hd d11 (by decide) (by decide) fun r12 H12 r0 r1 d12 k12=>⟨_,rfl,_,(k12 p hph).trans hp11,fun p3 hp3=>?_⟩
      have hd11:=d11.handAt hd
      have kt12:∀c xs,H11 c=some (.tup xs)->H12 c=some (.tup xs):=fun c xs e=>(k12 c (hd11.ntup e)).trans e
      have s13:=same_new hp3 (.lst (cutV [V.ref l,V.ref W] none (some (1+r12))))
      have hZ12:=(k12 Z hZh).trans (s11 _ _ hZ9)
      have lb:=sb.1
      refine ⟨_,s13 _ _ hZ12,small1000' (by rw [List.length_map];have:=cut_le [V.ref l,V.ref W] (none:Option Int) (some (1+r12));simp at this;omega),fun p4 hp4=>?_⟩
      have s14:=s13.trans (same_new hp4 (.lst (List.map V.ref bs++cutV [V.ref l,V.ref W] none (some (1+r12)))))
      exact fin l W S1 x r12 p4 _ _ ((d12.new hp3).new hp4) (s14 _ _ (kt12 _ _ (s11 _ _ hl9))) (s14 _ _ (kt12 _ _ (s11 _ _ hW9))) (by omega) (by omega) (((sb9.mono fun _ _ e=>s11 _ _ e).mono kt12).mono fun _ _ e=>s14 _ _ e) r0 r1 upd_same
     ·have s10:=same_new hq2 (.tup (cutV (List.map V.int x) (some (a:Int)) (some ((a:Int)+1))))
      have hq10:upd H9 q2 (.tup (cutV (List.map V.int x) (some (a:Int)) (some ((a:Int)+1)))) q2=some (.tup (List.map V.int ((x.drop (HT.sIx x.length 0 (some (a:Int)))).take (HT.sIx x.length x.length (some ((a:Int)+1)) - HT.sIx x.length 0 (some (a:Int)))))):=by rw [upd_same,cutV_map]
      have d10:Dr h H (upd H9 q2 (.tup (cutV (List.map V.int x) (some (a:Int)) (some ((a:Int)+1))))):=d9.new hq2
      have l2:((x.drop (HT.sIx x.length 0 (some (a:Int)))).take (HT.sIx x.length x.length (some ((a:Int)+1)) - HT.sIx x.length 0 (some (a:Int)))).length<=100:=by rw [List.length_take,List.length_drop];omega
      generalize ((x.drop (HT.sIx x.length 0 (some (a:Int)))).take (HT.sIx x.length x.length (some ((a:Int)+1)) - HT.sIx x.length 0 (some (a:Int))))=S2 at hq10 l2
      generalize upd H9 q2 (.tup (cutV (List.map V.int x) (some (a:Int)) (some ((a:Int)+1))))=H10 at s10 hq10 d10 hp ⊢
      have s11:=same_new hp (.lst [V.ref l,V.ref q2])
      have d11:Dr h H (upd H10 p (.lst [V.ref l,V.ref q2])):=d10.new hp
      have hp11:upd H10 p (.lst [V.ref l,V.ref q2]) p=_:=upd_same
      have hph:p≠h:=(d10.handAt hd).ne hp
      generalize upd H10 p (.lst [V.ref l,V.ref q2])=H11 at s11 d11 hp11 ⊢
      have sb10:SetsAt H10 bs ss:=sb9.mono fun _ _ e=>s10 _ _ e
      refine draw_by hd d11 (by decide) (by decide) fun r12 H12 r0 r1 d12 k12=>⟨_,rfl,_,(k12 p hph).trans hp11,fun p3 hp3=>?_⟩
      have hd11:=d11.handAt hd
      have kt12:∀c xs,H11 c=some (.tup xs)->H12 c=some (.tup xs):=fun c xs e=>(k12 c (hd11.ntup e)).trans e
      have s13:=same_new hp3 (.lst (cutV [V.ref l,V.ref q2] none (some (1+r12))))
      have hZ12:=(k12 Z hZh).trans (s11 _ _ (s10 _ _ hZ9))
      have lb:=sb.1
      refine ⟨_,s13 _ _ hZ12,small1000' (by rw [List.length_map];have:=cut_le [V.ref l,V.ref q2] (none:Option Int) (some (1+r12));simp at this;omega),fun p4 hp4=>?_⟩
      have s14:=s13.trans (same_new hp4 (.lst (List.map V.ref bs++cutV [V.ref l,V.ref q2] none (some (1+r12)))))
      exact fin l q2 S1 S2 r12 p4 _ _ ((d12.new hp3).new hp4) (s14 _ _ (kt12 _ _ (s11 _ _ (s10 _ _ hl9)))) (s14 _ _ (kt12 _ _ (s11 _ _ hq10))) (by omega) l2 (((sb10.mono fun _ _ e=>s11 _ _ e).mono kt12).mono fun _ _ e=>s14 _ _ e) r0 r1 upd_same
    ·rw [if_neg (by simpa using e6)]
     exact nx0 _ d6 hZ6 sb6
   ·rw [if_neg (by simpa using e0)]
    exact nx0 _ d5 hZ5 sb
  obtain ⟨L,y,bs,ss,rfl,d6,hL6,sb6,l40,l100⟩:=(hMid _ _).mp hm
  clear fin nx0 hMid hm Mid
  repeat (walk_at "rl")
  refine ⟨by decide,fun p hp=>?_⟩
  have s7:=same_new hp (.tup [V.int way,V.ref L,V.int 0])
  have hway:way=0\/way=1:=by omega
  have sb7:SetsAt (upd H6 p (.tup [V.int way,V.ref L,V.int 0])) bs ss:=sb6.mono fun _ _ e=>s7 _ _ e
  rcases hway with rfl | rfl
  ·exact q p (.inn ss) _ (d6.new hp) (d6.free hd hp) ⟨L,bs,upd_same,s7 _ _ hL6,sb7,by omega,l100⟩
  ·exact q p (.out ss) _ (d6.new hp) (d6.free hd hp) ⟨L,bs,upd_same,s7 _ _ hL6,sb7,by omega,l100⟩
end
local macro_rules | `(tactic| walk_at "rd") => `(tactic| walk_at "rc")
local macro_rules | `(tactic| walk_at "rl") => `(tactic| first | (refine seq_op fun R hR => ?_) | walk_at "ry" | (refine Nx.to (by assumption) _ _ ?_))
def spTells:Sp:=fun vs H Q _=>∃m p,vs=[.ref m,.ref p]/\∃(md:Md) (W S:List Int),MdAt H m W md/\H p=some (.tup (List.map V.int S))/\S.length<=100/\(∀z∈S,z∈W)/\∀H',Same H H'->Q (.bl (md.tells S)) H'
section
variable {P:Program} {w:World} {K:PySem.W.Frag} {mg:Str->Option Value} {base:Heap} {t:Adr}
theorem ok_tells (T:Txt K mg t):FnOk P w K mg base CX0 2 t.a__law_tells t.d__law_tells ["_law_model_here","_law_part"] spTells:=by
 have G__law_is_within:=ok_within (P:=P) (w:=w) (base:=base) T
 refine T.F__law_tells.okZ sc__law_tells (fun vs H Q E h=>?_) (fun cdv A outer s H vs Q E hr h hc hf=>?_)
 ·obtain ⟨m,p,rfl,_⟩:=h;rfl
 obtain ⟨m,p,rfl,md,W,S,ma,hp,lS,sub,q⟩:=h
 have hu:=hu_of hr
 have hu0:=hr.units0
 refine ⟨_,(by apply zqss_cons;exact (zqs_if (zpt_cmpR op_eq (zpe_ix ix_t (zpvk hc 0 (by decide +kernel)) zpe_int (fun _ _=>rfl)) zpe_int (nomark _)) (by exact zqss_one (zps_ret (zpe_cmpR op_le (zpe_callB (call_sumI hr.hd) (glk hc (by decide +kernel)) T.z_sum b_sum (zpa_cons (zpek_comp hc ["_law_one"] [0] rfl (by decide +kernel) (zpi_tup (zpvk hc 1 (by decide +kernel))) (fun _ hc=>zpgb hc (by decide +kernel) 0 (by decide +kernel)) (fun _ _=>zpifs_nil) (fun _ hc=>(zpe_dget hu (zpe_ix ix_t (zpvk hc 1 (by decide +kernel)) zpe_int (fun _ _=>rfl)) (zpvk hc 0 (by decide +kernel)) (fun _ _=>rfl)))) zpa_nil)) (zpe_ix ix_t (zpvk hc 0 (by decide +kernel)) zpe_int (fun _ _=>rfl)) (nomark _)))) zqss_nil);apply zqss_cons;exact (zqs_if (zpt_cmpR op_eq (zpe_ix ix_t (zpvk hc 0 (by decide +kernel)) zpe_int (fun _ _=>rfl)) zpe_int (nomark _)) (by exact zqss_one (zps_ret (zpe_callB (call_anyB hr.hd) (glk hc (by decide +kernel)) T.z_any b_any (zpa_cons (zpek_comp hc ["_law_one"] [1] rfl (by decide +kernel) (zpi_list (zpe_ix ix_t (zpvk hc 0 (by decide +kernel)) zpe_int (fun _ _=>rfl))) (fun _ hc=>zpgb hc (by decide +kernel) 0 (by decide +kernel)) (fun _ _=>zpifs_nil) (fun _ hc=>(zpe_call G__law_is_within (hr.mono (by omega)) (glk hc (by decide +kernel)) T.m__law_is_within T.F__law_is_within.kp T.b__law_is_within .nil pass0 (zpa_cons (zpvk hc 1 (by decide +kernel)) (zpa_cons (zpvk hc 0 (by decide +kernel)) zpa_nil))))) zpa_nil)))) zqss_nil);exact zqss_one (zps_ret (zpe_not (zpe_callB (call_anyB hr.hd) (glk hc (by decide +kernel)) T.z_any b_any (zpa_cons (zpek_comp hc ["_law_one"] [1] rfl (by decide +kernel) (zpi_list (zpe_ix ix_t (zpvk hc 0 (by decide +kernel)) zpe_int (fun _ _=>rfl))) (fun _ hc=>zpgb hc (by decide +kernel) 0 (by decide +kernel)) (fun _ _=>zpifs_nil) (fun _ hc=>(zpe_call G__law_is_within (hr.mono (by omega)) (glk hc (by decide +kernel)) T.m__law_is_within T.F__law_is_within.kp T.b__law_is_within .nil pass0 (zpa_cons (zpvk hc 0 (by decide +kernel)) (zpa_cons (zpvk hc 1 (by decide +kernel)) zpa_nil))))) zpa_nil))))),?_⟩
 cases md with
 | wt g most=>
  obtain ⟨d,ks,hm,hd,hk⟩:=ma
  repeat (first | walk_at "rl" | simp only [hm])
  refine ⟨⟨_,sqT_of hp⟩,?_⟩
  refine compS_tup (zs:=List.map V.int S) (fun j=>S[j]?.map g) (fun _ _ v d=>v=V.int d) (fun _ _ _ _ _ _ r=>r) (fun _ _ _ _ _ _ _ r=>r) hp (by rw [List.length_map];omega) (fun DD c H4 j z yes no hj s4 hDD hDx hyes hno=>?_) (fun D H4 vs s4 hD hD4 rl=>?_)
  ·obtain ⟨n,en,rfl⟩:=int_at hj
   rw [en] at hyes
   have hm4:=s4 _ _ hm
   walk_at "rc"
   repeat (first | walk_at "rl" | simp only [hm4,tDGet])
   refine ⟨.int (g n),?_,hyes _ rfl _ _ (fun _ _ e=>e) rfl⟩
   have:=DGet.k (k:=Sum.inl n) (s4 _ _ hd)
   rw [dkG_val,if_pos (hk n (sub n (List.mem_of_getElem? en)))] at this
   exact this
  have ev:=ints_is rl
  rw [List.length_map,fm_map (l:=S) (g:=g) fun k hk=>by rw [List.getElem?_eq_getElem hk];rfl] at ev
  subst ev
  have hm4:=s4 _ _ hm
  repeat (first | walk_at "rl" | simp only [hm4])
  exact ⟨_,hD4,q _ s4⟩
 | inn ss=>
  obtain ⟨l,bs,hm,hl,sb,l9,ls⟩:=ma
  repeat (first | walk_at "rl" | simp only [hm])
  refine ⟨⟨_,sqL_of hl⟩,?_⟩
  refine compS_list (zs:=List.map V.ref bs) (fun j=>ss[j]?.map fun s=>V.bl (isPart S s)) (fun _=>RVal) (fun _ _ _ _ _ _ r=>r) (fun _ _ _ _ _ _ _ r=>r) hl (by rw [List.length_map,sb.1];omega) (fun DD c H4 j z yes no hj s4 hDD hDx hyes hno=>?_) (fun D H4 vs s4 hD hD4 rl=>?_)
  ·obtain ⟨b,eb,rfl⟩:=ref_at hj
   have hj1:j < bs.length:=(List.getElem?_eq_some_iff.mp eb).1
   have es:ss[j]? = some (ss[j]'(by have:=sb.1;omega)):=List.getElem?_eq_getElem _
   have hb4:=s4 _ _ (sb.2 j b _ eb es)
   rw [es] at hyes
   walk_at "rc"
   repeat (walk_at "rl")
   exact ⟨p,b,rfl,S,_,s4 _ _ hp,hb4,by omega,fun H5 s5=>hyes _ rfl _ _ s5 rfl⟩
  have ev:=vals_is rl
  rw [List.length_map,sb.1,fm_map (l:=ss) (g:=fun s=>V.bl (isPart S s)) fun k hk=>by rw [List.getElem?_eq_getElem hk];rfl] at ev
  subst ev
  refine ⟨D,rfl,ss.map fun s=>isPart S s,by rw [hD4,List.map_map];rfl,?_⟩
  rw [List.any_map]
  exact q _ s4
 | out ss=>
  obtain ⟨l,bs,hm,hl,sb,l9,ls⟩:=ma
  repeat (first | walk_at "rl" | simp only [hm])
  refine ⟨⟨_,sqL_of hl⟩,?_⟩
  refine compS_list (zs:=List.map V.ref bs) (fun j=>ss[j]?.map fun s=>V.bl (isPart s S)) (fun _=>RVal) (fun _ _ _ _ _ _ r=>r) (fun _ _ _ _ _ _ _ r=>r) hl (by rw [List.length_map,sb.1];omega) (fun DD c H4 j z yes no hj s4 hDD hDx hyes hno=>?_) (fun D H4 vs s4 hD hD4 rl=>?_)
  ·obtain ⟨b,eb,rfl⟩:=ref_at hj
   have hj1:j < bs.length:=(List.getElem?_eq_some_iff.mp eb).1
   have es:ss[j]? = some (ss[j]'(by have:=sb.1;omega)):=List.getElem?_eq_getElem _
   have hb4:=s4 _ _ (sb.2 j b _ eb es)
   rw [es] at hyes
   walk_at "rc"
   repeat (walk_at "rl")
   exact ⟨b,p,rfl,_,S,hb4,s4 _ _ hp,by have:=ls _ (List.mem_of_getElem? es);omega,fun H5 s5=>hyes _ rfl _ _ s5 rfl⟩
  have ev:=vals_is rl
  rw [List.length_map,sb.1,fm_map (l:=ss) (g:=fun s=>V.bl (isPart s S)) fun k hk=>by rw [List.getElem?_eq_getElem hk];rfl] at ev
  subst ev
  refine ⟨D,rfl,ss.map fun s=>isPart s S,by rw [hD4,List.map_map];rfl,?_⟩
  rw [List.any_map]
  exact q _ s4
end
local macro_rules | `(tactic| walk_at "rd") => `(tactic| walk_at "rc")
local macro_rules | `(tactic| walk_at "rl") => `(tactic| first | (refine seq_op fun R hR => ?_) | walk_at "ry" | (refine Nx.to (by assumption) _ _ ?_))
def Kp (N:Addr) (H H':Hp):Prop:=∀b o,b≠N->H b=some o->H' b=some o
theorem Kp.trans {N:Addr} {H H1 H2:Hp} (a:Kp N H H1) (b:Kp N H1 H2):Kp N H H2:=fun c o hc e=>b c o hc (a c o hc e)
theorem Kp.of {N:Addr} {H H':Hp} (s:Same H H'):Kp N H H':=fun b o _ e=>s b o e
structure AskOk (P:Program) (w:World) (K:PySem.W.Frag) (mg:Str->Option Value) (base:Heap) (k:Nat) (f N:Addr) (D:Nat->Hp->Prop) (dom:List Int->Prop) (tells:List Int->Bool):Prop where
 run:∃sp,CloOk P w K mg base k f sp/\∀n H p S Q,D n H->n < 1000->H p=some (.tup (List.map V.int S))->dom S->(∀H',D (n+1) H'->Kp N H H'->Q (.bl (tells S)) H')->sp [.ref p] H Q E0
 fn:∀n H,D n H->FnO H f
 st:∀n H H',D n H->Same H H'->D n H'
 nt:∀n H xs,D n H->H N≠some (.tup xs)
theorem AskOk.tup {P:Program} {w:World} {K:PySem.W.Frag} {mg:Str->Option Value} {base:Heap} {k:Nat} {f N:Addr} {D:Nat->Hp->Prop} {dom:List Int->Prop} {tells:List Int->Bool} (a:AskOk P w K mg base k f N D dom tells) {n:Nat} {H H':Hp} (d:D n H) (kp:Kp N H H') {b:Addr} {xs:List V} (e:H b=some (.tup xs)):H' b=some (.tup xs):=
 kp b _ (fun z=>a.nt n H xs d (by rw [<-z];exact e)) e
def moreF (W c:List Int) (m:Int):List Int:=W.filter fun z=>decide (z∈c\/z=m)
def growF (tells:List Int->Bool) (W ms c:List Int):List Int:=ms.foldl (fun c m=>if tells (moreF W c m)=true then moreF W c m else c) c
theorem moreF_sub (W c:List Int) (m:Int):(moreF W c m).Sublist W:=List.filter_sublist
theorem growF_sub (tells:List Int->Bool) (W:List Int):∀(ms c:List Int),c.Sublist W->(growF tells W ms c).Sublist W
 | [],c,h=>h
 | m::ms,c,h=>by
  unfold growF
  rw [List.foldl_cons]
  refine growF_sub tells W ms _ ?_
  by_cases e:tells (moreF W c m)=true
  ·rw [if_pos e];exact moreF_sub W c m
  ·rw [if_neg e];exact h
theorem moreF_in {W c:List Int} {m:Int} (hW:Rise W) (h:c.Sublist W) (hm:m∈c):moreF W c m=c:=by
 refine rise_eq (hW.sublist (moreF_sub W c m)) (hW.sublist h) fun z=>?_
 unfold moreF
 rw [List.mem_filter,decide_eq_true_eq]
 exact ⟨fun ⟨_,a⟩=>a.elim id fun e=>e ▸ hm,fun a=>⟨h.subset a,.inl a⟩⟩
theorem growF_rest {tells:List Int->Bool} {W S:List Int} (hW:Rise W):∀(ms c:List Int),c.Sublist W->(∀z∈S,z∈c)->growF tells W (restF ms S) c=growF tells W ms c
 | [],c,_,_=>rfl
 | m::ms,c,h,hS=>by
  unfold restF
  rw [List.filter_cons]
  have sub:∀z∈S,z∈moreF W c m:=fun z hz=>List.mem_filter.mpr ⟨h.subset (hS z hz),decide_eq_true (.inl (hS z hz))⟩
  by_cases e:m∈S
  ·rw [if_neg (by simpa using e)]
   have:=growF_rest (tells:=tells) (S:=S) hW ms c h hS
   unfold restF at this
   rw [this]
   show growF tells W ms c=growF tells W ms (if tells (moreF W c m)=true then moreF W c m else c)
   rw [moreF_in hW h (hS m e)]
   simp
  ·rw [if_pos (by simpa using e)]
   show growF tells W (restF ms S) (if tells (moreF W c m)=true then moreF W c m else c)=growF tells W ms (if tells (moreF W c m)=true then moreF W c m else c)
   by_cases e2:tells (moreF W c m)=true
   ·rw [if_pos e2];exact growF_rest hW ms _ (moreF_sub W c m) sub
   ·rw [if_neg e2];exact growF_rest hW ms c h hS
def spGrown (P:Program) (w:World) (K:PySem.W.Frag) (mg:Str->Option Value) (base:Heap) (cN:Addr):Sp:=fun vs H Q E=>∃U f p,vs=[.ref U,.ref f,.ref p]/\∃(N:Addr) (D:Nat->Hp->Prop) (dom:List Int->Prop) (tells:List Int->Bool) (n:Nat) (W S:List Int),
 AskOk P w K mg base 8 f N D dom tells/\D n H/\H U=some (.tup (List.map V.int W))/\H p=some (.tup (List.map V.int S))/\Rise W/\S.Sublist W/\W.length<=60/\n+W.length < 900/\(∀T,T.Sublist W->dom T)/\
 (tells S=false->∀dx H',D (n+1) H'->Kp N H H'->H' dx=some (.xd [("part",.ref p)])->E (.ref cN) (some dx) H')/\
 (tells S=true->∀r H' n',n'<=n+1+W.length->D n' H'->Kp N H H'->H' r=some (.tup (List.map V.int (growF tells W W S)))->Q (.ref r) H')
section
variable {P:Program} {w:World} {K:PySem.W.Frag} {mg:Str->Option Value} {base:Heap} {t:Adr}
theorem ok_NoPeace (T:Txt K mg t):FnOk P w K mg base CX0 1 t.a_NoPeace___init__ t.d_NoPeace___init__ nm_NoPeace___init__ (spInit t.c_NoPeace "part"):=by
 refine T.F_NoPeace___init__.okZ sc_NoPeace___init__ (fun vs H Q E h=>?_) (fun cdv A outer s H vs Q E hr h hc hf=>?_)
 ·obtain ⟨e,v,t,rfl,_⟩:=h;rfl
 obtain ⟨e,v,t0,rfl,he,q⟩:=h
 refine ⟨_,(by apply zqss_cons;exact (zps_expr (zpe_base T.rd_TruceError T.fc_TruceError T.sg_TruceError (glk hc (by decide +kernel)) T.m_TruceError (zpa_cons (zpvk hc 0 (by decide +kernel)) (zpa_cons zpe_str zpa_nil))));exact zqss_one (zps_xfld (zpvk hc 0 (by decide +kernel)) (zpvk hc 1 (by decide +kernel)) rfl)),?_⟩
 repeat (walk_at "rd")
 refine ⟨t.c_NoPeace,t0,he,T.x_NoPeace,fun t'=>⟨t.c_NoPeace,t',rfl,T.x_NoPeace,T.tk_NoPeace,fun dx hd hne=>?_⟩⟩
 rw [upd_ne hne] at hd
 exact q dx t' hd hne
theorem ok_grown (T:Txt K mg t):FnOk P w K mg base (CXE P w) 10 t.a_grown t.d_grown ["whole","ask","part"] (spGrown P w K mg base t.c_NoPeace):=by
 have G_rest_of:=ok_rest (P:=P) (w:=w) (base:=base) T
 have G_set_of:=ok_setofT (P:=P) (w:=w) (base:=base) T
 have G_NoPeace:=ok_NoPeace (P:=P) (w:=w) (base:=base) T
 refine T.F_grown.okE sc_grown (fun vs H Q E h=>?_) (fun cdv A outer s H vs Q E hr h hc hf L hpo=>?_)
 ·obtain ⟨U,f,p,rfl,_⟩:=h;rfl
 obtain ⟨U,f,p,rfl,N,D,dom,tells,n,W,S,ask,hD,hU,hp,rW,sS,lW,ln,hdom,qe,q⟩:=h
 have hu:=hu_of hr
 have hu0:=hr.units0
 refine ⟨_,(by apply zqss_cons;exact (zqs_if (zpt_not (zpt_val (zpe_callV (k:=8) (hr.mono (by omega)) (zpvk hc 1 (by decide +kernel)) (zpa_cons (zpvk hc 2 (by decide +kernel)) zpa_nil)))) (by exact zqss_one (zps_raise1 (EH:=fun _=>E) T.x_NoPeace T.ii_NoPeace T.if_NoPeace T.kc_NoPeace G_NoPeace T.b_NoPeace___init__ (hr.mono (by omega)) (glk hc (by decide +kernel)) T.m_NoPeace rfl L (zpvk hc 2 (by decide +kernel)))) zqss_nil);apply zqss_cons;exact (zpsk_set hc sc_grown.nd hf 3 (by decide +kernel) (zpvk hc 2 (by decide +kernel)));apply zqss_cons;exact (zqs_for hpo rfl (zpi_tup (zpe_call G_rest_of (hr.mono (by omega)) (glk hc (by decide +kernel)) T.m_rest_of T.F_rest_of.kp T.b_rest_of .nil pass0 (zpa_cons (zpvk hc 0 (by decide +kernel)) (zpa_cons (zpvk hc 2 (by decide +kernel)) zpa_nil)))) (zpgk hc sc_grown.nd hf 4 (by decide +kernel)) (by apply zqss_cons;exact (zpsk_set hc sc_grown.nd hf 5 (by decide +kernel) (zpe_call G_set_of (hr.mono (by omega)) (glk hc (by decide +kernel)) T.m_set_of T.F_set_of.kp T.b_set_of .nil pass0 (zpa_cons (zpe_op op_catTQ (zpvk hc 3 (by decide +kernel)) (zpe_tup (zpa_cons (zpvk hc 4 (by decide +kernel)) zpa_nil))) zpa_nil)));exact zqss_one (zqs_if (zpt_val (zpe_callV (k:=8) (hr.mono (by omega)) (zpvk hc 1 (by decide +kernel)) (zpa_cons (zpvk hc 5 (by decide +kernel)) zpa_nil))) (by exact zqss_one (zpsk_set hc sc_grown.nd hf 3 (by decide +kernel) (zpvk hc 5 (by decide +kernel)))) zqss_nil)));exact zqss_one (zps_ret (zpvk hc 3 (by decide +kernel)))),?_⟩
 repeat (walk_at "rl")
 obtain ⟨sp,clo,run⟩:=ask.run
 refine ⟨ask.fn _ _ hD,ask.fn _ _ hD,sp,clo,run n H p S _ hD (by omega) hp (hdom S sS) fun H1 hD1 k1=>⟨_,rfl,?_⟩⟩
 have hp1:=ask.tup hD k1 hp
 have hU1:=ask.tup hD k1 hU
 cases e0:tells S with
 | false=>
  rw [if_pos (by decide)]
  repeat (walk_at "rl")
  intro dx hdx
  have s2:=same_new hdx (.xd [("part",V.ref p)])
  exact qe e0 dx _ (ask.st _ _ _ hD1 s2) (k1.trans (Kp.of s2)) upd_same
 | true=>
  rw [if_neg (by decide)]
  repeat (walk_at "rl")
  refine ⟨U,p,rfl,W,S,hU1,hp1,by omega,fun R H2 s2 hR hR2=>?_⟩
  repeat (walk_at "rl")
  refine ⟨⟨_,sqT_of hR2⟩,?_⟩
  have lr:(restF W S).length<=W.length:=List.length_filter_le _ _
  have hD2:=ask.st _ _ _ hD1 s2
  have k2:=k1.trans (Kp.of s2)
  obtain ⟨Pv,hPv⟩:∃Pv:Nat->St->Hp->Prop,∀i σ' H',Pv i σ' H'↔∃(c:Addr) (x y:Option V),σ'=[some (.ref U),some (.ref f),some (.ref p),some (.ref c),x,y]/\D (n+1+i) H'/\Kp N H H'/\(H' R=some (.tup (List.map V.int (restF W S))))/\H' c=some (.tup (List.map V.int (growF tells W ((restF W S).take i) S))):=⟨_,fun _ _ _=>Iff.rfl⟩
  refine forAll_tup (xs:=List.map V.int (restF W S)) Pv ((hPv _ _ _).mpr ⟨p,none,none,rfl,hD2,k2,hR2,s2 _ _ hp1⟩) (fun i σ' H' _ pv=>?_) (fun i z σ' H3 hz pv=>?_) (fun σ' H3 pv=>?_)
  ·obtain ⟨c,_,_,_,_,_,hR',_⟩:=(hPv _ _ _).mp pv
   exact hR'
  ·obtain ⟨c,x,y,rfl,hD3,k3,hR3,hc3⟩:=(hPv _ _ _).mp pv
   obtain ⟨m,em,rfl⟩:=int_at hz
   have hi:i < (restF W S).length:=(List.getElem?_eq_some_iff.mp em).1
   have hmW:m∈W:=(List.mem_filter.mp (List.mem_of_getElem? em)).1
   have step:growF tells W ((restF W S).take (i+1)) S=if tells (moreF W (growF tells W ((restF W S).take i) S) m)=true then moreF W (growF tells W ((restF W S).take i) S) m else growF tells W ((restF W S).take i) S:=by
    unfold growF
    rw [List.take_add_one,em,List.foldl_append]
    rfl
   have sub:=growF_sub tells W ((restF W S).take i) S sS
   generalize growF tells W ((restF W S).take i) S=C at hc3 step sub
   have lC:=sub.length_le
   repeat (walk_at "rl")
   refine ⟨by decide,fun p1 hp1=>?_⟩
   have s4:=same_new hp1 (.tup [V.int m])
   refine ⟨_,s4 _ _ hc3,by rw [List.length_map];exact small1000 (by omega),fun p2 H5 s5 _ hp5=>?_⟩
   have s35:=s4.trans s5
   refine ⟨p2,rfl,C++[m],by rw [hp5,List.map_append];rfl,by rw [List.length_append];simp;omega,fun r ms H6 s6 _ hr6 rm mm=>?_⟩
   have s36:=s35.trans s6
   have em2:ms=moreF W C m:=rise_eq rm (rW.sublist (moreF_sub W C m)) fun z=>by
    rw [mm]
    unfold moreF
    rw [List.mem_filter,decide_eq_true_eq,List.mem_append,List.mem_singleton]
    exact ⟨fun h=>⟨h.elim (fun a=>sub.subset a) fun e=>e ▸ hmW,h⟩,fun h=>h.2⟩
   subst em2
   have hD6:=ask.st _ _ _ hD3 s36
   have k6:=k3.trans (Kp.of s36)
   repeat (walk_at "rl")
   refine ⟨ask.fn _ _ hD6,ask.fn _ _ hD6,sp,clo,run _ H6 r _ _ hD6 (by omega) hr6 (hdom _ (moreF_sub W C m)) fun H7 hD7 k7=>⟨_,rfl,?_⟩⟩
   have hc7:=ask.tup hD6 k7 (s36 _ _ hc3)
   have hr7:=ask.tup hD6 k7 hr6
   have hR7:=ask.tup hD6 k7 (s36 _ _ hR3)
   have k67:=k6.trans k7
   cases e5:tells (moreF W C m) with
   | true=>
    rw [if_pos rfl]
    exact (hPv _ _ _).mpr ⟨r,_,_,rfl,by rw [show n+1+(i+1)=n+1+i+1 by omega];exact hD7,k67,hR7,by rw [step,e5,if_pos rfl];exact hr7⟩
   | false=>
    rw [if_neg (by decide)]
    exact (hPv _ _ _).mpr ⟨c,_,_,rfl,by rw [show n+1+(i+1)=n+1+i+1 by omega];exact hD7,k67,hR7,by rw [step,e5,if_neg (by decide)];exact hc7⟩
  obtain ⟨c,x,y,rfl,hD3,k3,hR3,hc3⟩:=(hPv _ _ _).mp pv
  rw [List.length_map,List.take_length,growF_rest rW W S sS fun z hz=>hz] at hc3
  rw [List.length_map] at hD3
  repeat (walk_at "rl")
  exact q e0 c H3 _ (by omega) hD3 k3 hc3
end
local macro_rules | `(tactic| walk_at "rd") => `(tactic| walk_at "rc")
local macro_rules | `(tactic| walk_at "rl") => `(tactic| first | (refine seq_op fun R hR => ?_) | walk_at "ry" | (refine Nx.to (by assumption) _ _ ?_))
def spAsked:Sp:=fun vs H Q _=>∃N W,vs=[.ref N,.ref W]/\∃(bs:List Addr) (ts:List (List Int)) (x:List Int),H N=some (.lst (List.map V.ref bs))/\SetsAt H bs ts/\ts.length<=1000/\H W=some (.tup (List.map V.int x))/\(∀s∈ts,Rise s/\s.length<=100/\isPart s x=true)/\∀H',Same H H'->Q (.bl true) H'
section
variable {P:Program} {w:World} {K:PySem.W.Frag} {mg:Str->Option Value} {base:Heap} {t:Adr}
theorem ok_asked (T:Txt K mg t):FnOk P w K mg base CX0 3 t.a__law_asked_well t.d__law_asked_well ["_law_notes","_law_whole"] spAsked:=by
 have G__law_is_set:=ok_isset (P:=P) (w:=w) (base:=base) T
 have G__law_is_within:=ok_within (P:=P) (w:=w) (base:=base) T
 refine T.F__law_asked_well.okZ sc__law_asked_well (fun vs H Q E h=>?_) (fun cdv A outer s H vs Q E hr h hc hf=>?_)
 ·obtain ⟨N,W,rfl,_⟩:=h;rfl
 obtain ⟨N,W,rfl,bs,ts,x,hN,sb,lt,hW,gt,q⟩:=h
 refine ⟨_,(by apply zqss_cons;exact (zqs_for PassesOwn.never rfl (zpi_list (zpvk hc 0 (by decide +kernel))) (zpgk hc sc__law_asked_well.nd hf 2 (by decide +kernel)) (by exact zqss_one (zqs_if (zPWpt (zpw_or (zpt_not (zpt_val (zpe_call G__law_is_set (hr.mono (by omega)) (glk hc (by decide +kernel)) T.m__law_is_set T.F__law_is_set.kp T.b__law_is_set .nil pass0 (zpa_cons (zpvk hc 2 (by decide +kernel)) zpa_nil)))) (zpw_or1 (zpt_not (zpt_val (zpe_call G__law_is_within (hr.mono (by omega)) (glk hc (by decide +kernel)) T.m__law_is_within T.F__law_is_within.kp T.b__law_is_within .nil pass0 (zpa_cons (zpvk hc 2 (by decide +kernel)) (zpa_cons (zpvk hc 1 (by decide +kernel)) zpa_nil)))))))) (by exact zqss_one (zps_ret zpe_bl)) zqss_nil)));exact zqss_one (zps_ret zpe_bl)),?_⟩
 repeat (walk_at "rl")
 refine ⟨⟨_,sqL_of hN⟩,?_⟩
 obtain ⟨Pv,hPv⟩:∃Pv:Nat->St->Hp->Prop,∀i σ' H',Pv i σ' H'↔∃(y:Option V),σ'=[some (.ref N),some (.ref W),y]/\Same H H':=⟨_,fun _ _ _=>Iff.rfl⟩
 refine forAll_list (xs:=List.map V.ref bs) Pv ((hPv _ _ _).mpr ⟨none,rfl,fun _ _ e=>e⟩) (fun i σ' H' _ pv=>?_) (fun i z σ' H1 hz pv=>?_) (fun σ' H1 pv=>?_)
 ·obtain ⟨_,_,s1⟩:=(hPv _ _ _).mp pv
  exact s1 _ _ hN
 ·obtain ⟨y,rfl,s1⟩:=(hPv _ _ _).mp pv
  obtain ⟨b,eb,rfl⟩:=ref_at hz
  have hi:i < bs.length:=(List.getElem?_eq_some_iff.mp eb).1
  have es:ts[i]? = some (ts[i]'(by have:=sb.1;omega)):=List.getElem?_eq_getElem _
  have hb:=s1 _ _ (sb.2 i b _ eb es)
  obtain ⟨g1,g2,g3⟩:=gt _ (List.mem_of_getElem? es)
  generalize ts[i]'(by have:=sb.1;omega)=u at hb g1 g2 g3
  repeat (walk_at "rl")
  refine ⟨b,rfl,u,hb,by omega,g1,fun H2 s2=>⟨_,rfl,?_⟩⟩
  rw [if_neg (by decide)]
  have s12:=s1.trans s2
  refine ⟨b,W,rfl,u,x,s2 _ _ hb,s12 _ _ hW,by omega,fun H3 s3=>⟨_,rfl,?_⟩⟩
  rw [g3,if_neg (by decide)]
  exact (hPv _ _ _).mpr ⟨_,rfl,s12.trans s3⟩
 obtain ⟨y,rfl,s1⟩:=(hPv _ _ _).mp pv
 repeat (walk_at "rl")
 exact q _ s1
end
def spDue:Sp:=fun vs H Q _=>∃m U p,vs=[.ref m,.ref U,.ref p]/\∃(md:Md) (W S:List Int),MdAt H m W md/\H U=some (.tup (List.map V.int W))/\H p=some (.tup (List.map V.int S))/\W.length<=100/\S.Sublist W/\∀r H',Same H H'->H' r=some (.tup (List.map V.int (growF md.tells W W S)))->Q (.ref r) H'
section
variable {P:Program} {w:World} {K:PySem.W.Frag} {mg:Str->Option Value} {base:Heap} {t:Adr}
theorem ok_due (T:Txt K mg t):FnOk P w K mg base CX0 3 t.a__law_due t.d__law_due ["_law_model_here","_law_whole","_law_part"] spDue:=by
 have G__law_tells:=ok_tells (P:=P) (w:=w) (base:=base) T
 refine T.F__law_due.okZ sc__law_due (fun vs H Q E h=>?_) (fun cdv A outer s H vs Q E hr h hc hf=>?_)
 ·obtain ⟨m,U,p,rfl,_⟩:=h;rfl
 obtain ⟨m,U,p,rfl,md,W,S,ma,hU,hp,lW,sS,q⟩:=h
 refine ⟨_,(by apply zqss_cons;exact (zqs_for PassesOwn.never rfl (zpi_tup (zpvk hc 1 (by decide +kernel))) (zpgk hc sc__law_due.nd hf 3 (by decide +kernel)) (by apply zqss_cons;exact (zpsk_set hc sc__law_due.nd hf 4 (by decide +kernel) (zpe_callTy call_tupleL (glk hc (by decide +kernel)) T.z_tuple b_tuple (zpa_cons (zpek_comp hc ["_law_one"] [2,3] rfl (by decide +kernel) (zpi_tup (zpvk hc 1 (by decide +kernel))) (fun _ hc=>zpgb hc (by decide +kernel) 0 (by decide +kernel)) (fun _ hc=>zpifs_one (zPWpt (zpw_or (zpt_cmpR op_inT (zpvk hc 0 (by decide +kernel)) (zpvk hc 1 (by decide +kernel)) (by with_unfolding_all rfl)) (zpw_or1 (zpt_cmpR op_eq (zpvk hc 0 (by decide +kernel)) (zpvk hc 2 (by decide +kernel)) (nomark _)))))) (fun _ hc=>(zpvk hc 0 (by decide +kernel)))) zpa_nil)));exact zqss_one (zqs_if (zpt_val (zpe_call G__law_tells (hr.mono (by omega)) (glk hc (by decide +kernel)) T.m__law_tells T.F__law_tells.kp T.b__law_tells .nil pass0 (zpa_cons (zpvk hc 0 (by decide +kernel)) (zpa_cons (zpvk hc 4 (by decide +kernel)) zpa_nil)))) (by exact zqss_one (zpsk_set hc sc__law_due.nd hf 2 (by decide +kernel) (zpvk hc 4 (by decide +kernel)))) zqss_nil)));exact zqss_one (zps_ret (zpvk hc 2 (by decide +kernel)))),?_⟩
 repeat (walk_at "rl")
 refine ⟨⟨_,sqT_of hU⟩,?_⟩
 obtain ⟨Pv,hPv⟩:∃Pv:Nat->St->Hp->Prop,∀i σ' H',Pv i σ' H'↔∃(c:Addr) (x y:Option V),σ'=[some (.ref m),some (.ref U),some (.ref c),x,y]/\Same H H'/\H' c=some (.tup (List.map V.int (growF md.tells W (W.take i) S))):=⟨_,fun _ _ _=>Iff.rfl⟩
 refine forAll_tup (xs:=List.map V.int W) Pv ((hPv _ _ _).mpr ⟨p,none,none,rfl,fun _ _ e=>e,hp⟩) (fun i σ' H' _ pv=>?_) (fun i z σ' H2 hz pv=>?_) (fun σ' H2 pv=>?_)
 ·obtain ⟨_,_,_,_,s1,_⟩:=(hPv _ _ _).mp pv
  exact s1 _ _ hU
 ·obtain ⟨c,x,y,rfl,s2,hc2⟩:=(hPv _ _ _).mp pv
  obtain ⟨n,en,rfl⟩:=int_at hz
  have hi:i < W.length:=(List.getElem?_eq_some_iff.mp en).1
  have step:growF md.tells W (W.take (i+1)) S=if md.tells (moreF W (growF md.tells W (W.take i) S) n)=true then moreF W (growF md.tells W (W.take i) S) n else growF md.tells W (W.take i) S:=by
   unfold growF
   rw [List.take_add_one,en,List.foldl_append]
   rfl
  have sb:=growF_sub md.tells W (W.take i) S sS
  generalize growF md.tells W (W.take i) S=C at hc2 step sb
  have lC:=sb.length_le
  have hU2:=s2 _ _ hU
  repeat (walk_at "rl")
  refine ⟨⟨_,sqT_of hU2⟩,?_⟩
  refine compS_tup (zs:=List.map V.int W) (fun k=>if (W[k]?.any fun z=>decide (z∈C\/z=n)) then W[k]? else none) (fun _ _ v d=>v=V.int d) (fun _ _ _ _ _ _ r=>r) (fun _ _ _ _ _ _ _ r=>r) hU2 (by rw [List.length_map];omega) (fun DD c' H3 j z yes no hj s3 hDD hDx hyes hno=>?_) (fun D H3 vs s3 hD hD3 rl=>?_)
  ·obtain ⟨z,ez,rfl⟩:=int_at hj
   rw [ez] at hyes hno
   walk_at "rc"
   repeat (walk_at "rl")
   refine ⟨_,s3 _ _ hc2,rfl,flat_ints _,?_⟩
   rw [inV_ints]
   by_cases e1:z∈C
   ·rw [if_pos (by simpa using e1)]
    exact hyes _ (if_pos (by simp [e1])) _ _ (fun _ _ e=>e) rfl
   ·rw [if_neg (by simpa using e1)]
    by_cases e2:z=n
    ·rw [if_pos (by simpa using e2)]
     exact hyes _ (if_pos (by simp [e2])) _ _ (fun _ _ e=>e) rfl
    ·rw [if_neg (by simpa using e2)]
     exact hno (if_neg (by simp [e1,e2])) _ fun _ _ e=>e
  have ev:=ints_is rl
  rw [List.length_map,fm_filter (l:=W) (p:=fun z=>decide (z∈C\/z=n)) fun k hk=>by rw [List.getElem?_eq_getElem hk];rfl] at ev
  subst ev
  have er:(W.filter fun z=>decide (z∈C\/z=n))=moreF W C n:=rfl
  rw [er] at hD3
  repeat (first | walk_at "rl" | simp only [hD3])
  intro l hl
  have s4:=same_new hl (.tup (List.map V.int (moreF W C n)))
  have hl4:upd H3 l (.tup (List.map V.int (moreF W C n))) l=_:=upd_same
  generalize upd H3 l (.tup (List.map V.int (moreF W C n)))=H4 at s4 hl4 ⊢
  have s24:=(s2.trans s3).trans s4
  have sr:=moreF_sub W C n
  have lr:=sr.length_le
  repeat (walk_at "rl")
  refine ⟨m,l,rfl,md,W,_,ma.same s24,hl4,by omega,fun z hz=>sr.subset hz,fun H5 s5=>⟨_,rfl,?_⟩⟩
  have s25:=s24.trans s5
  cases e5:md.tells (moreF W C n) with
  | true=>
   rw [if_pos rfl]
   exact (hPv _ _ _).mpr ⟨l,_,_,rfl,s25,by rw [step,e5,if_pos rfl];exact s5 _ _ hl4⟩
  | false=>
   rw [if_neg (by decide)]
   exact (hPv _ _ _).mpr ⟨c,_,_,rfl,s25,by rw [step,e5,if_neg (by decide)];exact s5 _ _ (s4 _ _ (s3 _ _ hc2))⟩
 obtain ⟨c,x,y,rfl,s2,hc2⟩:=(hPv _ _ _).mp pv
 rw [List.length_map,List.take_length] at hc2
 repeat (walk_at "rl")
 exact q c H2 s2 hc2
end
def but (N:Addr) (H:Hp):Hp:=fun b=>if b=N then none else H b
theorem but_at {N b:Addr} {H:Hp} (h:b≠N):but N H b=H b:=if_neg h
theorem but_same {N:Addr} {H:Hp}:Same (but N H) H:=fun b o e=>by
 by_cases h:b=N
 ·rw [show but N H b=none from if_pos h] at e;cases e
 ·rw [but_at h] at e;exact e
theorem Kp.but {N:Addr} {H H':Hp} (k:Kp N H H'):Same (but N H) (but N H'):=fun b o e=>by
 by_cases h:b=N
 ·rw [show My.but N H b=none from if_pos h] at e;cases e
 ·rw [but_at h] at e ⊢;exact k b o h e
theorem MdAt.move {H H':Hp} {p:Addr} {W:List Int} {md:Md} (k:∀b o,H b=some o->(∀ps,o≠.tbl ps)->(∀o',o≠pinO o')->H' b=some o) (m:MdAt H p W md):MdAt H' p W md:=by
 cases md with
 | wt g most=>obtain ⟨d,ks,h1,h2,h3⟩:=m;exact ⟨d,ks,k _ _ h1 (by intro o z;cases z) (by intro o z;cases z),k _ _ h2 (by intro o z;cases z) (by intro o z;cases z),h3⟩
 | inn ss=>obtain ⟨l,bs,h1,h2,h3,h4⟩:=m;exact ⟨l,bs,k _ _ h1 (by intro o z;cases z) (by intro o z;cases z),k _ _ h2 (by intro o z;cases z) (by intro o z;cases z),h3.mono fun _ _ e=>k _ _ e (by intro o z;cases z) (by intro o z;cases z),h4⟩
 | out ss=>obtain ⟨l,bs,h1,h2,h3,h4⟩:=m;exact ⟨l,bs,k _ _ h1 (by intro o z;cases z) (by intro o z;cases z),k _ _ h2 (by intro o z;cases z) (by intro o z;cases z),h3.mono fun _ _ e=>k _ _ e (by intro o z;cases z) (by intro o z;cases z),h4⟩
theorem nrefs {h b:Addr} {H:Hp} {bs:List Addr} (x:HandAt H h) (e:H b=some (.lst (List.map V.ref bs))):b≠h:=by
 obtain ⟨l,ns,o,e1,⟨_,_,_,_,_,rfl,_⟩,_⟩:=x
 intro z
 rw [z,e1] at e
 cases bs with
 | nil=>cases e
 | cons c bs=>cases bs <;> cases e
theorem MdAt.dr {h N:Addr} {B H:Hp} {p:Addr} {W:List Int} {md:Md} (hd:HandAt B h) (hN:B N=none) (d:Dr h B H) (m:MdAt B p W md):MdAt (but N H) p W md:=by
 have k:∀{b:Addr} {o:HO},B b=some o->b≠h->but N H b=some o:=fun {b o} e nb=>by
  rw [but_at (ne_of_none e hN)];exact d.keep _ _ nb e
 have nd:∀{b:Addr} {kvs:List (Key×V)},B b=some (.dK kvs)->b≠h:=fun {b kvs} e z=>by
  obtain ⟨l,ns,o,e1,⟨_,_,_,_,_,rfl,_⟩,_⟩:=hd
  rw [z,e1] at e;cases e
 cases md with
 | wt g most=>obtain ⟨d',ks,h1,h2,h3⟩:=m;exact ⟨d',ks,k h1 (hd.ntup h1),k h2 (nd h2),h3⟩
 | inn ss=>obtain ⟨l,bs,h1,h2,h3,h4⟩:=m;exact ⟨l,bs,k h1 (hd.ntup h1),k h2 (nrefs hd h2),h3.mono fun _ _ e=>k e (hd.ntup e),h4⟩
 | out ss=>obtain ⟨l,bs,h1,h2,h3,h4⟩:=m;exact ⟨l,bs,k h1 (hd.ntup h1),k h2 (nrefs hd h2),h3.mono fun _ _ e=>k e (hd.ntup e),h4⟩
theorem Dr.kp {h N:Addr} {B H H':Hp} {C:List (Addr×Obj)} (d:Dr h B H) (hN:B N=none) (po:PinsOut C H) (k:Kp N (addP C H) H'):Dr h B (dropP C H'):=by
 have q:∀{b:Addr} {o:HO},H b=some o->b≠N->dropP C H' b=some o:=fun {b o} e nb=>by
  have z:=po.out e
  rw [dropP_out z];exact k b o nb (by rw [addP_out z];exact e)
 refine ⟨fun b o hb e=>q (d.keep b o hb e) (ne_of_none e hN),fun l x=>?_⟩
 obtain ⟨ns,oh,e1,e2,e3⟩:=d.hand l x
 obtain ⟨ns0,o0,f1,_,f3⟩:=x
 exact ⟨ns,oh,q e1 (ne_of_none f1 hN),e2,q e3 (ne_of_none f3 hN)⟩
def spAsk (f c':Addr) (fo oc:Obj) (cl:List (Str×Addr)) (M N:Addr):Sp:=fun vs H Q _=>∃p,vs=[.ref p]/\H f=some (pinO fo)/\H c'=some (pinO oc)/\∃C,PinsIn C H/\CellsOk C cl fr_law_in__law_ask [.ref M,.ref N]/\∃(md:Md) (W S:List Int) (bs:List Addr),MdAt (but N H) M W md/\H N=some (.lst (List.map V.ref bs))/\bs.length < 1000/\H p=some (.tup (List.map V.int S))/\S.length<=100/\(∀z∈S,z∈W)/\
 ∀H',Kp N H H'->H' N=some (.lst (List.map V.ref (bs++[p])))->Q (.bl (md.tells S)) H'
section
variable {P:Program} {w:World} {K:PySem.W.Frag} {mg:Str->Option Value} {base:Heap} {t:Adr}
theorem clo_ask (T:Txt K mg t) {f c' M N:Addr} {oc:Obj} {vsC:Array Value} {tq:Tok} {qual:Str} {cl:List (Str×Addr)} {doc pm ctv:Value} (hoc:oc.data=.fields vsC) (hq:vsC[1]? = some (.str qual tq))
  (incl:∀x c,cl.lookup x=some c->x∈fr_law_in__law_ask) (inj:∀x y c,cl.lookup x=some c->cl.lookup y=some c->x=y) :
  CloOk P w K mg base 8 f (spAsk f c' (PySem.W.fnMade "_law_ask" qual (defArgs s_law_in__law_ask) (defBody s_law_in__law_ask) (defScope s_law_in__law_ask) cl doc pm c' ctv) oc cl M N):=by
 have G__law_tells:=ok_tells (P:=P) (w:=w) (base:=base) T
 refine clo_of (k:=7) (fo:=PySem.W.fnMade "_law_ask" qual (defArgs s_law_in__law_ask) (defBody s_law_in__law_ask) (defScope s_law_in__law_ask) cl doc pm c' ctv) (oc:=oc) (name:="_law_ask") (qual:=qual) (params:=defArgs s_law_in__law_ask) (body:=defBody s_law_in__law_ask) (scope:=defScope s_law_in__law_ask) (cl:=cl) (doc:=doc) (pm:=pm) (ctv:=ctv) (ps:=ps_law_in__law_ask) (fr:=fr_law_in__law_ask) rfl hoc hq rfl rfl rfl (by decide +kernel) (by decide +kernel) (by decide +kernel) (by decide +kernel) (fun x hx=>?_) incl inj (fun us hu=>?_) fun vs H Q E h=>?_
 ·have:freeOf (defScope s_law_in__law_ask)=fr_law_in__law_ask:=by decide +kernel
  rw [<-this]
  exact List.mem_map.mpr ⟨(x,.free),List.mem_filter.mpr ⟨PySem.mem_of_lookup hx,rfl⟩,rfl⟩
 ·match us,hu with
  | [_],_=>rfl
 obtain ⟨p,rfl,hf,hc',C,pin,cok,md,W,S,bs,ma,hN,lb,hp,lS,sub,q⟩:=h
 refine ⟨C,[.ref M,.ref N],rfl,hf,hc',pin,rfl,cok,fun A outer s hr hc=>?_⟩
 refine ⟨_,(by apply zqss_cons;exact (zps_expr (zpe_bm PySem.F.plainAttrs_list PySem.F.slot_list_append PySem.F.type_list_append mt_append (zpvk hc 2 (by decide +kernel)) (zpa_cons (zpvk hc 0 (by decide +kernel)) zpa_nil)));exact zqss_one (zps_ret (zpe_call G__law_tells (hr.mono (by omega)) (glk hc (by decide +kernel)) T.m__law_tells T.F__law_tells.kp T.b__law_tells .nil pass0 (zpa_cons (zpvk hc 1 (by decide +kernel)) (zpa_cons (zpvk hc 0 (by decide +kernel)) zpa_nil))))),?_⟩
 repeat (walk_at "rl")
 have out:∀{b:Addr} {o:HO},H b=some o->(∀o',o≠pinO o')->dropP C H b=some o:=fun e n=>by rw [dropP_out (pin.out e n)];exact e
 have hN':dropP C H N=some (.lst (List.map V.ref bs)):=out hN (by intro o z;cases z)
 have hp':dropP C H p=some (.tup (List.map V.int S)):=out hp (by intro o z;cases z)
 refine ⟨.inl ⟨rfl,_,sqL_of hN'⟩,_,hN',by rw [List.length_map];exact small1000 (by omega),?_⟩
 have ma':MdAt (but N (dropP C H)) M W md:=ma.move fun b o e nt np=>by
  by_cases hb:b=N
  ·rw [show but N H b=none from if_pos hb] at e;cases e
  ·rw [but_at hb] at e ⊢;exact out e np
 have kp1:Kp N (dropP C H) (upd (dropP C H) N (.lst (List.map V.ref bs++[V.ref p]))):=fun b o hb e=>by rw [upd_ne hb];exact e
 have hN1:upd (dropP C H) N (.lst (List.map V.ref bs++[V.ref p])) N=some (.lst (List.map V.ref (bs++[p]))):=by rw [upd_same,List.map_append];rfl
 have hpN:p≠N:=ne_of hp hN (by intro z;cases z)
 have hp1:=kp1 _ _ hpN hp'
 have ma1:=(ma'.same kp1.but).same but_same
 generalize upd (dropP C H) N (.lst (List.map V.ref bs++[V.ref p]))=H1 at kp1 hN1 hp1 ma1 ⊢
 repeat (walk_at "rl")
 refine ⟨M,p,rfl,md,W,S,ma1,hp1,lS,sub,fun H2 s2=>q _ (fun b o hb e=>?_) ?_⟩
 ·cases e1:C.lookup b with
  | some o'=>rw [pin b o' e1] at e;cases e;exact addP_in e1
  | none=>rw [addP_out e1];exact s2 _ _ (kp1 b o hb (by rw [dropP_out e1];exact e))
 ·rw [addP_out (pin.out hN (by intro o z;cases z))];exact s2 _ _ hN1
def AskD (C:List (Addr×Obj)) (f c':Addr) (fo oc:Obj) (M N:Addr) (x:List Int) (md:Md) (dom:List Int->Prop) (n:Nat) (H:Hp):Prop:=H f=some (pinO fo)/\H c'=some (pinO oc)/\PinsIn C H/\MdAt (but N H) M x md/\∃bs ts,H N=some (.lst (List.map V.ref bs))/\SetsAt H bs ts/\ts.length=n/\∀s∈ts,dom s
theorem ask_ok {f c' M N:Addr} {fo oc:Obj} {fd:FuncData} {cl:List (Str×Addr)} {C:List (Addr×Obj)} {x:List Int} {md:Md} {dom:List Int->Prop} (hfd:fo.data=.func fd) (clo:CloOk P w K mg base 8 f (spAsk f c' fo oc cl M N)) (cok:CellsOk C cl fr_law_in__law_ask [.ref M,.ref N]) (hdom:∀S,dom S->S.length<=100/\∀z∈S,z∈x) :
  AskOk P w K mg base 8 f N (AskD C f c' fo oc M N x md dom) dom md.tells:=by
 refine ⟨⟨_,clo,fun n H p S Q hD hn hp hS q=>?_⟩,fun n H hD=>⟨fo,fd,hD.1,hfd⟩,fun n H H' hD s=>?_,fun n H xs hD e=>?_⟩
 ·obtain ⟨h1,h2,h3,h4,bs,ts,h5,h6,h7,h8⟩:=hD
  have lb:=h6.1
  refine ⟨p,rfl,h1,h2,C,h3,cok,md,x,S,bs,h4,h5,by omega,hp,(hdom S hS).1,(hdom S hS).2,fun H' k hN'=>q H' ?_ k⟩
  have ne:∀{b:Addr} {o:HO},H b=some o->o≠.lst (List.map V.ref bs)->H' b=some o:=fun e n=>k _ _ (ne_of e h5 n) e
  refine ⟨ne h1 (by intro z;cases z),ne h2 (by intro z;cases z),fun b o e=>ne (h3 b o e) (by intro z;cases z),h4.same k.but,bs++[p],ts++[S],hN',?_,by rw [List.length_append,h7];rfl,fun s hs=>?_⟩
  ·have a1:SetsAt H' bs ts:=h6.mono fun _ _ e=>ne e (by intro z;cases z)
   have a2:SetsAt H' [p] [S]:=⟨rfl,fun j c u e1 e2=>by
    match j,e1,e2 with
    | 0,e1,e2=>cases e1;cases e2;exact ne hp (by intro z;cases z)
    | _+1,e1,_=>cases e1⟩
   exact a1.app a2
  ·rcases List.mem_append.mp hs with z | z
   ·exact h8 s z
   ·rw [List.mem_singleton.mp z];exact hS
 ·obtain ⟨h1,h2,h3,h4,bs,ts,h5,h6,h7,h8⟩:=hD
  exact ⟨s _ _ h1,s _ _ h2,fun b o e=>s _ _ (h3 b o e),h4.same (Kp.of s).but,bs,ts,s _ _ h5,h6.mono fun _ _ e=>s _ _ e,h7,h8⟩
 ·obtain ⟨_,_,_,_,bs,ts,h5,_⟩:=hD
  rw [h5] at e;cases e
end
local macro_rules | `(tactic| walk_at "rd") => `(tactic| walk_at "rc")
local macro_rules | `(tactic| walk_at "rl") => `(tactic| first | (refine seq_op fun R hR => ?_) | walk_at "ry" | (refine Nx.to (by assumption) _ _ ?_))
def spLaw (K:PySem.W.Frag) (pT:Addr):Sp:=fun vs H Q _=>∃(a:Addr) (ns:List Int),vs=[.ref a]/\SqL K H a (List.map V.int ns)/\ns.length<=63/\H pT=some (.tbl #[])/\∀H',Q (.bl true) H'
section
variable {P:Program} {w:World} {K:PySem.W.Frag} {mg:Str->Option Value} {base:Heap} {t:Adr}
theorem ok_law (T:Txt K mg t) {c pT:Addr} (hcode:t.d_law.code=.ref c) (hC:PySem.W.CodeHd base c pT) (hB:BMain mg base):FnOk P w K mg base CX0 12 t.a_law t.d_law ["_law_script"] (spLaw K pT):=by
 have G__law_draw:=ok_draw (P:=P) (w:=w) (base:=base) T
 have G__law_hand:=ok_hand (P:=P) (w:=w) (base:=base) T
 have G__law_members:=ok_members (P:=P) (w:=w) (base:=base) T
 have G__law_some:=ok_some (P:=P) (w:=w) (base:=base) T
 have G__law_model:=ok_model (P:=P) (w:=w) (base:=base) T
 have G__law_tells:=ok_tells (P:=P) (w:=w) (base:=base) T
 have G__law_is_set:=ok_isset (P:=P) (w:=w) (base:=base) T
 have G__law_due:=ok_due (P:=P) (w:=w) (base:=base) T
 have G__law_asked_well:=ok_asked (P:=P) (w:=w) (base:=base) T
 have G_grown:=ok_grown (P:=P) (w:=w) (base:=base) T
 refine T.F_law.okZc sc_law (fun vs H Q E h=>?_) (fun cdv A outer s H vs Q E hcv hr h hc hf=>?_)
 ·obtain ⟨a,ns,rfl,_⟩:=h;rfl
 obtain ⟨a,ns,rfl,hS,h63,hT,q⟩:=h
 have hcd:cdv=.ref c:=by rw [<-hcv];exact hcode
 have hu:=hu_of hr
 have hu0:=hr.units0
 refine ⟨_,(by apply zqss_cons;exact (zpsk_set hc sc_law.nd hf 1 (by decide +kernel) (zpe_call G__law_hand (hr.mono (by omega)) (glk hc (by decide +kernel)) T.m__law_hand T.F__law_hand.kp T.b__law_hand .nil pass0 (zpa_cons (zpvk hc 0 (by decide +kernel)) zpa_nil)));apply zqss_cons;exact (zpsk_set hc sc_law.nd hf 2 (by decide +kernel) (zpe_call G__law_members (hr.mono (by omega)) (glk hc (by decide +kernel)) T.m__law_members T.F__law_members.kp T.b__law_members .nil pass0 (zpa_cons (zpvk hc 1 (by decide +kernel)) (zpa_cons (zpe_ix ix_l (zpe_lst (zpa_cons zpe_int (zpa_cons zpe_int (zpa_cons zpe_int (zpa_cons zpe_int zpa_nil))))) (zpe_call G__law_draw (hr.mono (by omega)) (glk hc (by decide +kernel)) T.m__law_draw T.F__law_draw.kp T.b__law_draw .nil pass0 (zpa_cons (zpvk hc 1 (by decide +kernel)) (zpa_cons zpe_int zpa_nil))) (fun _ _=>rfl)) zpa_nil))));apply zqss_cons;exact (zpsk_set hc sc_law.nd hf 3 (by decide +kernel) (zpe_call G__law_model (hr.mono (by omega)) (glk hc (by decide +kernel)) T.m__law_model T.F__law_model.kp T.b__law_model .nil pass0 (zpa_cons (zpvk hc 1 (by decide +kernel)) (zpa_cons (zpvk hc 2 (by decide +kernel)) zpa_nil))));apply zqss_cons;exact (zpsk_set hc sc_law.nd hf 4 (by decide +kernel) (zpe_lst zpa_nil));apply zqss_cons;exact (zpsk_def (fr:=fr_law_in__law_ask) hc sc_law.nd hf 5 (by decide +kernel) hcd hC hB rfl (by decide +kernel) (by decide +kernel) rfl rfl rfl);apply zqss_cons;exact (zqs_for PassesOwn.never rfl (zpi_range1 (glk hc (by decide +kernel)) T.z_range (zpa_cons (zpe_op op_add zpe_int (zpe_call G__law_draw (hr.mono (by omega)) (glk hc (by decide +kernel)) T.m__law_draw T.F__law_draw.kp T.b__law_draw .nil pass0 (zpa_cons (zpvk hc 1 (by decide +kernel)) (zpa_cons zpe_int zpa_nil)))) zpa_nil)) (zpgk hc sc_law.nd hf 6 (by decide +kernel)) (by apply zqss_cons;exact (zpsk_set hc sc_law.nd hf 7 (by decide +kernel) (zpe_call G__law_some (hr.mono (by omega)) (glk hc (by decide +kernel)) T.m__law_some T.F__law_some.kp T.b__law_some .nil pass0 (zpa_cons (zpvk hc 1 (by decide +kernel)) (zpa_cons (zpvk hc 2 (by decide +kernel)) zpa_nil))));apply zqss_cut;exact (zqs_if (zpt_cmpR op_eq (zpvk hc 6 (by decide +kernel)) zpe_int (nomark _)) (by exact zqss_one (zpsk_set hc sc_law.nd hf 7 (by decide +kernel) (zpe_tup zpa_nil))) zqss_nil);apply zqss_cons;exact (zpsk_set hc sc_law.nd hf 8 (by decide +kernel) zpe_non);apply zqss_cons;exact (zpsk_set hc sc_law.nd hf 9 (by decide +kernel) zpe_bl);apply zqss_cons;exact (zpsk_try hc sc_law.nd 10 (by decide +kernel) rfl rfl T.x_NoPeace.is (glk hc (by decide +kernel)) T.m_NoPeace (fun EH xe pn L hpo=>(fun hc hf=>(by exact zqss_one (zpsk_set hc sc_law.nd hf 8 (by decide +kernel) (zpe_callP (xs:=[(3,"_law_model_here"),(4,"_law_notes")]) (cells:=cellsFrom (s.heap.objs.size+1) (defScope s_law).names []) (EH:=EH) rfl G_grown (hr.mono (by omega)) (glk hc (by decide +kernel)) T.m_grown T.F_grown.kp T.b_grown L hf (hxs_of hc (by decide +kernel)) (zpa_cons (zpvk hc 2 (by decide +kernel)) (zpa_cons (zpvk hc 5 (by decide +kernel)) (zpa_cons (zpvk hc 7 (by decide +kernel)) zpa_nil))))))) (hcT (xe:=xe) (pn:=pn) hc) (hfT (xe:=xe) (pn:=pn) hf)) (fun e=>(fun hc hf=>(by exact zqss_one (zpsk_set hc sc_law.nd hf 9 (by decide +kernel) (zpe_cmpR (op_eqTI hu) (zpe_fldX (K:=K) rfl (zpvk hc 10 (by decide +kernel)) rfl) (zpvk hc 7 (by decide +kernel)) (nomark _))))) (hcS (e:=e) hc) (hfS (e:=e) hf)));exact zqss_one (zqs_if (zpt_not (zpt_val (zpe_call G__law_tells (hr.mono (by omega)) (glk hc (by decide +kernel)) T.m__law_tells T.F__law_tells.kp T.b__law_tells .nil pass0 (zpa_cons (zpvk hc 3 (by decide +kernel)) (zpa_cons (zpvk hc 7 (by decide +kernel)) zpa_nil))))) (by exact zqss_one (zqs_if (zpt_not (zpt_val (zpvk hc 9 (by decide +kernel)))) (by exact zqss_one (zps_ret zpe_bl)) zqss_nil)) (by exact zqss_one (zqs_if (zPWpt (zpw_or (zpt_val (zpvk hc 9 (by decide +kernel))) (zpw_or (zpt_not (zpt_val (zpe_call G__law_is_set (hr.mono (by omega)) (glk hc (by decide +kernel)) T.m__law_is_set T.F__law_is_set.kp T.b__law_is_set .nil pass0 (zpa_cons (zpvk hc 8 (by decide +kernel)) zpa_nil)))) (zpw_or1 (zpt_cmpR (op_neTI hu) (zpvk hc 8 (by decide +kernel)) (zpe_call G__law_due (hr.mono (by omega)) (glk hc (by decide +kernel)) T.m__law_due T.F__law_due.kp T.b__law_due .nil pass0 (zpa_cons (zpvk hc 3 (by decide +kernel)) (zpa_cons (zpvk hc 2 (by decide +kernel)) (zpa_cons (zpvk hc 7 (by decide +kernel)) zpa_nil)))) (nomark _)))))) (by exact zqss_one (zps_ret zpe_bl)) (by exact zqss_one (zqs_if (zpt_cmpR (op_neTI hu) (zpe_callP (xs:=[(3,"_law_model_here"),(4,"_law_notes")]) (cells:=cellsFrom (s.heap.objs.size+1) (defScope s_law).names []) (EH:=fun _=>E0) rfl G_grown (hr.mono (by omega)) (glk hc (by decide +kernel)) T.m_grown T.F_grown.kp T.b_grown lands0 hf (hxs_of hc (by decide +kernel)) (zpa_cons (zpvk hc 2 (by decide +kernel)) (zpa_cons (zpvk hc 5 (by decide +kernel)) (zpa_cons (zpvk hc 7 (by decide +kernel)) zpa_nil)))) (zpvk hc 8 (by decide +kernel)) (nomark _)) (by exact zqss_one (zps_ret zpe_bl)) zqss_nil)))))));exact zqss_one (zps_ret (zpe_call G__law_asked_well (hr.mono (by omega)) (glk hc (by decide +kernel)) T.m__law_asked_well T.F__law_asked_well.kp T.b__law_asked_well .nil pass0 (zpa_cons (zpvk hc 4 (by decide +kernel)) (zpa_cons (zpvk hc 2 (by decide +kernel)) zpa_nil))))),?_⟩
 repeat (walk_at "rl")
 refine ⟨a,ns,rfl,hS,fun h H1 s1 h0 hd=>?_⟩
 repeat (walk_at "rl")
 refine ⟨by decide,fun p hp=>?_⟩
 have hTp:pT≠p:=ne_of_none (s1 _ _ hT) hp
 have d2:Dr h H1 (upd H1 p (.lst [V.int 7,V.int 7,V.int 7,V.int 12])):=Dr.refl.new hp
 have hph:p≠h:=hd.ne hp
 refine draw_by hd d2 (by decide) (by decide) fun r H2 r0 r1 d3 k3=>?_
 obtain ⟨z,ez,hz⟩:=four_at (a:=7) (b:=7) (c:=7) (d:=12) r0 r1
 obtain ⟨n,rfl,hn⟩:∃n:Nat,z=(n:Int)/\n<=12:=⟨z.toNat,by omega,by omega⟩
 refine ⟨_,rfl,_,by rw [k3 p hph];exact upd_same,_,ez,?_⟩
 clear hz ez d2 k3
 have hd3:=d3.handAt hd
 refine ⟨h,_,rfl,n,rfl,hn,hd3,fun W x H4 d4 hW hW4 lx rise=>?_⟩
 have d14:=d3.trans d4
 have hWh:=(d14.handAt hd).ntup hW4
 have ndx:x.Nodup:=rise.imp fun h=>Int.ne_of_lt h
 repeat (walk_at "rl")
 refine ⟨h,W,rfl,d14.handAt hd,x,hW4,by omega,ndx,fun M md H5 d5 hM md5=>?_⟩
 have d15:=d14.trans d5
 have hTh:pT≠h:=ne_of_none hT h0
 have hT5:=d15.keep _ _ hTh (s1 _ _ hT)
 repeat (walk_at "rl")
 refine ⟨by decide,fun N hN=>?_⟩
 have hN1:=d15.free hd hN
 have hNh:N≠h:=hd.ne hN1
 have d16:Dr h H1 (upd H5 N (.lst [])):=d15.new hN
 have s56:=same_new hN (.lst [])
 have hN6:upd H5 N (.lst []) N=some (.lst []):=upd_same
 generalize upd H5 N (.lst [])=H6 at d16 s56 hN6 ⊢
 have md6:=md5.same s56
 have hT6:=s56 _ _ hT5
 repeat (walk_at "rl")
 refine ⟨#[],hT6,trivial,rfl,fun cl f c' oc vsC tq ctv doc hcl incl inj hf0 hc0 hfc hoc hq=>?_⟩
 generalize hfo:PySem.W.fnMade (Str.ofString "_law_ask") _ _ _ _ cl doc _ c' ctv=fo
 have clo:CloOk P w K mg base 8 f (spAsk f c' fo oc cl M N):=by rw [<-hfo];exact clo_ask T hoc hq incl inj
 have ffo:∃fd,fo.data=.func fd:=by rw [<-hfo];exact ⟨_,rfl⟩
 clear hfo hq hoc inj
 obtain ⟨H7,e7⟩:∃H7,H7=made H6 pT (#[] ++ #[PySem.rawInt (116:Nat),PySem.rawInt (4:Nat),Value.ref c']) c' oc f fo:=⟨_,rfl⟩
 rw [<-e7]
 have hfT:f≠pT:=(ne_of_none hT6 hf0).symm
 have hcT:c'≠pT:=(ne_of_none hT6 hc0).symm
 have at7:∀{b:Addr} {o:HO},H6 b=some o->b≠pT->H7 b=some o:=fun {b o} e nb=>by
  rw [e7];unfold made
  rw [upd_ne (ne_of_none e hf0),upd_ne (ne_of_none e hc0),upd_ne nb];exact e
 have hf7:H7 f=some (pinO fo):=by rw [e7];exact upd_same
 have hc7:H7 c'=some (pinO oc):=by rw [e7];unfold made;rw [upd_ne hfc.symm];exact upd_same
 clear e7
 have nT:∀{b:Addr} {o:HO},H6 b=some o->o≠.tbl #[]->b≠pT:=fun e n=>ne_of e hT6 n
 obtain ⟨fd,hfd⟩:=ffo
 obtain ⟨B,hBd⟩:∃B,B=but N H7:=⟨_,rfl⟩
 have hBN:B N=none:=by rw [hBd];exact if_pos rfl
 have atB:∀{b:Addr} {o:HO},H5 b=some o->(∀ps,o≠.tbl ps)->B b=some o:=fun {b o} e n=>by
  rw [hBd,but_at (ne_of_none e hN)];exact at7 (s56 _ _ e) (nT (s56 _ _ e) (n _))
 have hdB:HandAt B h:=by
  obtain ⟨l,ns,o,e1,e2,e3⟩:=d15.handAt hd
  exact ⟨l,ns,o,atB e1 (by obtain ⟨_,_,_,_,_,rfl,_⟩:=e2;intro ps z;cases z),e2,atB e3 (by intro ps z;cases z)⟩
 have hWB:B W=some (.tup (List.map V.int x)):=atB (d5.keep _ _ hWh hW4) (by intro ps z;cases z)
 have mdB:MdAt B M x md:=md5.move fun b o e n _=>atB e n
 have hfN:f≠N:=(ne_of_none hN6 hf0).symm
 have hcN:c'≠N:=(ne_of_none hN6 hc0).symm
 have hfB:B f=some (pinO fo):=by rw [hBd,but_at hfN];exact hf7
 have hcB:B c'=some (pinO oc):=by rw [hBd,but_at hcN];exact hc7
 have hN7:H7 N=some (.lst []):=at7 hN6 (nT hN6 (by intro z;cases z))
 have dB7:Dr h B H7:=⟨fun b o _ e=>by rw [hBd] at e;exact but_same _ _ e,fun l y=>by
  obtain ⟨ns,o,e1,e2,e3⟩:=y
  rw [hBd] at e1 e3
  exact ⟨ns,o,but_same _ _ e1,e2,but_same _ _ e3⟩⟩
 have hWh':=hdB.ntup hWB
 have hpin:∀{b:Addr} {o:Obj},B b=some (pinO o)->b≠h:=fun {b o} e z=>by
  obtain ⟨l,ns,o,e1,⟨_,_,_,_,_,rfl,_⟩,_⟩:=hdB
  rw [z,e1] at e;cases e
 have hfh:=hpin hfB
 have hch:=hpin hcB
 clear hBd atB at7 nT md6
 obtain ⟨dom,hdom⟩:∃dom:List Int->Prop,∀s,dom s↔Rise s/\s.length<=100/\isPart s x=true:=⟨_,fun _=>Iff.rfl⟩
 have domS:∀T,T.Sublist x->dom T:=fun T hT=>(hdom T).mpr ⟨rise.sublist hT,by have:=hT.length_le;omega,isPart_iff.mpr fun m hm=>hT.subset hm⟩
 have domx:∀T,dom T->T.length<=100/\∀z∈T,z∈x:=fun T hT=>⟨((hdom T).mp hT).2.1,fun z hz=>isPart_iff.mp ((hdom T).mp hT).2.2 z hz⟩
 have askAt:∀(σ:St) (C:List (Addr×Obj)),σ[3]? = some (some (.ref M))->σ[4]? = some (some (.ref N))->CellsAre (cellsFrom (s.heap.objs.size+1) (defScope s_law).names []) σ [(3,"_law_model_here"),(4,"_law_notes")] C->AskOk P w K mg base 8 f N (AskD C f c' fo oc M N x md dom) dom md.tells:=fun σ C e3 e4 ca=>by
  refine ask_ok hfd clo (fun j y hj=>?_) domx
  have one:∀(k:Nat) (y:Str) (v:Addr),(k,y)∈[(3,("_law_model_here" : Str)),(4,"_law_notes")]->σ[k]? = some (some (.ref v))->y∈fr_law_in__law_ask->∃c o u v',cl.lookup y=some c/\C.lookup c=some o/\o.data=.cell (some u)/\some (V.ref v)=some v'/\RelV v' u:=fun k y v hk hv hy=>by
   obtain ⟨c1,o,u,v',h1,h2,h3,h4,h5⟩:=ca _ hk
   obtain ⟨c2,g1,g2⟩:=hcl y hy
   have:c1=c2:=Option.some.inj (h1.symm.trans g1)
   subst this
   have h4':σ[k]? = some (some v'):=h4
   rw [hv] at h4'
   cases h4'
   exact ⟨c1,o,u,_,g2,h2,h3,rfl,h5⟩
  match j,hj with
  | 0,hj=>cases hj;exact one 3 _ M (by simp) e3 (by decide +kernel)
  | 1,hj=>cases hj;exact one 4 _ N (by simp) e4 (by decide +kernel)
  | _+2,hj=>cases hj
 have dAt:∀(C:List (Addr×Obj)) (H':Hp) (bs:List Addr) (ts:List (List Int)),PinsOut C H'->Dr h B H'->H' N=some (.lst (List.map V.ref bs))->SetsAt H' bs ts->(∀s∈ts,dom s)->AskD C f c' fo oc M N x md dom ts.length (addP C H'):=fun C H' bs ts po d hN' sb hs=>by
  have k:Same H' (addP C H'):=addP_same po
  exact ⟨k _ _ (d.keep _ _ hfh hfB),k _ _ (d.keep _ _ hch hcB),PinsOut.added,(mdB.dr hdB hBN d).same (Kp.of k).but,bs,ts,k _ _ hN',sb.mono fun _ _ e=>k _ _ e,rfl,hs⟩
 have behind:∀(C:List (Addr×Obj)) (n:Nat) (H' H2:Hp),PinsOut C H'->Dr h B H'->Kp N (addP C H') H2->AskD C f c' fo oc M N x md dom n H2->Dr h B (dropP C H2)/\(∀b xs,H2 b=some (.tup xs)->dropP C H2 b=some (.tup xs))/\∃bs ts,dropP C H2 N=some (.lst (List.map V.ref bs))/\SetsAt (dropP C H2) bs ts/\ts.length=n/\∀s∈ts,dom s:=fun C n H' H2 po d k hD=>by
  obtain ⟨_,_,pin,_,bs,ts,h5,h6,h7,h8⟩:=hD
  have tup:∀b xs,H2 b=some (.tup xs)->dropP C H2 b=some (.tup xs):=fun b xs e=>by rw [dropP_out (pin.out e (by intro o z;cases z))];exact e
  exact ⟨My.Dr.kp d hBN po k,tup,bs,ts,by rw [dropP_out (pin.out h5 (by intro o z;cases z))];exact h5,h6.mono fun b xs e=>tup b xs e,h7,h8⟩
 repeat (walk_at "rl")
 refine draw_by hdB dB7 (by decide) (by decide) fun r8 H8 r80 r81 d8 k8=>⟨_,rfl,by omega,by omega,?_⟩
 have hN8:=(k8 N hNh).trans hN7
 obtain ⟨Pv,hPv⟩:∃Pv:Nat->St->Hp->Prop,∀i σ' H',Pv i σ' H'↔∃(x1 x2 x3 x4 x5:Option V) (bs:List Addr) (ts:List (List Int)),σ'=[some (.ref a),some (.ref h),some (.ref W),some (.ref M),some (.ref N),some (.ref f),x1,x2,x3,x4,x5]/\Dr h B H'/\H' N=some (.lst (List.map V.ref bs))/\SetsAt H' bs ts/\ts.length<=40 * i/\∀s∈ts,dom s:=⟨_,fun _ _ _=>Iff.rfl⟩
 refine forAll_rng Pv ((hPv _ _ _).mpr ⟨none,none,none,none,none,[],[],rfl,d8,hN8,⟨rfl,fun _ _ _ z=>by cases z⟩,Nat.le_refl _,fun _ z=>(nomatch z)⟩) (fun i σ' H9 hi pv=>?_) (fun σ' H9 pv=>?_)
 ·obtain ⟨x1,x2,x3,x4,x5,bs0,ts0,rfl,d9,hN9,sb9,lt9,hs9⟩:=(hPv _ _ _).mp pv
  have hi5:i < 5:=by omega
  repeat (walk_at "rl")
  refine ⟨h,W,rfl,d9.handAt hdB,x,d9.keep _ _ hWh' hWB,by omega,fun R y H10 d10 hR hR10 sl=>?_⟩
  have dB10:=d9.trans d10
  have hN10:=d10.keep _ _ hNh hN9
  repeat (walk_at "rl")
  obtain ⟨Mid,hMid⟩:∃Mid:St->Hp->Prop,∀σ' H',Mid σ' H'↔∃(p:Addr) (S:List Int),σ'=[some (.ref a),some (.ref h),some (.ref W),some (.ref M),some (.ref N),some (.ref f),some (.int (i:Int)),some (.ref p),x3,x4,x5]/\Same H10 H'/\H' p=some (.tup (List.map V.int S))/\S.Sublist x:=⟨_,fun _ _=>Iff.rfl⟩
  refine ⟨Mid,?_,fun σ' H' hm=>?_⟩
  ·repeat (walk_at "rl")
   by_cases e:(i:Int)=1
   ·rw [if_pos e]
    refine ⟨by decide,fun p0 hp0=>?_⟩
    have s11:=same_new hp0 (.tup [])
    exact (hMid _ _).mpr ⟨p0,[],rfl,s11,upd_same,List.nil_sublist _⟩
   ·rw [if_neg e]
    exact (hMid _ _).mpr ⟨R,y,rfl,fun _ _ e=>e,hR10,sl⟩
  obtain ⟨p,S,rfl,s11,hp11,sS⟩:=(hMid _ _).mp hm
  clear hMid hm Mid
  have dB11:=dB10.on s11
  have hN11:=s11 _ _ hN10
  have sb11:SetsAt H' bs0 ts0:=(Dr.sets (d9.handAt hdB) d10 sb9).mono fun _ _ e=>s11 _ _ e
  generalize H'=H11 at dB11 hN11 sb11 hp11 ⊢
  have hU11:H11 W=some (.tup (List.map V.int x)):=dB11.keep _ _ hWh' hWB
  have lS:=sS.length_le
  have sub:∀z∈S,z∈x:=fun z hz=>sS.subset hz
  have riseS:Rise S:=rise.sublist sS
  repeat (walk_at "rl")
  have vals:∀q∈[(3,("_law_model_here" : Str)),(4,"_law_notes")],∀y1 y2 y3,∃v,([some (V.ref a),some (.ref h),some (.ref W),some (.ref M),some (.ref N),some (.ref f),some (.int (i:Int)),some (.ref p),y1,y2,y3]:St)[q.1]? = some (some v):=fun q hq y1 y2 y3=>by
   rcases List.mem_cons.mp hq with rfl | hq
   ·exact ⟨_,rfl⟩
   ·rw [List.mem_singleton.mp hq];exact ⟨_,rfl⟩
  refine ⟨fun q hq=>vals q hq _ _ _,fun σ' C dx H'=>σ'=[some (.ref a),some (.ref h),some (.ref W),some (.ref M),some (.ref N),some (.ref f),some (.int (i:Int)),some (.ref p),some .non,some (.bl false),x5]/\C=.ref t.c_NoPeace/\md.tells S=false/\Dr h B H'/\H' p=some (.tup (List.map V.int S))/\(∃bs ts,H' N=some (.lst (List.map V.ref bs))/\SetsAt H' bs ts/\ts.length<=40 * i+1/\∀s∈ts,dom s)/\∃d,dx=some d/\H' d=some (.xd [("part",.ref p)]),?_,?_⟩
  ·intro C ca po
   have ak:=askAt _ C rfl rfl ca
   have hD11:=dAt C H11 bs0 ts0 po dB11 hN11 sb11 hs9
   refine ⟨W,f,p,rfl,N,_,dom,md.tells,ts0.length,x,S,ak,hD11,addP_same po _ _ hU11,addP_same po _ _ hp11,rise,sS,by omega,by omega,domS,fun tS dx H12 hD k hdx=>?_,fun tS r H12 n' hn' hD k hr12=>?_⟩
   ·obtain ⟨d12,tup,bs,ts,hN12,sb,lt,hs⟩:=behind C _ H11 H12 po dB11 k hD
    have pin:=hD.2.2.1
    exact ⟨rfl,rfl,tS,d12,tup _ _ (ak.tup hD11 k (addP_same po _ _ hp11)),⟨bs,ts,hN12,sb,by omega,hs⟩,dx,rfl,by rw [dropP_out (pin.out hdx (by intro o z;cases z))];exact hdx⟩
   ·obtain ⟨d12,tup,bs,ts,hN12,sb,lt,hs⟩:=behind C _ H11 H12 po dB11 k hD
    have hp12:=tup _ _ (ak.tup hD11 k (addP_same po _ _ hp11))
    have hr12':=tup _ _ hr12
    generalize dropP C H12=H13 at d12 hN12 sb hp12 hr12' ⊢
    clear tup
    repeat (walk_at "rl")
    have md13:=(mdB.dr hdB hBN d12).same but_same
    refine ⟨M,p,rfl,md,x,S,md13,hp12,by omega,sub,fun H14 s14=>⟨_,rfl,?_⟩⟩
    rw [tS,if_neg (by decide)]
    have subF:=growF_sub md.tells x x S sS
    have lF:=subF.length_le
    refine ⟨r,rfl,_,s14 _ _ hr12',by omega,rise.sublist subF,fun H15 s15=>⟨_,rfl,?_⟩⟩
    have s35:=s14.trans s15
    rw [if_neg (by decide)]
    have hU12:H13 W=some (.tup (List.map V.int x)):=d12.keep _ _ hWh' hWB
    refine ⟨M,W,p,rfl,md,x,S,md13.same s35,s35 _ _ hU12,s35 _ _ hp12,by omega,sS,fun r2 H16 s16 hr2=>?_⟩
    have s36:=s35.trans s16
    have d16:=d12.on s36
    have hr16:=s36 _ _ hr12'
    have hp16:=s36 _ _ hp12
    have hN16:=s36 _ _ hN12
    have sb16:SetsAt H16 bs ts:=sb.mono fun _ _ e=>s36 _ _ e
    refine ⟨r2,rfl,_,hr16,_,hr2,?_⟩
    rw [decide_eq_true rfl,if_neg (by decide)]
    refine ⟨fun q hq=>vals q hq _ _ _,fun C ca po=>?_⟩
    have ak:=askAt _ C rfl rfl ca
    have hD16:=dAt C H16 bs ts po d16 hN16 sb16 hs
    refine ⟨W,f,p,rfl,N,_,dom,md.tells,ts.length,x,S,ak,hD16,addP_same po _ _ (s36 _ _ hU12),addP_same po _ _ hp16,rise,sS,by omega,by omega,domS,fun tS'=>?_,fun _ r3 H17 n2 hn2 hD k hr17=>?_⟩
    ·rw [tS] at tS';cases tS'
    obtain ⟨d17,tup,bs',ts',hN17,sb17,lt',hs'⟩:=behind C _ H16 H17 po d16 k hD
    have hr17':=tup _ _ hr17
    have hrr:=tup _ _ (ak.tup hD16 k (addP_same po _ _ hr16))
    refine ⟨r3,rfl,_,hr17',_,hrr,?_⟩
    rw [decide_eq_true rfl,if_neg (by decide)]
    exact (hPv _ _ _).mpr ⟨_,_,_,_,_,bs',ts',rfl,d17,hN17,sb17,by omega,hs'⟩
  ·rintro σ' C dx H12 ⟨rfl,eC,tS,d12,hp12,hn12,d,rfl,hd12⟩
   cases eC
   refine ⟨T.su_NoPeace_NoPeace,fun e he=>?_⟩
   have hde:d≠e:=ne_of_none hd12 he
   have hpe:p≠e:=ne_of_none hp12 he
   refine ⟨_,rfl,e,rfl,t.c_NoPeace,d,upd_same,T.x_NoPeace,T.nf_NoPeace,_,(upd_ne hde).trans hd12,_,rfl,_,rfl,p,rfl,p,rfl,S,(upd_ne hpe).trans hp12,S,(upd_ne hpe).trans hp12,?_⟩
   rw [decide_eq_true rfl]
   have s13:=same_new he (.ext (XOb e t.c_NoPeace (some d)))
   obtain ⟨bs,ts,hN12,sb,lt,hs⟩:=hn12
   have d13:Dr h B (upd H12 e (.ext (XOb e t.c_NoPeace (some d)))):=d12.on s13
   have hp13:=s13 _ _ hp12
   have hN13:=s13 _ _ hN12
   have sb13:SetsAt (upd H12 e (.ext (XOb e t.c_NoPeace (some d)))) bs ts:=sb.mono fun _ _ e=>s13 _ _ e
   generalize upd H12 e (.ext (XOb e t.c_NoPeace (some d)))=H13 at d13 hp13 hN13 sb13 ⊢
   repeat (walk_at "rl")
   have md13:=(mdB.dr hdB hBN d13).same but_same
   refine ⟨M,p,rfl,md,x,S,md13,hp13,by omega,sub,fun H14 s14=>⟨_,rfl,?_⟩⟩
   rw [tS,if_pos (by decide),if_neg (by decide)]
   exact (hPv _ _ _).mpr ⟨_,_,_,_,_,bs,ts,rfl,d13.on s14,s14 _ _ hN13,sb13.mono fun _ _ e=>s14 _ _ e,by omega,hs⟩
 ·obtain ⟨x1,x2,x3,x4,x5,bs,ts,rfl,d9,hN9,sb9,lt9,hs9⟩:=(hPv _ _ _).mp pv
  repeat (walk_at "rl")
  exact ⟨N,W,rfl,bs,ts,x,hN9,sb9,by omega,d9.keep _ _ hWh' hWB,fun s hs=>(hdom s).mp (hs9 s hs),fun H10 _=>q _⟩
end
local macro_rules | `(tactic| walk_at "rd") => `(tactic| walk_at "rc")
local macro_rules | `(tactic| walk_at "rl") => `(tactic| first | (refine seq_op fun R hR => ?_) | walk_at "ry" | (refine Nx.to (by assumption) _ _ ?_))
theorem all_mk {l:PySem.W.OpenLaw} {w:World} {K:PySem.W.Frag} {h:Heap} {mg:Str->Option Value} {fa f0 f1 f2 f3 f4 f5 f6 f7 f8 f9 f10 f11 f12 f13 f14 f15 f16:Addr} (X:K.In h) (G:h.Ns mainGlobals mg) (hfa:mg "law" = some (.ref fa))
  {od0 an0 od1 an1 od2 an2 od3 an3 od4 an4 od5 an5 od6 an6 od7 an7 od8 an8 od9 an9 od10 an10 od11 an11 od12 an12 od13 an13 od14 an14 od15 an15 od16 an16:Option Addr} {sl0 sl1 sl2 sl3 sl4 sl5 sl6 sl7 sl8 sl9 sl10 sl11 sl12 sl13 sl14 sl15 sl16:Array (Option Value)} {oc0 kV0 dc0 pm0 cd0 ct0 oc1 kV1 dc1 pm1 cd1 ct1 oc2 kV2 dc2 pm2 cd2 ct2 oc3 kV3 dc3 pm3 cd3 ct3 oc4 kV4 dc4 pm4 cd4 ct4 oc5 kV5 dc5 pm5 cd5 ct5 oc6 kV6 dc6 pm6 cd6 ct6 oc7 kV7 dc7 pm7 cd7 ct7 oc8 kV8 dc8 pm8 cd8 ct8 oc9 kV9 dc9 pm9 cd9 ct9 oc10 kV10 dc10 pm10 cd10 ct10 oc11 kV11 dc11 pm11 cd11 ct11 oc12 kV12 dc12 pm12 cd12 ct12 oc13 kV13 dc13 pm13 cd13 ct13 oc14 kV14 dc14 pm14 cd14 ct14 oc15 kV15 dc15 pm15 cd15 ct15 oc16 kV16 dc16 pm16 ct16:Value}
  {cC pT:Addr} (hC0:PySem.W.codeHdIn K cC pT=true)
  (a0:PySem.W.nsIn K mainGlobals "set_of" = some (some (.ref f0))) (l0:K.lookup f0=some ⟨oc0,od0,.func (PySem.W.fnOf "set_of" "set_of" (defArgs s_set_of) (defBody s_set_of) (defScope s_set_of) .none kV0 dc0 pm0 an0 cd0 ct0),sl0⟩) (c0:PySem.W.codeIn K cd0 "set_of" = true) (k0:PySem.W.keepIn K (.ref f0)=true)
  (a1:PySem.W.nsIn K mainGlobals "rest_of" = some (some (.ref f1))) (l1:K.lookup f1=some ⟨oc1,od1,.func (PySem.W.fnOf "rest_of" "rest_of" (defArgs s_rest_of) (defBody s_rest_of) (defScope s_rest_of) .none kV1 dc1 pm1 an1 cd1 ct1),sl1⟩) (c1:PySem.W.codeIn K cd1 "rest_of" = true) (k1:PySem.W.keepIn K (.ref f1)=true)
  (a2:PySem.W.nsIn K mainGlobals "grown" = some (some (.ref f2))) (l2:K.lookup f2=some ⟨oc2,od2,.func (PySem.W.fnOf "grown" "grown" (defArgs s_grown) (defBody s_grown) (defScope s_grown) .none kV2 dc2 pm2 an2 cd2 ct2),sl2⟩) (c2:PySem.W.codeIn K cd2 "grown" = true) (k2:PySem.W.keepIn K (.ref f2)=true)
  (a3:PySem.W.nsIn K mainGlobals "_law_hand" = some (some (.ref f3))) (l3:K.lookup f3=some ⟨oc3,od3,.func (PySem.W.fnOf "_law_hand" "_law_hand" (defArgs s__law_hand) (defBody s__law_hand) (defScope s__law_hand) .none kV3 dc3 pm3 an3 cd3 ct3),sl3⟩) (c3:PySem.W.codeIn K cd3 "_law_hand" = true) (k3:PySem.W.keepIn K (.ref f3)=true)
  (a4:PySem.W.nsIn K mainGlobals "_law_next" = some (some (.ref f4))) (l4:K.lookup f4=some ⟨oc4,od4,.func (PySem.W.fnOf "_law_next" "_law_next" (defArgs s__law_next) (defBody s__law_next) (defScope s__law_next) .none kV4 dc4 pm4 an4 cd4 ct4),sl4⟩) (c4:PySem.W.codeIn K cd4 "_law_next" = true) (k4:PySem.W.keepIn K (.ref f4)=true)
  (a5:PySem.W.nsIn K mainGlobals "_law_take" = some (some (.ref f5))) (l5:K.lookup f5=some ⟨oc5,od5,.func (PySem.W.fnOf "_law_take" "_law_take" (defArgs s__law_take) (defBody s__law_take) (defScope s__law_take) .none kV5 dc5 pm5 an5 cd5 ct5),sl5⟩) (c5:PySem.W.codeIn K cd5 "_law_take" = true) (k5:PySem.W.keepIn K (.ref f5)=true)
  (a6:PySem.W.nsIn K mainGlobals "_law_draw" = some (some (.ref f6))) (l6:K.lookup f6=some ⟨oc6,od6,.func (PySem.W.fnOf "_law_draw" "_law_draw" (defArgs s__law_draw) (defBody s__law_draw) (defScope s__law_draw) .none kV6 dc6 pm6 an6 cd6 ct6),sl6⟩) (c6:PySem.W.codeIn K cd6 "_law_draw" = true) (k6:PySem.W.keepIn K (.ref f6)=true)
  (a7:PySem.W.nsIn K mainGlobals "_law_is_within" = some (some (.ref f7))) (l7:K.lookup f7=some ⟨oc7,od7,.func (PySem.W.fnOf "_law_is_within" "_law_is_within" (defArgs s__law_is_within) (defBody s__law_is_within) (defScope s__law_is_within) .none kV7 dc7 pm7 an7 cd7 ct7),sl7⟩) (c7:PySem.W.codeIn K cd7 "_law_is_within" = true) (k7:PySem.W.keepIn K (.ref f7)=true)
  (a8:PySem.W.nsIn K mainGlobals "_law_is_whole" = some (some (.ref f8))) (l8:K.lookup f8=some ⟨oc8,od8,.func (PySem.W.fnOf "_law_is_whole" "_law_is_whole" (defArgs s__law_is_whole) (defBody s__law_is_whole) (defScope s__law_is_whole) .none kV8 dc8 pm8 an8 cd8 ct8),sl8⟩) (c8:PySem.W.codeIn K cd8 "_law_is_whole" = true) (k8:PySem.W.keepIn K (.ref f8)=true)
  (a9:PySem.W.nsIn K mainGlobals "_law_is_set" = some (some (.ref f9))) (l9:K.lookup f9=some ⟨oc9,od9,.func (PySem.W.fnOf "_law_is_set" "_law_is_set" (defArgs s__law_is_set) (defBody s__law_is_set) (defScope s__law_is_set) .none kV9 dc9 pm9 an9 cd9 ct9),sl9⟩) (c9:PySem.W.codeIn K cd9 "_law_is_set" = true) (k9:PySem.W.keepIn K (.ref f9)=true)
  (a10:PySem.W.nsIn K mainGlobals "_law_members" = some (some (.ref f10))) (l10:K.lookup f10=some ⟨oc10,od10,.func (PySem.W.fnOf "_law_members" "_law_members" (defArgs s__law_members) (defBody s__law_members) (defScope s__law_members) .none kV10 dc10 pm10 an10 cd10 ct10),sl10⟩) (c10:PySem.W.codeIn K cd10 "_law_members" = true) (k10:PySem.W.keepIn K (.ref f10)=true)
  (a11:PySem.W.nsIn K mainGlobals "_law_some" = some (some (.ref f11))) (l11:K.lookup f11=some ⟨oc11,od11,.func (PySem.W.fnOf "_law_some" "_law_some" (defArgs s__law_some) (defBody s__law_some) (defScope s__law_some) .none kV11 dc11 pm11 an11 cd11 ct11),sl11⟩) (c11:PySem.W.codeIn K cd11 "_law_some" = true) (k11:PySem.W.keepIn K (.ref f11)=true)
  (a12:PySem.W.nsIn K mainGlobals "_law_model" = some (some (.ref f12))) (l12:K.lookup f12=some ⟨oc12,od12,.func (PySem.W.fnOf "_law_model" "_law_model" (defArgs s__law_model) (defBody s__law_model) (defScope s__law_model) .none kV12 dc12 pm12 an12 cd12 ct12),sl12⟩) (c12:PySem.W.codeIn K cd12 "_law_model" = true) (k12:PySem.W.keepIn K (.ref f12)=true)
  (a13:PySem.W.nsIn K mainGlobals "_law_tells" = some (some (.ref f13))) (l13:K.lookup f13=some ⟨oc13,od13,.func (PySem.W.fnOf "_law_tells" "_law_tells" (defArgs s__law_tells) (defBody s__law_tells) (defScope s__law_tells) .none kV13 dc13 pm13 an13 cd13 ct13),sl13⟩) (c13:PySem.W.codeIn K cd13 "_law_tells" = true) (k13:PySem.W.keepIn K (.ref f13)=true)
  (a14:PySem.W.nsIn K mainGlobals "_law_asked_well" = some (some (.ref f14))) (l14:K.lookup f14=some ⟨oc14,od14,.func (PySem.W.fnOf "_law_asked_well" "_law_asked_well" (defArgs s__law_asked_well) (defBody s__law_asked_well) (defScope s__law_asked_well) .none kV14 dc14 pm14 an14 cd14 ct14),sl14⟩) (c14:PySem.W.codeIn K cd14 "_law_asked_well" = true) (k14:PySem.W.keepIn K (.ref f14)=true)
  (a15:PySem.W.nsIn K mainGlobals "_law_due" = some (some (.ref f15))) (l15:K.lookup f15=some ⟨oc15,od15,.func (PySem.W.fnOf "_law_due" "_law_due" (defArgs s__law_due) (defBody s__law_due) (defScope s__law_due) .none kV15 dc15 pm15 an15 cd15 ct15),sl15⟩) (c15:PySem.W.codeIn K cd15 "_law_due" = true) (k15:PySem.W.keepIn K (.ref f15)=true)
  (a16:PySem.W.nsIn K mainGlobals "law" = some (some (.ref f16))) (l16:K.lookup f16=some ⟨oc16,od16,.func (PySem.W.fnOf "law" "law" (defArgs s_law) (defBody s_law) (defScope s_law) .none kV16 dc16 pm16 an16 (.ref cC) ct16),sl16⟩) (c16:PySem.W.codeIn K (.ref cC) "law" = true) (k16:PySem.W.keepIn K (.ref f16)=true)
  (z_abs:PySem.W.nsIn K mainGlobals "abs" = some none)
  (z_all:PySem.W.nsIn K mainGlobals "all" = some none)
  (z_any:PySem.W.nsIn K mainGlobals "any" = some none)
  (z_bool:PySem.W.nsIn K mainGlobals "bool" = some none)
  (z_int:PySem.W.nsIn K mainGlobals "int" = some none)
  (z_isinstance:PySem.W.nsIn K mainGlobals "isinstance" = some none)
  (z_len:PySem.W.nsIn K mainGlobals "len" = some none)
  (z_list:PySem.W.nsIn K mainGlobals "list" = some none)
  (z_range:PySem.W.nsIn K mainGlobals "range" = some none)
  (z_set:PySem.W.nsIn K mainGlobals "set" = some none)
  (z_sorted:PySem.W.nsIn K mainGlobals "sorted" = some none)
  (z_sum:PySem.W.nsIn K mainGlobals "sum" = some none)
  (z_tuple:PySem.W.nsIn K mainGlobals "tuple" = some none)
  (cx7:PySem.W.specialIn K (.builtin "object.__class__") "__get__" = some (some (.builtin "getset_descriptor.__get__"))) (cx8:PySem.W.takesIn K (.builtin "object.__class__")=some true)
  {c_TruceError c_NoPeace:Addr}
  {a_NoPeace___init__:Addr} {iod_NoPeace ian_NoPeace:Option Addr} {isl_NoPeace:Array (Option Value)} {ioc_NoPeace ikV_NoPeace idc_NoPeace ipm_NoPeace icd_NoPeace ict_NoPeace:Value}
  (am_TruceError:PySem.W.nsIn K mainGlobals "TruceError" = some (some (.ref c_TruceError))) (x1_TruceError:xcIn K c_TruceError=true) (x2_TruceError:PySem.W.hasDictIn K c_TruceError=true) (x3_TruceError:PySem.W.findIn K (.ref c_TruceError) "__setattr__" = some (some (.builtin "object.__setattr__"))) (x4_TruceError:PySem.W.findIn K (.ref c_TruceError) "__getattribute__" = some (some (.builtin "BaseException.__getattribute__"))) (x5_TruceError:PySem.W.findIn K (.ref c_TruceError) "__getattr__" = some none) (x6_TruceError:PySem.W.findIn K (.ref c_TruceError) "__class__" = some (some (.builtin "object.__class__"))) (x9_TruceError:PySem.W.mroIn K c_TruceError (.type "object")=some true)
  (am_NoPeace:PySem.W.nsIn K mainGlobals "NoPeace" = some (some (.ref c_NoPeace))) (x1_NoPeace:xcIn K c_NoPeace=true) (x2_NoPeace:PySem.W.hasDictIn K c_NoPeace=true) (x3_NoPeace:PySem.W.findIn K (.ref c_NoPeace) "__setattr__" = some (some (.builtin "object.__setattr__"))) (x4_NoPeace:PySem.W.findIn K (.ref c_NoPeace) "__getattribute__" = some (some (.builtin "BaseException.__getattribute__"))) (x5_NoPeace:PySem.W.findIn K (.ref c_NoPeace) "__getattr__" = some none) (x6_NoPeace:PySem.W.findIn K (.ref c_NoPeace) "__class__" = some (some (.builtin "object.__class__"))) (x9_NoPeace:PySem.W.mroIn K c_NoPeace (.type "object")=some true)
  (kc_TruceError:PySem.W.keepIn K (.ref c_TruceError)=true)
  (ii_TruceError:PySem.W.findIn K (.ref c_TruceError) "__init__" = some (some (.builtin "ValueError.__init__")))
  (rd_TruceError:PySem.W.readsIn K c_TruceError (.type "type")=true)
  (fc_TruceError:PySem.W.findCls K (.ref c_TruceError) (.type "type") "__init__" = some (.val (.builtin "ValueError.__init__")))
  (sg_TruceError:PySem.W.specialIn K (.ref c_TruceError) "__getattribute__" = some (some (.builtin "type.__getattribute__")))
  (kc_NoPeace:PySem.W.keepIn K (.ref c_NoPeace)=true)
  (il_NoPeace:K.lookup a_NoPeace___init__=some ⟨ioc_NoPeace,iod_NoPeace,.func (PySem.W.fnOf "__init__" "NoPeace.__init__" (defArgs s_NoPeace___init__) (defBody s_NoPeace___init__) (defScope s_NoPeace___init__) .none ikV_NoPeace idc_NoPeace ipm_NoPeace ian_NoPeace icd_NoPeace ict_NoPeace),isl_NoPeace⟩) (ic_NoPeace:PySem.W.codeIn K icd_NoPeace "NoPeace.__init__" = true) (ik_NoPeace:PySem.W.keepIn K (.ref a_NoPeace___init__)=true)
  (ii_NoPeace:PySem.W.findIn K (.ref c_NoPeace) "__init__" = some (some (.ref a_NoPeace___init__)))
  (if_NoPeace:PySem.W.typeIn K (.ref a_NoPeace___init__)=some (.type "function"))
  (tk_NoPeace:PySem.W.takerIn K c_NoPeace "part" = some none)
  (nf_NoPeace:PySem.W.findIn K (.ref c_NoPeace) "part" = some none)
  (su_NoPeace_NoPeace:PySem.W.subIn K (.ref c_NoPeace) (.ref c_NoPeace)=some true)
  (kv_NoPeace:PySem.W.kitOne K (.ref c_NoPeace) (.type "ValueError")=some true)
  : ∃fd:FuncData,(∀(s:Shared) (v:Value),BindsTo s fd ⟨[v],[]⟩ [("_law_script",v)])/\∀base:Heap,K.In base->base.Ns mainGlobals mg->BMain mg base->FnOk l.prog w K mg base CX0 12 fa fd ["_law_script"] (spLaw K pT):=by
 have e:=hfa.symm.trans (PySem.W.mg_of X G a16)
 cases e
 have F0:=fun_mk (st:=s_set_of) l0 c0 k0
 have b0:=F0.binds (ps:=["numbers"]) fun _ _ _ _ _ _=>of1 fun _=>rfl
 have F1:=fun_mk (st:=s_rest_of) l1 c1 k1
 have b1:=F1.binds (ps:=["whole","part"]) fun _ _ _ _ _ _=>of2 fun _ _=>rfl
 have F2:=fun_mk (st:=s_grown) l2 c2 k2
 have b2:=F2.binds (ps:=["whole","ask","part"]) fun _ _ _ _ _ _=>of3 fun _ _ _=>rfl
 have F3:=fun_mk (st:=s__law_hand) l3 c3 k3
 have b3:=F3.binds (ps:=["_law_script"]) fun _ _ _ _ _ _=>of1 fun _=>rfl
 have F4:=fun_mk (st:=s__law_next) l4 c4 k4
 have b4:=F4.binds (ps:=["_law_hand_here"]) fun _ _ _ _ _ _=>of1 fun _=>rfl
 have F5:=fun_mk (st:=s__law_take) l5 c5 k5
 have b5:=F5.binds (ps:=["_law_hand_here"]) fun _ _ _ _ _ _=>of1 fun _=>rfl
 have F6:=fun_mk (st:=s__law_draw) l6 c6 k6
 have b6:=F6.binds (ps:=["_law_hand_here","_law_many"]) fun _ _ _ _ _ _=>of2 fun _ _=>rfl
 have F7:=fun_mk (st:=s__law_is_within) l7 c7 k7
 have b7:=F7.binds (ps:=["_law_one","_law_other"]) fun _ _ _ _ _ _=>of2 fun _ _=>rfl
 have F8:=fun_mk (st:=s__law_is_whole) l8 c8 k8
 have b8:=F8.binds (ps:=["_law_thing"]) fun _ _ _ _ _ _=>of1 fun _=>rfl
 have F9:=fun_mk (st:=s__law_is_set) l9 c9 k9
 have b9:=F9.binds (ps:=["_law_thing"]) fun _ _ _ _ _ _=>of1 fun _=>rfl
 have F10:=fun_mk (st:=s__law_members) l10 c10 k10
 have b10:=F10.binds (ps:=["_law_hand_here","_law_most"]) fun _ _ _ _ _ _=>of2 fun _ _=>rfl
 have F11:=fun_mk (st:=s__law_some) l11 c11 k11
 have b11:=F11.binds (ps:=["_law_hand_here","_law_whole"]) fun _ _ _ _ _ _=>of2 fun _ _=>rfl
 have F12:=fun_mk (st:=s__law_model) l12 c12 k12
 have b12:=F12.binds (ps:=["_law_hand_here","_law_whole"]) fun _ _ _ _ _ _=>of2 fun _ _=>rfl
 have F13:=fun_mk (st:=s__law_tells) l13 c13 k13
 have b13:=F13.binds (ps:=["_law_model_here","_law_part"]) fun _ _ _ _ _ _=>of2 fun _ _=>rfl
 have F14:=fun_mk (st:=s__law_asked_well) l14 c14 k14
 have b14:=F14.binds (ps:=["_law_notes","_law_whole"]) fun _ _ _ _ _ _=>of2 fun _ _=>rfl
 have F15:=fun_mk (st:=s__law_due) l15 c15 k15
 have b15:=F15.binds (ps:=["_law_model_here","_law_whole","_law_part"]) fun _ _ _ _ _ _=>of3 fun _ _ _=>rfl
 have F16:=fun_mk (st:=s_law) l16 c16 k16
 have b16:=F16.binds (ps:=["_law_script"]) fun _ _ _ _ _ _=>of1 fun _=>rfl
 have IF_NoPeace:=fun_mk (st:=s_NoPeace___init__) il_NoPeace ic_NoPeace ik_NoPeace
 have IB_NoPeace:=IF_NoPeace.binds (ps:=nm_NoPeace___init__) fun _ _ _ _ _ _=>of2 fun _ _=>rfl
 have T:Txt K mg ⟨_,_,_,_,_,_,_,_,_,_,_,_,_,_,_,_,_,_,_,_,_,_,_,_,_,_,_,_,_,_,_,_,_,_,_,_,_,_⟩:=⟨F0,b0,PySem.W.mg_of X G a0,F1,b1,PySem.W.mg_of X G a1,F2,b2,PySem.W.mg_of X G a2,F3,b3,PySem.W.mg_of X G a3,F4,b4,PySem.W.mg_of X G a4,F5,b5,PySem.W.mg_of X G a5,F6,b6,PySem.W.mg_of X G a6,F7,b7,PySem.W.mg_of X G a7,F8,b8,PySem.W.mg_of X G a8,F9,b9,PySem.W.mg_of X G a9,F10,b10,PySem.W.mg_of X G a10,F11,b11,PySem.W.mg_of X G a11,F12,b12,PySem.W.mg_of X G a12,F13,b13,PySem.W.mg_of X G a13,F14,b14,PySem.W.mg_of X G a14,F15,b15,PySem.W.mg_of X G a15,F16,b16,PySem.W.mg_of X G a16,PySem.W.mg_none_of X G z_abs,PySem.W.mg_none_of X G z_all,PySem.W.mg_none_of X G z_any,PySem.W.mg_none_of X G z_bool,PySem.W.mg_none_of X G z_int,PySem.W.mg_none_of X G z_isinstance,PySem.W.mg_none_of X G z_len,PySem.W.mg_none_of X G z_list,PySem.W.mg_none_of X G z_range,PySem.W.mg_none_of X G z_set,PySem.W.mg_none_of X G z_sorted,PySem.W.mg_none_of X G z_sum,PySem.W.mg_none_of X G z_tuple,PySem.W.mg_of X G am_TruceError,⟨x1_TruceError,x2_TruceError,x3_TruceError,x4_TruceError,x5_TruceError,x6_TruceError,cx7,cx8,x9_TruceError⟩,kc_TruceError,ii_TruceError,rd_TruceError,fc_TruceError,sg_TruceError,PySem.W.mg_of X G am_NoPeace,⟨x1_NoPeace,x2_NoPeace,x3_NoPeace,x4_NoPeace,x5_NoPeace,x6_NoPeace,cx7,cx8,x9_NoPeace⟩,kc_NoPeace,IF_NoPeace,IB_NoPeace,ii_NoPeace,if_NoPeace,tk_NoPeace,nf_NoPeace,su_NoPeace_NoPeace,kv_NoPeace⟩
 exact ⟨PySem.W.fnOf "law" "law" (defArgs s_law) (defBody s_law) (defScope s_law) .none kV16 dc16 pm16 an16 (.ref cC) ct16,fun s v=>.of_eq rfl,fun base kb _ hB=>ok_law (P:=l.prog) (w:=w) (base:=base) T rfl (PySem.W.codeHd_of_K kb hC0) hB⟩
theorem walk {l:PySem.W.OpenLaw} {q:Program} {loose:List Str} {XP:(Str->Option Value)->Heap->Prop} {YP:World->Heap->Prop} {d:DefRec} {K:Params->PySem.W.Frag} {cC pT:Addr} (hn:l.most=some 63) (hdf:d.params.defaults=[])
  (hY:∀(w:World) (h:Heap),YP w h->(K w.params).In h/\∀q∈[(cC,pT)],h.get? q.2=some (PySem.W.tabObj #[]))
  (hCd:∀w:World,∀q∈[(cC,pT)],PySem.W.codeHdIn (K w.params) q.1 q.2=true/\(K w.params).lookup q.2=none)
  (F:∀(w:World) (mg:Str->Option Value) (fa:Addr) (h:Heap),(K w.params).In h->h.Ns mainGlobals mg->mg d.name=some (.ref fa)->
   ∃fd:FuncData,(∀(s:Shared) (u:Value),BindsTo s fd ⟨[u],[]⟩ [("_law_script",u)])/\∀base:Heap,(K w.params).In base->base.Ns mainGlobals mg->BMain mg base->FnOk l.prog w (K w.params) mg base CX0 12 fa fd ["_law_script"] (spLaw (K w.params) pT)) :
  PySem.W.WalkO q loose XP YP l.row.toRowW d [] (fun f vs=>PySem.call f vs):=
 L2.walk_ofT (n:=63) (k:=12) (x:="_law_script") (ts:=[(cC,pT)]) (CX:=fun _=>CX0) (sp:=fun w=>spLaw (K w.params) pT) hn (by decide) hdf ⟨rfl,by decide,by decide⟩ hY hCd F (fun _ _ a ns hl hT hS=>⟨a,ns,rfl,hS,hl,hT _ (List.mem_singleton.mpr rfl),fun _=>rfl⟩) fun _ _ _ _ _ z=>z
def view:Program:={ PySem.Challenge.pw_truceroll_k51_grown with main:={ PySem.Challenge.pw_truceroll_k51_grown.main with body:=[top 1,top 2,top 4,top 5,top 7,top 9,top 10,top 11,top 12,top 13,top 14,top 15,top 16,top 17,top 18,top 19,top 20,top 21,top 22] } }
end My
open PySem PySem.W PyProof.Rows
local macro_rules | `(tactic| o_head $H:term) => `(tactic| (
  refine holds_open (q := My.view) (loose := []) (Xt := fun s => xlAt My.view [] s && recOk (RowW.records (OpenRow.toRowW PySem.Challenge.rw_truceroll_k51_grown.row)) s) (XP := XL My.view []) (Yf := Hook.obs $H) (Ya := Hook.val $H) (YP := Hook.says $H) (N := 40000) ?hl (Hook.of $H) (Hook.keeps $H) (fun s e => xl_of s (Bool.and_eq_true_iff.mp e).1) XL.keeps (by rfl) (by rfl) (by rfl) (fun s e => recFacts_of (Bool.and_eq_true_iff.mp e).2) (by rfl) (by first | assumption | decide +kernel) (by decide +kernel) ⟨rfl, rfl, rfl, rfl, rfl, by decide +kernel⟩ ?hw ?hc
  case hl => intro w; kernel_rfl))
theorem PySem.Challenge.cw_truceroll_k51_grown_holds : PySem.Challenge.rw_truceroll_k51_grown.Holds := by
 w_on;o_law;k_head;(case hw=>w_witness2)
 k_fill
 refine My.walk (l:=PySem.Challenge.rw_truceroll_k51_grown) (cC:=150) (pT:=146) rfl rfl (fun w h Y=>⟨PySem.W.km_in_of Y,fun q hq=>PySem.W.km_tabs_of Y _ (by rw [List.mem_singleton.mp hq];exact List.mem_singleton.mpr rfl)⟩) (fun w q hq=>by rw [List.mem_singleton.mp hq];exact ⟨by kernel_rfl,by kernel_rfl⟩) ?F
 case F=>
  intro w mg fa h KX G hmg
  refine' My.all_mk KX G hmg (by kernel_rfl) ?a0 ?l0 ?c0 ?k0 ?a1 ?l1 ?c1 ?k1 ?a2 ?l2 ?c2 ?k2 ?a3 ?l3 ?c3 ?k3 ?a4 ?l4 ?c4 ?k4 ?a5 ?l5 ?c5 ?k5 ?a6 ?l6 ?c6 ?k6 ?a7 ?l7 ?c7 ?k7 ?a8 ?l8 ?c8 ?k8 ?a9 ?l9 ?c9 ?k9 ?a10 ?l10 ?c10 ?k10 ?a11 ?l11 ?c11 ?k11 ?a12 ?l12 ?c12 ?k12 ?a13 ?l13 ?c13 ?k13 ?a14 ?l14 ?c14 ?k14 ?a15 ?l15 ?c15 ?k15 ?a16 ?l16 ?c16 ?k16 ?z_abs ?z_all ?z_any ?z_bool ?z_int ?z_isinstance ?z_len ?z_list ?z_range ?z_set ?z_sorted ?z_sum ?z_tuple ?cx7 ?cx8 ?am_TruceError ?x1_TruceError ?x2_TruceError ?x3_TruceError ?x4_TruceError ?x5_TruceError ?x6_TruceError ?x9_TruceError ?am_NoPeace ?x1_NoPeace ?x2_NoPeace ?x3_NoPeace ?x4_NoPeace ?x5_NoPeace ?x6_NoPeace ?x9_NoPeace ?kc_TruceError ?ii_TruceError ?rd_TruceError ?fc_TruceError ?sg_TruceError ?kc_NoPeace ?il_NoPeace ?ic_NoPeace ?ik_NoPeace ?ii_NoPeace ?if_NoPeace ?tk_NoPeace ?nf_NoPeace ?su_NoPeace_NoPeace ?kv_NoPeace
  (case a0=>k_is)
  (case l0=>k_is)
  (case c0=>k_is)
  (case k0=>k_is)
  (case a1=>k_is)
  (case l1=>k_is)
  (case c1=>k_is)
  (case k1=>k_is)
  (case a2=>k_is)
  (case l2=>k_is)
  (case c2=>k_is)
  (case k2=>k_is)
  (case a3=>k_is)
  (case l3=>k_is)
  (case c3=>k_is)
  (case k3=>k_is)
  (case a4=>k_is)
  (case l4=>k_is)
  (case c4=>k_is)
  (case k4=>k_is)
  (case a5=>k_is)
  (case l5=>k_is)
  (case c5=>k_is)
  (case k5=>k_is)
  (case a6=>k_is)
  (case l6=>k_is)
  (case c6=>k_is)
  (case k6=>k_is)
  (case a7=>k_is)
  (case l7=>k_is)
  (case c7=>k_is)
  (case k7=>k_is)
  (case a8=>k_is)
  (case l8=>k_is)
  (case c8=>k_is)
  (case k8=>k_is)
  (case a9=>k_is)
  (case l9=>k_is)
  (case c9=>k_is)
  (case k9=>k_is)
  (case a10=>k_is)
  (case l10=>k_is)
  (case c10=>k_is)
  (case k10=>k_is)
  (case a11=>k_is)
  (case l11=>k_is)
  (case c11=>k_is)
  (case k11=>k_is)
  (case a12=>k_is)
  (case l12=>k_is)
  (case c12=>k_is)
  (case k12=>k_is)
  (case a13=>k_is)
  (case l13=>k_is)
  (case c13=>k_is)
  (case k13=>k_is)
  (case a14=>k_is)
  (case l14=>k_is)
  (case c14=>k_is)
  (case k14=>k_is)
  (case a15=>k_is)
  (case l15=>k_is)
  (case c15=>k_is)
  (case k15=>k_is)
  (case a16=>k_is)
  (case l16=>k_is)
  (case c16=>k_is)
  (case k16=>k_is)
  (case z_abs=>k_is)
  (case z_all=>k_is)
  (case z_any=>k_is)
  (case z_bool=>k_is)
  (case z_int=>k_is)
  (case z_isinstance=>k_is)
  (case z_len=>k_is)
  (case z_list=>k_is)
  (case z_range=>k_is)
  (case z_set=>k_is)
  (case z_sorted=>k_is)
  (case z_sum=>k_is)
  (case z_tuple=>k_is)
  (case cx7=>first | k_is | rfl)
  (case cx8=>first | k_is | rfl)
  (case am_TruceError=>first | k_is | rfl)
  (case x1_TruceError=>first | k_is | rfl)
  (case x2_TruceError=>first | k_is | rfl)
  (case x3_TruceError=>first | k_is | rfl)
  (case x4_TruceError=>first | k_is | rfl)
  (case x5_TruceError=>first | k_is | rfl)
  (case x6_TruceError=>first | k_is | rfl)
  (case x9_TruceError=>first | k_is | rfl)
  (case ii_TruceError=>first | k_is | rfl)
  (case am_NoPeace=>first | k_is | rfl)
  (case x1_NoPeace=>first | k_is | rfl)
  (case x2_NoPeace=>first | k_is | rfl)
  (case x3_NoPeace=>first | k_is | rfl)
  (case x4_NoPeace=>first | k_is | rfl)
  (case x5_NoPeace=>first | k_is | rfl)
  (case x6_NoPeace=>first | k_is | rfl)
  (case x9_NoPeace=>first | k_is | rfl)
  (case ii_NoPeace=>first | k_is | rfl)
  (case kc_TruceError=>first | k_is | rfl)
  (case rd_TruceError=>first | k_is | rfl)
  (case fc_TruceError=>first | k_is | rfl)
  (case sg_TruceError=>first | k_is | rfl)
  (case kc_NoPeace=>first | k_is | rfl)
  (case il_NoPeace=>first | k_is | rfl)
  (case ic_NoPeace=>first | k_is | rfl)
  (case ik_NoPeace=>first | k_is | rfl)
  (case if_NoPeace=>first | k_is | rfl)
  (case tk_NoPeace=>first | k_is | rfl)
  (case nf_NoPeace=>first | k_is | rfl)
  (case su_NoPeace_NoPeace=>first | k_is | rfl)
  (case kv_NoPeace=>first | k_is | rfl)
