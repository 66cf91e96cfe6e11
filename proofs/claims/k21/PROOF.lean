import PyProof.Rows.All
import Wide.All
import OpenK.AllK
import Wide.FinOn
import Lean
import PyProof.EqAt
import PyProof.EqKinds
import PyProof.TupleCall
import PySem.Challenge.RW_truceroll_k21_what_is_a_clause
set_option Elab.async false
set_option linter.all false
set_option maxRecDepth 100000
set_option maxHeartbeats 0
section
namespace L2
open PySem PySem.Spec PyProof.Rows
abbrev Key:=Sum Int Str
def keyIs:Key->Value->Bool
 | .inl k,v=>Value.isInt k v
 | .inr x,v=>Value.isStrOf x v
def keyH (w:World):Key->Int
 | .inl k=>hashInt k
 | .inr x=>hashStr w x
theorem keyIs_shape:∀{k:Key} {v:Value},keyIs k v=true->(∃i t,k=Sum.inl i/\v=Value.int i t)\/(∃x t,k=Sum.inr x/\v=Value.str x t)
 | .inl i,v,h=>by
  obtain ⟨t,e⟩:=Value.isInt_shape (k:=i) (v:=v) h
  exact .inl ⟨i,t,rfl,e⟩
 | .inr x,v,h=>by
  obtain ⟨t,e⟩:=Value.isStrOf_shape (x:=x) (v:=v) h
  exact .inr ⟨x,t,rfl,e⟩
theorem key_ll (a b:Int):decide ((Sum.inl a:Key)=Sum.inl b)=(a == b):=by
 by_cases e:a=b
 ·subst e;simp
 ·have h:¬(Sum.inl a:Key)=Sum.inl b:=fun q=>e (Sum.inl.inj q)
  rw [decide_eq_false h]
  exact (beq_eq_false_iff_ne.mpr e).symm
theorem key_rr (a b:Str):decide ((Sum.inr a:Key)=Sum.inr b)=decide (a=b):=by
 by_cases e:a=b
 ·subst e;simp
 ·have h:¬(Sum.inr a:Key)=Sum.inr b:=fun q=>e (Sum.inr.inj q)
  rw [decide_eq_false h,decide_eq_false e]
theorem key_lr (a:Int) (b:Str):decide ((Sum.inl a:Key)=Sum.inr b)=false:=decide_eq_false (fun q=>nomatch q)
theorem key_rl (a:Str) (b:Int):decide ((Sum.inr a:Key)=Sum.inl b)=false:=decide_eq_false (fun q=>nomatch q)
def mixKind (prog:Program) (w:World):PySem.KeyKind prog w Key where
 is:=keyIs
 hash:=keyH w
 inj:=fun v a b ha hb=>by
  rcases keyIs_shape ha with ⟨i,t,rfl,rfl⟩ | ⟨x,t,rfl,rfl⟩
  ·rcases keyIs_shape hb with ⟨j,u,rfl,e⟩ | ⟨y,u,rfl,e⟩
   ·injection e with e1 _;rw [e1]
   ·exact nomatch e
  ·rcases keyIs_shape hb with ⟨j,u,rfl,e⟩ | ⟨y,u,rfl,e⟩
   ·exact nomatch e
   ·injection e with e1 _;rw [e1]
 byValue:=fun k v h=>by
  rcases keyIs_shape h with ⟨i,t,rfl,rfl⟩ | ⟨x,t,rfl,rfl⟩ <;> rfl
 pyHash:=fun hv h=>by
  rcases keyIs_shape hv with ⟨i,t,rfl,rfl⟩ | ⟨x,t,rfl,rfl⟩
  ·exact wpAny_pyHash_int h
  ·exact wpAny_pyHash_str h
 eqBool:=fun hu hv h=>by
  rcases keyIs_shape hu with ⟨i,t,rfl,rfl⟩ | ⟨x,t,rfl,rfl⟩
  ·rcases keyIs_shape hv with ⟨j,u,rfl,rfl⟩ | ⟨y,u,rfl,rfl⟩
   ·rw [key_ll] at h;exact wpAny_eqBool_int h
   ·rw [key_lr] at h;exact SeqAt.EqAt.int_str i t y u _ _ _ _ h
  ·rcases keyIs_shape hv with ⟨j,u,rfl,rfl⟩ | ⟨y,u,rfl,rfl⟩
   ·rw [key_rl] at h;exact SeqAt.EqAt.str_int x t j u _ _ _ _ h
   ·rw [key_rr] at h;exact wpAny_eqBool_str h
 «strs»:=fun k x t v h=>by
  rcases keyIs_shape h with ⟨i,u,rfl,e⟩ | ⟨y,u,rfl,e⟩
  ·exact nomatch e
  ·injection e with e1 _
   subst e1
   cases v <;> rfl
end L2
namespace L2
open PySem PySem.Spec PyProof.Rows
inductive V where
 | non | bl (b:Bool) | int (i:Int) | str (x:Str) | byt (b:Array UInt8) | flt (b:UInt64) | ref (a:Addr) | ty (n:String)
 deriving DecidableEq
def RelV:V->Value->Prop
 | .non,u=>u=Value.none
 | .bl b,u=>u=Value.bool b
 | .int i,u=>∃t,u=Value.int i t
 | .str x,u=>∃t,u=Value.str x t
 | .byt b,u=>∃t,u=Value.bytes b t
 | .flt b,u=>∃t,u=Value.float b t
 | .ref a,u=>u=Value.ref a
 | .ty n,u=>u=Value.type n
abbrev Vals:List V->List Value->Prop:=Paired RelV
theorem Vals.length {xs:List V} {us:List Value} (r:Vals xs us):xs.length=us.length:=Paired.length r
theorem Vals.get:∀{xs:List V} {us:List Value} {i:Nat} {x:V},Vals xs us->xs[i]? = some x->∃u,us[i]? = some u/\RelV x u
 | _,_,_,_,.nil,e=>by simp at e
 | _,_,0,_,.cons r _,e=>by simp at e;subst e;exact ⟨_,rfl,r⟩
 | _,_,i+1,x,.cons _ t,e=>by
  obtain ⟨u,h1,h2⟩:=Vals.get (i:=i) (x:=x) t (by simpa using e)
  exact ⟨u,by simpa using h1,h2⟩
theorem Vals.set {x:V} {u:Value} (r:RelV x u):∀{xs:List V} {us:List Value} (i:Nat),Vals xs us->Vals (xs.set i x) (us.set i u)
 | _,_,_,.nil=>.nil
 | _,_,0,.cons _ t=>.cons r t
 | _,_,i+1,.cons q t=>.cons q (Vals.set r i t)
theorem Vals.append:∀{xs ys:List V} {us ws:List Value},Vals xs us->Vals ys ws->Vals (xs++ys) (us++ws)
 | _,_,_,_,.nil,s=>s
 | _,_,_,_,.cons r t,s=>.cons r (Vals.append t s)
theorem Vals.take:∀{xs:List V} {us:List Value} (n:Nat),Vals xs us->Vals (xs.take n) (us.take n)
 | _,_,0,_=>.nil
 | _,_,_+1,.nil=>.nil
 | _,_,n+1,.cons r t=>.cons r (Vals.take n t)
theorem Vals.drop:∀{xs:List V} {us:List Value} (n:Nat),Vals xs us->Vals (xs.drop n) (us.drop n)
 | _,_,0,r=>r
 | _,_,_+1,.nil=>.nil
 | _,_,n+1,.cons _ t=>Vals.drop n t
def RelO:Option V->Option Value->Prop
 | some v,some u=>RelV v u
 | none,none=>True
 | _,_=>False
def KV {κ:Type}:List (κ×V)->List (κ×Value)->Prop:=Paired fun (p:κ×V) (q:κ×Value)=>p.1=q.1/\RelV p.2 q.2
def kV:Key->V
 | .inl i=>.int i
 | .inr x=>.str x
inductive HO where
 | lst (xs:List V)
 | tup (xs:List V)
 | dK (kvs:List (Key×V)) | dT (kvs:List (List Key×V))
 | set (S:Int->Bool) (n:Nat)
 | ins (C dx:Addr) (fs:List (Str×V))
 | own (x:Addr)
 | xd (fs:List (Str×V))
 | met (f x:Addr)
 | rng (lo hi:Int)
 | frz (o:Obj) (u:HO)
 | tbl (ps:Array Value)
 | ext (φ:Heap->Prop)
abbrev Hp:=Addr->Option HO
def upd (H:Hp) (a:Addr) (o:HO):Hp:=fun b=>if b=a then some o else H b
theorem upd_same {H:Hp} {a:Addr} {o:HO}:upd H a o a=some o:=by unfold upd;rw [if_pos rfl]
theorem upd_ne {H:Hp} {a b:Addr} {o:HO} (h:b≠a):upd H a o b=H b:=by unfold upd;rw [if_neg h]
theorem upd_upd {H:Hp} {a:Addr} {o u:HO}:upd (upd H a o) a u=upd H a u:=by
 funext b;unfold upd;split <;> rfl
theorem ne_of {H:Hp} {a b:Addr} {o u:HO} (h:H a=some o) (h':H b=some u) (d:o≠u):a≠b:=by
 intro e;subst e;rw [h] at h';exact d (Option.some.inj h')
theorem ne_of_none {H:Hp} {a b:Addr} {o:HO} (h:H a=some o) (h':H b=none):a≠b:=by
 intro e;subst e;rw [h] at h';cases h'
section
variable (P:Program) (w:World)
def ObjOk (H:Hp) (h:Heap) (a:Addr):HO->Prop
 | .lst xs=>xs.length<=sizeLine/\∃(its:List Value) (n:Nat),Vals xs its/\h.get? a=some { cls:=.type "list",data:=.seq its.toArray n }
 | .tup xs=>xs.length<=sizeLine/\∃its:List Value,Vals xs its/\IsTup h a its.toArray
 | .dK kvs=>kvs.length<=sizeLine/\(a == sysModules)=false/\∃vs,KV kvs vs/\h.DictOf (mixKind P w) a vs
 | .dT kvs=>kvs.length<=sizeLine/\(a == sysModules)=false/\∃xs:List (List Key×Addr×Value),
   Paired (fun (p:List Key×V) (q:List Key×Addr×Value)=>p.1=q.1/\H q.2.1=some (.tup (p.1.map kV))/\RelV p.2 q.2.2) kvs xs/\
   ∃o es ep,h.get? a=some o/\o.ExactDict/\o.data=.dict es ep/\es.toList=xs.map (entryOfKey (tupleKind (mixKind P w)))/\(xs.map (·.1)).Nodup
 | .set S n=>h.SetOf (intKind P w) a S n
 | .ins C dx fs=>H dx=some (.own a)/\fs.length<=1000/\dx≠a/\h.get? a=some (PySem.W.instObj C dx)/\
   ∃mA,h.Ns1 dx mA/\(∀f,RelO (fs.lookup f) (mA f))/\PySem.Within mA (fs.map (·.1))
 | .own _=>∃o,h.get? a=some o
 | .xd fs=>∃mA,h.Ns1 a mA/\∀f,RelO (fs.lookup f) (mA f)
 | .rng lo hi=>∃t u v,h.get? a=some { cls:=.type "range",data:=.fields #[.int lo t,.int hi u,.int 1 v] }
 | .frz o u=>h.get? a=some o/\ObjOk H h a u
 | .tbl ps=>h.get? a=some { cls:=.none,data:=.fields ps }
 | .met f x=>h.get? a=some (PySem.W.methodObj (.ref f) (.ref x))
 | .ext φ=>φ h/\(∃o,h.get? a=some o)/\∀h1 h2:Heap,φ h1->(∀o,h1.get? a=some o->h2.get? a=some o)->φ h2
def HOk (H:Hp) (h:Heap):Prop:=∀a o,H a=some o->ObjOk P w H h a o
end
section
variable {P:Program} {w:World} {H H':Hp} {h h':Heap} {a:Addr} {o:HO}
theorem ObjOk.lt (x:ObjOk P w H h a o):a < h.objs.size:=by
 cases o with
 | lst xs=>obtain ⟨_,_,_,_,e⟩:=x;exact Heap.lt_size e
 | tup xs=>obtain ⟨_,_,_,p⟩:=x;exact p.lt
 | dK kvs=>obtain ⟨_,_,_,_,o,_,_,e,_⟩:=x;exact Heap.lt_size e
 | dT kvs=>obtain ⟨_,_,_,_,o,_,_,e,_⟩:=x;exact Heap.lt_size e
 | set S n=>obtain ⟨o,_,_,_,e,_⟩:=x;exact Heap.lt_size e
 | ins C dx fs=>obtain ⟨_,_,_,e,_⟩:=x;exact Heap.lt_size e
 | own y=>obtain ⟨_,e⟩:=x;exact Heap.lt_size e
 | xd fs=>obtain ⟨_,⟨_,_,_,e,_⟩,_⟩:=x;exact Heap.lt_size e
 | rng lo hi=>obtain ⟨_,_,_,e⟩:=x;exact Heap.lt_size e
 | frz ob u=>obtain ⟨e,_⟩:=x;exact Heap.lt_size e
 | tbl ps=>exact Heap.lt_size (show h.get? a=some _ from x)
 | met f y=>exact Heap.lt_size (show h.get? a=some _ from x)
 | ext φ=>obtain ⟨_,⟨_,e⟩,_⟩:=x;exact Heap.lt_size e
theorem Paired.mapP {α β:Type} {F G:α->β->Prop}:∀{l₁:List α} {l₂:List β},Paired F l₁ l₂->(∀a b,F a b->G a b)->Paired G l₁ l₂
 | _,_,.nil,_=>.nil
 | _,_,.cons r t,f=>.cons (f _ _ r) (Paired.mapP t f)
theorem ObjOk.stay (x:ObjOk P w H h a o) (k:∀b u,(b=a\/H b=some (.own a))->h.get? b=some u->h'.get? b=some u)
  (ho:∀b,H b=some (.own a)->H' b=some (.own a)) (ht:∀b xs,H b=some (.tup xs)->H' b=some (.tup xs)):ObjOk P w H' h' a o:=by
 induction o with
 | lst xs=>obtain ⟨z,its,n,r,e⟩:=x;exact ⟨z,its,n,r,k _ _ (.inl rfl) e⟩
 | tup xs=>obtain ⟨z,its,r,ob,e,c⟩:=x;exact ⟨z,its,r,ob,k _ _ (.inl rfl) e,c⟩
 | dK kvs=>obtain ⟨z,y,vs,r,ob,es,ep,e,c⟩:=x;exact ⟨z,y,vs,r,ob,es,ep,k _ _ (.inl rfl) e,c⟩
 | dT kvs=>
  obtain ⟨z,y,xs,r,ob,es,ep,e,c⟩:=x
  exact ⟨z,y,xs,Paired.mapP r fun p q z=>⟨z.1,ht _ _ z.2.1,z.2.2⟩,ob,es,ep,k _ _ (.inl rfl) e,c⟩
 | set S n=>obtain ⟨ob,es,ep,t,e,c⟩:=x;exact ⟨ob,es,ep,t,k _ _ (.inl rfl) e,c⟩
 | ins C dx fs=>
  obtain ⟨d,z,ne,e,mA,⟨od,es,ep,e2,c⟩,r⟩:=x
  exact ⟨ho _ d,z,ne,k _ _ (.inl rfl) e,mA,⟨od,es,ep,k _ _ (.inr d) e2,c⟩,r⟩
 | own y=>obtain ⟨ob,e⟩:=x;exact ⟨ob,k _ _ (.inl rfl) e⟩
 | xd fs=>obtain ⟨mA,⟨od,es,ep,e,c⟩,r⟩:=x;exact ⟨mA,⟨od,es,ep,k _ _ (.inl rfl) e,c⟩,r⟩
 | rng lo hi=>obtain ⟨t,u,v,e⟩:=x;exact ⟨t,u,v,k _ _ (.inl rfl) e⟩
 | frz ob u ih=>obtain ⟨e,q⟩:=x;exact ⟨k _ _ (.inl rfl) e,ih q⟩
 | tbl ps=>
  have e:h.get? a=some { cls:=.none,data:=.fields ps }:=x
  show h'.get? a=some { cls:=.none,data:=.fields ps }
  exact k a _ (.inl rfl) e
 | met f y=>
  have e:h.get? a=some (PySem.W.methodObj (.ref f) (.ref y)):=x
  show h'.get? a=some (PySem.W.methodObj (.ref f) (.ref y))
  exact k a _ (.inl rfl) e
 | ext φ=>obtain ⟨p,⟨o,e⟩,st⟩:=x;exact ⟨st _ _ p fun o q=>k _ _ (.inl rfl) q,⟨o,k _ _ (.inl rfl) e⟩,st⟩
theorem HOk.lt (x:HOk P w H h) (e:H a=some o):a < h.objs.size:=(x a o e).lt
theorem HOk.fresh (x:HOk P w H h) (e:h.objs.size<=a):H a=none:=by
 cases q:H a with
 | none=>rfl
 | some u=>exact absurd (Nat.lt_of_lt_of_le (x.lt q) e) (Nat.lt_irrefl _)
theorem HOk.kept (x:HOk P w H h) (k:∀b u,h.get? b=some u->h'.get? b=some u):HOk P w H h':=fun a o e=>
 (x a o e).stay (fun b u _ q=>k b u q) (fun _ q=>q) fun _ _ q=>q
theorem HOk.laid (x:HOk P w H h) (k:∀b u,h.get? b=some u->h'.get? b=some u) (hp:h.objs.size<=a) (new:ObjOk P w (upd H a o) h' a o):HOk P w (upd H a o) h':=fun b u e=>by
 have hn:=x.fresh hp
 by_cases hb:b=a
 ·subst hb;rw [upd_same] at e;cases e;exact new
 ·rw [upd_ne hb] at e
  exact (x b u e).stay (fun c v _ q=>k c v q) (fun c q=>by rw [upd_ne (ne_of_none q hn)];exact q) fun c xs q=>by rw [upd_ne (ne_of_none q hn)];exact q
end
def Rd (H:Hp) (a:Addr) (u:HO):Prop:=H a=some u\/∃o,H a=some (.frz o u)
theorem Rd.ok {P:Program} {w:World} {H:Hp} {h:Heap} {a:Addr} {u:HO} (r:Rd H a u) (x:HOk P w H h):ObjOk P w H h a u:=by
 rcases r with r | ⟨o,r⟩
 ·exact x a u r
 ·obtain ⟨_,q⟩:=x a _ r
  exact q
def Mut:Option HO->Prop
 | some (.lst _)=>True
 | some (.dK _)=>True
 | some (.dT _)=>True
 | some (.set _ _)=>True
 | some (.ins _ _ _)=>True
 | some (.ext _)=>True
 | _=>False
section
variable {P:Program} {w:World} {H:Hp} {h h':Heap} {x e:Addr} {o':HO}
theorem HOk.write (ok:HOk P w H h) (mu:Mut (H x)) (he:e=x\/H e=some (.own x)) (k:∀b u,b≠e->h.get? b=some u->h'.get? b=some u) (heo:∃u,h'.get? e=some u)
  (new:ObjOk P w (upd H x o') h' x o'):HOk P w (upd H x o') h':=fun b u q=>by
 have nown:∀c y,H c=some (.own y)->c≠x:=fun c y r z=>by subst z;rw [r] at mu;exact mu
 have ntup:∀c xs,H c=some (.tup xs)->c≠x:=fun c xs r z=>by subst z;rw [r] at mu;exact mu
 by_cases hb:b=x
 ·subst hb;rw [upd_same] at q;cases q;exact new
 ·rw [upd_ne hb] at q
  by_cases hbe:b=e
  ·have q':H b=some (.own x):=by
    rcases he with z | z
    ·exact absurd (hbe.trans z) hb
    ·rw [hbe];exact z
   rw [q] at q';cases q'
   obtain ⟨v,hv⟩:=heo
   exact ⟨v,by rw [hbe];exact hv⟩
  ·refine (ok b u q).stay (fun c v hc r=>k c v ?_ r) (fun c r=>by rw [upd_ne (nown c b r)];exact r) fun c xs r=>by rw [upd_ne (ntup c xs r)];exact r
   rcases hc with rfl | hc
   ·exact hbe
   ·rintro rfl
    rcases he with z | z
    ·exact nown c b hc z
    ·rw [hc] at z;cases z;exact hb rfl
end
structure Un (fs ex:List Addr) (H H':Hp) (h h':Heap):Prop where
 keep:∀b o,h.get? b=some o->H b=none->b∉fs->b∉ex->h'.get? b=some o
 slot:∀b o,h.get? b=some o->H b=none->b∈fs->b∉ex->∃sl,h'.get? b=some { o with slots:=sl }
 free:∀b o,h.get? b=some o->H b=none->b∉ex->H' b=none
 there:∀b o,h.get? b=some o->b∉ex->∃o',h'.get? b=some o'
 tups:∀b xs,H b=some (.tup xs)->H' b=some (.tup xs)
 frzs:∀b o u,H b=some (.frz o u)->H' b=some (.frz o u)
 tbls:∀b ps,H b=some (.tbl ps)->∃more,H' b=some (.tbl (ps++more))
section
variable {fs fs' ex ex':List Addr} {H H1 H2:Hp} {h h1 h2 h':Heap} {a x e:Addr} {o:HO}
theorem Un.any (u:Un fs ex H H1 h h1) {b:Addr} {ob:Obj} (q:h.get? b=some ob) (n:H b=none) (hx:b∉ex):∃sl,h1.get? b=some { ob with slots:=sl }:=by
 by_cases hb:b∈fs
 ·exact u.slot b ob q n hb hx
 ·exact ⟨ob.slots,u.keep b ob q n hb hx⟩
theorem Un.kept (k:∀b u,h.get? b=some u->h'.get? b=some u):Un fs ex H H h h':=
 ⟨fun b ob q _ _ _=>k b ob q,fun b ob q _ _ _=>⟨ob.slots,k b ob q⟩,fun _ _ _ n _=>n,fun b ob q _=>⟨ob,k b ob q⟩,fun _ _ q=>q,fun _ _ _ q=>q,fun _ ps q=>⟨#[],by rw [q];simp⟩⟩
theorem Un.refl:Un fs ex H H h h:=Un.kept fun _ _ q=>q
theorem Un.laid (k:∀b u,h.get? b=some u->h'.get? b=some u) (hp:h.objs.size<=a) (hn:H a=none):Un fs ex H (upd H a o) h h' where
 keep:=fun b u q _ _ _=>k b u q
 slot:=fun b u q _ _ _=>⟨u.slots,k b u q⟩
 free:=fun b u q n _=>by rw [upd_ne (Nat.ne_of_lt (Nat.lt_of_lt_of_le (Heap.lt_size q) hp))];exact n
 there:=fun b u q _=>⟨u,k b u q⟩
 tups:=fun b xs q=>by rw [upd_ne (ne_of_none q hn)];exact q
 frzs:=fun b u xs q=>by rw [upd_ne (ne_of_none q hn)];exact q
 tbls:=fun b ps q=>⟨#[],by rw [upd_ne (ne_of_none q hn),q];simp⟩
theorem Un.write (mu:Mut (H x)) (he:e=x\/H e=some (.own x)) (k:∀b u,b≠e->h.get? b=some u->h'.get? b=some u) (heo:∃u,h'.get? e=some u):Un fs ex H (upd H x o) h h':=by
 have hx:∀b,H b=none->b≠x:=fun b n z=>by subst z;rw [n] at mu;exact mu
 have hb:∀b,H b=none->b≠e:=fun b n z=>by
  subst z
  rcases he with r | r
  ·exact hx b n r
  ·rw [n] at r;cases r
 have hm:∀b u,H b=some u->¬Mut (some u)->b≠x:=fun b u q nm z=>by subst z;rw [q] at mu;exact nm mu
 refine ⟨fun b u q n _ _=>k b u (hb b n) q,fun b u q n _ _=>⟨u.slots,k b u (hb b n) q⟩,fun b u q n _=>by rw [upd_ne (hx b n)];exact n,fun b u q _=>?_,
  fun b xs q=>by rw [upd_ne (hm b _ q fun z=>z)];exact q,fun b u xs q=>by rw [upd_ne (hm b _ q fun z=>z)];exact q,fun b ps q=>⟨#[],by rw [upd_ne (hm b _ q fun z=>z),q];simp⟩⟩
 by_cases hbe:b=e
 ·subst hbe;exact heo
 ·exact ⟨u,k b u hbe q⟩
end
def trk (h:Heap) (H:Hp):List Addr:=(List.range h.objs.size).filter fun a=>(H a).isSome
def hidT (h:Heap) (H:Hp):Heap:=PySem.W.hideAll h (trk h H)
theorem hidT_size (h:Heap) (H:Hp):(hidT h H).objs.size=h.objs.size:=PySem.W.hideAll_size _ _
theorem hidT_get {h:Heap} {H:Hp} {b:Addr} {o:Obj} (e:h.get? b=some o) (n:H b=none):(hidT h H).get? b=some o:=
 PySem.W.hideAll_get _ e fun hm=>by
  have q:(H b).isSome=true:=(List.mem_filter.mp hm).2
  rw [n] at q;simp at q
theorem of_hidT {h:Heap} {H:Hp} {b:Addr} {o:Obj} (e:(hidT h H).get? b=some o):h.get? b=some o/\H b=none:=by
 have e':h.get? b=some o:=PySem.W.of_hideAll (trk h H) e
 refine ⟨e',?_⟩
 cases q:H b with
 | none=>rfl
 | some x=>
  have hm:b∈trk h H:=List.mem_filter.mpr ⟨List.mem_range.mpr (Heap.lt_size e'),by simp [q]⟩
  have z:(hidT h H).get? b=none:=PySem.W.hideAll_none (trk h H) hm
  rw [z] at e;cases e
def allNews (g h:Heap) (L:Addr):List (Addr×Obj):=(List.range h.objs.size).filterMap fun a=>if a=L\/(g.get? a).isSome=true then none else (h.get? a).map fun o=>(a,o)
def rest (g h:Heap) (L d:Addr):List (Addr×Obj):=(allNews g h L).filter fun p=>decide (p.1≠d)
end L2
namespace L2
open PySem PySem.Spec PyProof.Rows
structure Mod (K:PySem.W.Frag) (mg:Str->Option Value) (base:Heap):Prop where
 kin:K.In base
 glob:base.Ns mainGlobals mg
 blt:∃mb,base.Ns builtinsNs mb/\∀x:Str,x≠"__name__"->mb x=bootBuiltins x
 nolimit:base.NoLimit
structure Cx where
 prog:Program
 w:World
 K:PySem.W.Frag
 mg:Str->Option Value
 base:Heap
 A:Around
 N:List Str
 s₀:Shared
 H₀:Hp
 env:Env
 outer:List Env
 stack:List Env
 ex:List Addr
 fn:Str->Bool
 calm:Bool
 pn:List (Addr×Obj)
 xe:Value->Shared->Prop
def frs (l:List Env):List Addr:=l.filterMap (·.frame)
abbrev Cx.fs (X:Cx):List Addr:=frs X.outer
def Vis (sc:Scope) (x:Str):Prop:=sc.names.lookup x=some .local\/sc.names.lookup x=some .cell\/sc.names.lookup x=some .free
def Loc (sc:Scope) (x:Str):Prop:=sc.names.lookup x=some .local\/sc.names.lookup x=some .cell
def Look (env:Env) (h:Heap) (m:Str->Option Value) (x:Str) (u:Value):Prop:=
 (env.kindOf x=some .local/\m x=some u)\/((env.kindOf x=some .cell\/env.kindOf x=some .free)/\∃c,env.cells.lookup x=some c/\h.IsCell c (some u))
structure Cx.Ok (X:Cx):Prop where
 mod:Mod X.K X.mg X.base
 kind:X.env.scope.kind=.function
 glob:X.env.globals=mainGlobals
 blt:X.env.builtins=builtinsNs
 above:X.s₀.heap.objs.size<=X.env.locals
 inj:∀x y c,X.env.cells.lookup x=some c->X.env.cells.lookup y=some c->x=y
 has:∀x,(X.env.kindOf x=some .cell\/X.env.kindOf x=some .free)->∃c,X.env.cells.lookup x=some c
 cab:∀x c,X.fn x=true->X.env.cells.lookup x=some c->X.s₀.heap.objs.size<=c
 hd:X.calm=true->X.A.handled=none
 frames:X.A.frames=some X.stack
 stk:X.stack=X.outer\/(X.stack=X.env::X.outer/\X.env.frame=some X.env.locals)
 exf:∀b∈X.ex,b≠X.env.locals/\∀x c,X.env.cells.lookup x=some c->c≠b
 bs:∀b o,X.base.get? b=some o->X.s₀.heap.get? b=some o/\X.H₀ b=none
 bsz:X.base.objs.size<=X.s₀.heap.objs.size
 noex:∀b o,X.base.get? b=some o->b∉X.ex
 exfs:∀b∈X.ex,b∉X.fs
 funs:X.s₀.heap.FunFrames X.base X.outer
 frf:∀b∈X.fs,X.H₀ b=none
structure Inv (X:Cx) (pins:List (Addr×Obj)) (σ:List (Option V)) (H:Hp) (s:Shared):Prop where
 ok:X.Ok
 os:s.os=X.s₀.os
 bare:AllBare s.gens
 base:Un X.fs X.ex X.H₀ H X.s₀.heap s.heap
 loc:∃m,s.heap.Ns X.env.locals m/\∀(i:Nat) (x:Str) (v:V),X.N[i]? = some x->σ[i]? = some (some v)->Vis X.env.scope x->∃u,RelV v u/\Look X.env s.heap m x u
 cell:∀x c,X.env.cells.lookup x=some c->∃v,s.heap.IsCell c v
 free:H X.env.locals=none
 freeC:∀x c,X.env.cells.lookup x=some c->H c=none
 pin:∀p∈X.pn++pins,s.heap.get? p.1=some p.2/\H p.1=none/\p.1≠X.env.locals/\p.1∉X.fs/\∀v,p.2.data≠.cell v
 hok:HOk X.prog X.w H s.heap
 len:σ.length=X.N.length
section
variable {X:Cx} {pins:List (Addr×Obj)} {σ:List (Option V)} {H H':Hp} {s:Shared} {h':Heap}
theorem Cx.Ok.nofr (ok:X.Ok) {b:Addr} {o:Obj} (e:X.base.get? b=some o):b∉X.fs:=fun hb=>by
 have:=(ok.funs.mem hb).1
 rw [e] at this;cases this
theorem Inv.bs (I:Inv X pins σ H s):∀b o,X.base.get? b=some o->s.heap.get? b=some o/\H b=none:=fun b o e=>
 ⟨I.base.keep b o (I.ok.bs b o e).1 (I.ok.bs b o e).2 (I.ok.nofr e) (I.ok.noex b o e),I.base.free b o (I.ok.bs b o e).1 (I.ok.bs b o e).2 (I.ok.noex b o e)⟩
theorem Inv.bk (I:Inv X pins σ H s):∀b o,X.base.get? b=some o->s.heap.get? b=some o:=fun b o e=>(I.bs b o e).1
theorem Inv.mod (I:Inv X pins σ H s):Mod X.K X.mg X.base:=I.ok.mod
theorem Inv.kIn (I:Inv X pins σ H s):X.K.In s.heap:=I.ok.mod.kin.keeps I.bk
theorem Inv.lt (I:Inv X pins σ H s):X.env.locals < s.heap.objs.size:=let ⟨_,hn,_⟩:=I.loc;hn.lt
theorem Inv.sz (I:Inv X pins σ H s):X.s₀.heap.objs.size<=s.heap.objs.size:=Nat.le_trans I.ok.above (Nat.le_of_lt I.lt)
theorem Inv.nofs (I:Inv X pins σ H s) {a:Addr} (h:s.heap.objs.size<=a):a∉X.fs:=fun hb=>by
 obtain ⟨_,o,ho,_⟩:=I.ok.funs.mem hb
 exact absurd (Nat.lt_of_lt_of_le (Heap.lt_size ho) (Nat.le_trans I.sz h)) (Nat.lt_irrefl _)
theorem Inv.cne (I:Inv X pins σ H s):∀x c,X.env.cells.lookup x=some c->c≠X.env.locals:=fun x c e z=>by
 obtain ⟨v,o,ho,hd⟩:=I.cell x c e
 obtain ⟨m,⟨o',es,ep,ho',hd',_⟩,_⟩:=I.loc
 rw [z,ho'] at ho;cases ho;rw [hd'] at hd;cases hd
theorem Inv.funs (I:Inv X pins σ H s):s.heap.FunFrames X.base X.outer:=by
 have all:∀(l:List Env),(∀b∈frs l,b∈X.fs)->X.s₀.heap.FunFrames X.base l->s.heap.FunFrames X.base l:=by
  intro l
  induction l with
  | nil=>intro _ _;trivial
  | cons env r ih=>
   intro hs hl
   obtain ⟨hk,⟨L,o,hf,hn,ho,hd⟩,hr⟩:=hl
   have hL:L∈X.fs:=hs L (by unfold frs;rw [List.filterMap_cons,hf];exact List.mem_cons_self)
   obtain ⟨sl,e⟩:=I.base.slot L o ho (I.ok.frf L hL) hL fun z=>I.ok.exfs L z hL
   exact ⟨hk,⟨L,_,hf,hn,e,hd⟩,ih (fun b hb=>hs b (by unfold frs;rw [List.filterMap_cons,hf];exact List.mem_cons_of_mem _ hb)) hr⟩
 exact all X.outer (fun _ hb=>hb) I.ok.funs
theorem Inv.stack (I:Inv X pins σ H s):s.heap.FunFrames X.base X.stack:=by
 rcases I.ok.stk with e | ⟨e,hf⟩
 ·rw [e];exact I.funs
 ·rw [e]
  obtain ⟨m,hn,_⟩:=I.loc
  refine .cons (by rw [I.ok.kind];decide) hf hn ?_ I.funs
  exact Heap.get?_none_of_le (Nat.le_trans I.ok.bsz I.ok.above)
theorem Inv.stkSub (I:Inv X pins σ H s):∀b∈frs X.stack,b∈X.env.locals::X.fs:=fun b hb=>by
 rcases I.ok.stk with e | ⟨e,hf⟩
 ·rw [e] at hb;exact List.mem_cons_of_mem _ hb
 ·rw [e] at hb
  unfold frs at hb
  rw [List.filterMap_cons,hf] at hb
  exact hb
theorem Inv.stkFree (I:Inv X pins σ H s):∀b∈frs X.stack,H b=none:=fun b hb=>by
 rcases List.mem_cons.mp (I.stkSub b hb) with e | hb
 ·rw [e];exact I.free
 ·obtain ⟨_,o,ho,_⟩:=I.ok.funs.mem hb
  exact I.base.free b o ho (I.ok.frf b hb) fun z=>I.ok.exfs b z hb
theorem Inv.step {g':Array GenState} {t':Nat} {d':Drawn} {ch:List Addr} (I:Inv X pins σ H s)
  (hch:∀b∈ch,(b∈X.ex\/X.s₀.heap.objs.size<=b)/\b≠X.env.locals/\(∀x c,X.env.cells.lookup x=some c->c≠b)/\∀p∈X.pn++pins,p.1≠b)
  (keep:∀b o,b≠X.env.locals->b∉X.fs->b∉ch->s.heap.get? b=some o->H b=none->h'.get? b=some o)
  (slot:∀b o,b≠X.env.locals->b∈X.fs->b∉ch->s.heap.get? b=some o->H b=none->∃sl,h'.get? b=some { o with slots:=sl }) (free:∀b o,b∉ch->s.heap.get? b=some o->H b=none->H' b=none)
  (there:∀b o,b∉ch->s.heap.get? b=some o->∃o',h'.get? b=some o')
  (tups:∀b xs,H b=some (.tup xs)->H' b=some (.tup xs)) (frzs:∀b o u,H b=some (.frz o u)->H' b=some (.frz o u)) (tbls:∀b ps,H b=some (.tbl ps)->∃more,H' b=some (.tbl (ps++more)))
  (ns:∀m,s.heap.Ns X.env.locals m->h'.Ns X.env.locals m) (hok:HOk X.prog X.w H' h') (hg:AllBare g') :
  Inv X pins σ H' { s with heap:=h',gens:=g',drawn:=d',toks:=t' }:=by
 have neL:∀b o,X.s₀.heap.get? b=some o->b≠X.env.locals:=fun b o e=>Nat.ne_of_lt (Nat.lt_of_lt_of_le (Heap.lt_size e) I.ok.above)
 have neC:∀b o,X.s₀.heap.get? b=some o->b∉X.ex->b∉ch:=fun b o e hx hb=>by
  rcases (hch b hb).1 with z | z
  ·exact hx z
  ·exact absurd (Nat.lt_of_lt_of_le (Heap.lt_size e) z) (Nat.lt_irrefl _)
 have cellK:∀x c,X.env.cells.lookup x=some c->∀v,s.heap.IsCell c v->h'.IsCell c v:=fun x c e v ⟨o,ho,hd⟩=>by
  have nch:c∉ch:=fun z=>(hch c z).2.2.1 x c e rfl
  by_cases hc:c∈X.fs
  ·obtain ⟨sl,q⟩:=slot c o (I.cne x c e) hc nch ho (I.freeC x c e)
   exact ⟨_,q,hd⟩
  ·exact ⟨o,keep c o (I.cne x c e) hc nch ho (I.freeC x c e),hd⟩
 refine ⟨I.ok,I.os,hg,⟨fun b o e n hb hx=>?_,fun b o e n hb hx=>?_,fun b o e n hx=>?_,fun b o e hx=>?_,fun b xs e=>tups b xs (I.base.tups b xs e),fun b o xs e=>frzs b o xs (I.base.frzs b o xs e),fun b ps e=>?_⟩,?_,fun x c e=>?_,?_,fun x c e=>?_,fun p hp=>?_,hok,I.len⟩
 ·exact keep b o (neL b o e) hb (neC b o e hx) (I.base.keep b o e n hb hx) (I.base.free b o e n hx)
 ·obtain ⟨sl,e1⟩:=I.base.slot b o e n hb hx
  obtain ⟨sl',e2⟩:=slot b _ (neL b o e) hb (neC b o e hx) e1 (I.base.free b o e n hx)
  exact ⟨sl',e2⟩
 ·obtain ⟨o',e1⟩:=I.base.there b o e hx
  exact free b o' (neC b o e hx) e1 (I.base.free b o e n hx)
 ·obtain ⟨o',e1⟩:=I.base.there b o e hx
  exact there b o' (neC b o e hx) e1
 ·obtain ⟨m1,e1⟩:=I.base.tbls b ps e
  obtain ⟨m2,e2⟩:=tbls b _ e1
  exact ⟨m1++m2,by rw [e2,Array.append_assoc]⟩
 ·obtain ⟨m,hn,hl⟩:=I.loc
  refine ⟨m,ns m hn,fun i x v e1 e2 e3=>?_⟩
  obtain ⟨u,r,l⟩:=hl i x v e1 e2 e3
  refine ⟨u,r,?_⟩
  rcases l with l | ⟨k,c,e,z⟩
  ·exact .inl l
  ·exact .inr ⟨k,c,e,cellK x c e _ z⟩
 ·obtain ⟨v,z⟩:=I.cell x c e
  exact ⟨v,cellK x c e v z⟩
 ·obtain ⟨m,⟨o,_,_,ho,_⟩,_⟩:=I.loc
  exact free _ o (fun z=>(hch _ z).2.1 rfl) ho I.free
 ·obtain ⟨v,o,ho,hd⟩:=I.cell x c e
  exact free c o (fun z=>(hch c z).2.2.1 x c e rfl) ho (I.freeC x c e)
 ·obtain ⟨e,n,ne,nf,d⟩:=I.pin p hp
  have nch:p.1∉ch:=fun z=>(hch p.1 z).2.2.2 p hp rfl
  exact ⟨keep p.1 p.2 ne nf nch e n,free p.1 p.2 nch e n,ne,nf,d⟩
theorem Inv.un {t':Nat} (I:Inv X pins σ H s) (u:Un X.fs [] H H' s.heap h') (hok:HOk X.prog X.w H' h'):Inv X pins σ H' { s with heap:=h',toks:=t' }:=by
 obtain ⟨m,⟨o,es,ep,ho,r⟩,_⟩:=id I.loc
 obtain ⟨sl,hL⟩:=u.any ho I.free (by simp)
 exact I.step (g':=s.gens) (d':=s.drawn) (ch:=[]) (fun _ z=>nomatch z) (fun b o _ hb _ e n=>u.keep b o e n hb (by simp)) (fun b o _ hb _ e n=>u.slot b o e n hb (by simp)) (fun b o _ e n=>u.free b o e n (by simp)) (fun b o _ e=>u.there b o e (by simp)) u.tups u.frzs u.tbls (fun m' hm=>by
  obtain ⟨o',es',ep',ho',r'⟩:=hm
  rw [ho] at ho';cases ho'
  exact ⟨_,es',ep',hL,r'⟩) hok I.bare
theorem Inv.call {g':Array GenState} {t':Nat} {d':Drawn} {ch:List Addr} (I:Inv X pins σ H s) (u:Un (frs X.stack) ch H H' s.heap h') (hok:HOk X.prog X.w H' h') (hg:AllBare g')
  (hch:∀b∈ch,(b∈X.ex\/X.s₀.heap.objs.size<=b)/\b≠X.env.locals/\(∀x c,X.env.cells.lookup x=some c->c≠b)/\∀p∈X.pn++pins,p.1≠b) :
  Inv X pins σ H' { s with heap:=h',gens:=g',drawn:=d',toks:=t' }:=by
 obtain ⟨m,⟨o,es,ep,ho,r⟩,_⟩:=id I.loc
 obtain ⟨sl,hL⟩:=u.any ho I.free fun z=>(hch _ z).2.1 rfl
 exact I.step (ch:=ch) hch (fun b o hL hb hc e n=>u.keep b o e n (fun z=>(List.mem_cons.mp (I.stkSub b z)).elim hL hb) hc) (fun b o _ _ hc e n=>u.any e n hc) (fun b o hc e n=>u.free b o e n hc) (fun b o hc e=>u.there b o e hc) u.tups u.frzs u.tbls (fun m' hm=>by
  obtain ⟨o',es',ep',ho',r'⟩:=hm
  rw [ho] at ho';cases ho'
  exact ⟨_,es',ep',hL,r'⟩) hok hg
theorem Inv.turned {t':Nat} {it:Addr} (I:Inv X pins σ H s) (k:∀b o,b≠it->s.heap.get? b=some o->h'.get? b=some o) (hn:H it=none) (hL:it≠X.env.locals)
  (h1:it∈X.ex\/X.s₀.heap.objs.size<=it) (h2:∀x c,X.env.cells.lookup x=some c->c≠it) (h3:∀p∈X.pn++pins,p.1≠it):Inv X pins σ H { s with heap:=h',toks:=t' }:=by
 have nit:∀b u,H b=some u->b≠it:=fun b u e z=>by rw [z,hn] at e;cases e
 refine I.step (g':=s.gens) (d':=s.drawn) (ch:=[it]) (fun b hb=>?_) (fun b o _ _ hc e _=>k b o (fun z=>hc (by simp [z])) e) (fun b o _ _ hc e _=>⟨o.slots,k b o (fun z=>hc (by simp [z])) e⟩) (fun _ _ _ _ n=>n)
  (fun b o hc e=>⟨o,k b o (fun z=>hc (by simp [z])) e⟩) (fun _ _ e=>e) (fun _ _ _ e=>e) (fun b ps e=>⟨#[],by rw [e];simp⟩) (fun m hm=>?_) (fun b u e=>?_) I.bare
 ·have e:b=it:=by simpa using hb
  subst e
  exact ⟨h1,hL,h2,h3⟩
 ·obtain ⟨o,es,ep,ho,r⟩:=hm
  exact ⟨o,es,ep,k _ o (Ne.symm hL) ho,r⟩
 ·refine (I.hok b u e).stay (fun c v hc q=>k c v ?_ q) (fun _ q=>q) fun _ _ q=>q
  rcases hc with z | z
  ·rw [z];exact nit b u e
  ·exact nit c _ z
theorem Inv.tok (I:Inv X pins σ H s) (t:Nat):Inv X pins σ H { s with toks:=t }:=I.un (h':=s.heap) (t':=t) Un.refl I.hok
theorem Inv.kept {t':Nat} (I:Inv X pins σ H s) (k:∀b u,s.heap.get? b=some u->h'.get? b=some u):Inv X pins σ H { s with heap:=h',toks:=t' }:=I.un (Un.kept k) (I.hok.kept k)
theorem Inv.laid {a:Addr} {o:HO} {t':Nat} (I:Inv X pins σ H s) (k:∀b u,s.heap.get? b=some u->h'.get? b=some u) (hp:s.heap.objs.size<=a) (new:ObjOk X.prog X.w (upd H a o) h' a o) :
  Inv X pins σ (upd H a o) { s with heap:=h',toks:=t' }:=I.un (Un.laid k hp (I.hok.fresh hp)) (I.hok.laid k hp new)
theorem Inv.write {x e:Addr} {o:HO} {t':Nat} (I:Inv X pins σ H s) (mu:Mut (H x)) (he:e=x\/H e=some (.own x)) (k:∀b u,b≠e->s.heap.get? b=some u->h'.get? b=some u) (heo:∃u,h'.get? e=some u)
  (new:ObjOk X.prog X.w (upd H x o) h' x o):Inv X pins σ (upd H x o) { s with heap:=h',toks:=t' }:=I.un (Un.write mu he k heo) (I.hok.write mu he k heo new)
theorem Inv.pins_of {pins':List (Addr×Obj)} (I:Inv X pins σ H s) (h:∀p∈pins',s.heap.get? p.1=some p.2/\H p.1=none/\p.1≠X.env.locals/\p.1∉X.fs/\∀v,p.2.data≠.cell v):Inv X pins' σ H s:=
 ⟨I.ok,I.os,I.bare,I.base,I.loc,I.cell,I.free,I.freeC,fun p hp=>(List.mem_append.mp hp).elim (fun z=>I.pin p (List.mem_append_left _ z)) (h p),I.hok,I.len⟩
theorem nodup_ix {N:List Str} (hN:N.Nodup) {i j:Nat} {x:Str} (a:N[i]? = some x) (b:N[j]? = some x):i=j:=by
 obtain ⟨h1,e1⟩:=List.getElem?_eq_some_iff.mp a
 obtain ⟨h2,e2⟩:=List.getElem?_eq_some_iff.mp b
 exact (List.getElem_inj hN).mp (e1.trans e2.symm)
theorem store_ok2 {M:Model} {A:Around} {E:Value->Shared->Prop} {i:Nat} {x:Str} {v:V} {u:Value} {Q:Unit->Shared->Prop} (I:Inv X pins σ H s) (hN:X.N.Nodup) (hi:X.N[i]? = some x) (hx:Loc X.env.scope x) (r:RelV v u)
  (h:∀s',Inv X pins (σ.set i (some v)) H s'->(∃a,Heap.SameBut a s.heap s'.heap/\(a=X.env.locals\/X.env.cells.lookup x=some a))->Q () s') (hf:X.fn x=true\/X.env.scope.names.lookup x=some .local:=by first | exact .inl rfl | exact .inr rfl | assumption):wpAny M A (storeName X.env x u) Q E s:=by
 obtain ⟨m,hn,hl⟩:=id I.loc
 have hcls:(X.env.scope.kind == .class || (X.env.scope.kind == .module && X.env.locals != X.env.globals))=false:=by rw [I.ok.kind];rfl
 have hiσ:i < σ.length:=by rw [I.len];exact (List.getElem?_eq_some_iff.mp hi).1
 have cne:=I.cne
 have tracked:∀{a:Addr} {h':Heap},(∃o,s.heap.get? a=some o/\H a=none)->Heap.SameBut a s.heap h'->HOk X.prog X.w H h':=fun {a h'} ha hs b ob e=>by
  obtain ⟨_,_,hfree⟩:=ha
  refine (I.hok b ob e).stay (fun c w' hc q=>(hs.2 c ?_).trans q) (fun _ q=>q) fun _ _ q=>q
  rintro rfl
  rcases hc with rfl | hc
  ·rw [hfree] at e;cases e
  ·rw [hfree] at hc;cases hc
 rcases hx with hk | hk
 ·refine wpAny_storeName_local hk hn (fun h' hn' hs=>?_) hcls
  obtain ⟨oL,_,_,hoL,_⟩:=id hn
  refine h _ ⟨I.ok,I.os,I.bare,⟨fun b o e n hb hx=>?_,fun b o e n hb hx=>?_,I.base.free,fun b o e hx=>?_,I.base.tups,I.base.frzs,I.base.tbls⟩,⟨_,hn',fun j y v' e1 e2 e3=>?_⟩,fun y c e=>?_,I.free,I.freeC,fun p hp=>?_,tracked ⟨oL,hoL,I.free⟩ hs,by simpa using I.len⟩ ⟨_,hs,.inl rfl⟩
  ·exact (hs.2 b (Nat.ne_of_lt (Nat.lt_of_lt_of_le (Heap.lt_size e) I.ok.above))).trans (I.base.keep b o e n hb hx)
  ·obtain ⟨sl,e1⟩:=I.base.slot b o e n hb hx
   exact ⟨sl,(hs.2 b (Nat.ne_of_lt (Nat.lt_of_lt_of_le (Heap.lt_size e) I.ok.above))).trans e1⟩
  ·obtain ⟨o',e1⟩:=I.base.there b o e hx
   exact ⟨o',(hs.2 b (Nat.ne_of_lt (Nat.lt_of_lt_of_le (Heap.lt_size e) I.ok.above))).trans e1⟩
  ·by_cases hj:j=i
   ·subst hj
    rw [hi] at e1;cases e1
    rw [List.getElem?_set_self hiσ] at e2
    cases e2
    exact ⟨u,r,.inl ⟨hk,by simp⟩⟩
   ·rw [List.getElem?_set_ne (Ne.symm hj)] at e2
    obtain ⟨u',r',q⟩:=hl j y v' e1 e2 e3
    refine ⟨u',r',?_⟩
    rcases q with ⟨k,e⟩ | ⟨k,c,e,z⟩
    ·refine .inl ⟨k,?_⟩
     have:y≠x:=fun e=>hj (nodup_ix hN e1 (e ▸ hi))
     simp [this,e]
    ·exact .inr ⟨k,c,e,z.sameBut hs (cne y c e)⟩
  ·obtain ⟨w',z⟩:=I.cell y c e
   exact ⟨w',z.sameBut hs (cne y c e)⟩
  ·obtain ⟨e,n,ne,nf,d⟩:=I.pin p hp
   exact ⟨(hs.2 p.1 ne).trans e,n,ne,nf,d⟩
 ·have hfn:X.fn x=true:=by
   rcases hf with z | z
   ·exact z
   ·rw [z] at hk;cases hk
  obtain ⟨c,hc⟩:=I.ok.has x (.inl hk)
  obtain ⟨w',z⟩:=I.cell x c hc
  refine wpAny_storeName_cell I.ok.kind hk hc z (fun h' hc' hs=>?_)
  obtain ⟨oc,hoc,hocd⟩:=id z
  refine h { s with heap:=h' } ⟨I.ok,I.os,I.bare,⟨fun b o e n hb hx=>?_,fun b o e n hb hx=>?_,I.base.free,fun b o e hx=>?_,I.base.tups,I.base.frzs,I.base.tbls⟩,⟨m,hn.sameBut hs (Ne.symm (cne x c hc)),fun j y v' e1 e2 e3=>?_⟩,fun y c' e=>?_,I.free,I.freeC,fun p hp=>?_,tracked ⟨oc,hoc,I.freeC x c hc⟩ hs,by simpa using I.len⟩ ⟨c,hs,.inr hc⟩
  ·exact (hs.2 b (Nat.ne_of_lt (Nat.lt_of_lt_of_le (Heap.lt_size e) (I.ok.cab x c hfn hc)))).trans (I.base.keep b o e n hb hx)
  ·obtain ⟨sl,e1⟩:=I.base.slot b o e n hb hx
   exact ⟨sl,(hs.2 b (Nat.ne_of_lt (Nat.lt_of_lt_of_le (Heap.lt_size e) (I.ok.cab x c hfn hc)))).trans e1⟩
  ·obtain ⟨o',e1⟩:=I.base.there b o e hx
   exact ⟨o',(hs.2 b (Nat.ne_of_lt (Nat.lt_of_lt_of_le (Heap.lt_size e) (I.ok.cab x c hfn hc)))).trans e1⟩
  ·by_cases hj:j=i
   ·subst hj
    rw [hi] at e1;cases e1
    rw [List.getElem?_set_self hiσ] at e2
    cases e2
    exact ⟨u,r,.inr ⟨.inl hk,c,hc,hc'⟩⟩
   ·rw [List.getElem?_set_ne (Ne.symm hj)] at e2
    obtain ⟨u',r',q⟩:=hl j y v' e1 e2 e3
    refine ⟨u',r',?_⟩
    rcases q with q | ⟨k,c',e,z'⟩
    ·exact .inl q
    ·refine .inr ⟨k,c',e,z'.sameBut hs ?_⟩
     rintro rfl
     exact hj (nodup_ix hN e1 (I.ok.inj _ _ _ e hc ▸ hi))
  ·by_cases hcc:c'=c
   ·subst hcc;exact ⟨_,hc'⟩
   ·obtain ⟨w2,z2⟩:=I.cell y c' e
    exact ⟨w2,z2.sameBut hs hcc⟩
  ·obtain ⟨e,n,ne,nf,d⟩:=I.pin p hp
   refine ⟨(hs.2 p.1 ?_).trans e,n,ne,nf,d⟩
   intro q
   rw [q,hoc] at e
   have q':oc=p.2:=Option.some.inj e
   exact d w' (by rw [<-q'];exact hocd)
theorem store_ok {M:Model} {A:Around} {E:Value->Shared->Prop} {i:Nat} {x:Str} {v:V} {u:Value} {Q:Unit->Shared->Prop} (I:Inv X pins σ H s) (hN:X.N.Nodup) (hi:X.N[i]? = some x) (hx:Loc X.env.scope x) (r:RelV v u)
  (h:∀s',Inv X pins (σ.set i (some v)) H s'->Q () s') (hf:X.fn x=true\/X.env.scope.names.lookup x=some .local:=by first | exact .inl rfl | exact .inr rfl | assumption):wpAny M A (storeName X.env x u) Q E s:=
 store_ok2 I hN hi hx r (fun s' I' _=>h s' I') hf
end
abbrev XK:=Value->Option Addr->Hp->Prop
abbrev St:=List (Option V)
abbrev VK:=V->Hp->Prop
abbrev TE:=St->Hp->VK->Prop
abbrev TT:=St->Hp->(Bool->Hp->Prop)->Prop
abbrev TA:=St->Hp->(List V->Hp->Prop)->Prop
structure Ends where
 nx:St->Hp->Prop
 rt:VK
 bk:St->Hp->Prop:=fun _ _=>False
 ct:St->Hp->Prop:=fun _ _=>False
abbrev TS:=Ends->St->Hp->Prop
def EP (X:Cx) (pins:List (Addr×Obj)) (σ:St) (Q:VK) (u:Value) (s':Shared):Prop:=∃v H',Inv X pins σ H' s'/\RelV v u/\Q v H'
def TP (X:Cx) (pins:List (Addr×Obj)) (σ:St) (Q:Bool->Hp->Prop) (b:Bool) (s':Shared):Prop:=∃H',Inv X pins σ H' s'/\Q b H'
def AP (X:Cx) (pins:List (Addr×Obj)) (σ:St) (Q:List V->Hp->Prop) (us:List Value) (s':Shared):Prop:=∃vs H',Inv X pins σ H' s'/\Vals vs us/\Q vs H'
def SP (X:Cx) (pins:List (Addr×Obj)) (D:Ends) (f:Flow) (s':Shared):Prop:=
 match f with
 | .next=>∃σ' H',Inv X pins σ' H' s'/\D.nx σ' H'
 | .brk=>∃σ' H',Inv X pins σ' H' s'/\D.bk σ' H'
 | .cont=>∃σ' H',Inv X pins σ' H' s'/\D.ct σ' H'
 | .ret u=>∃v σ' H',Inv X pins σ' H' s'/\RelV v u/\D.rt v H'
def PE (X:Cx) (e:Expr) (t:TE):Prop:=
 ∀(pins:List (Addr×Obj)) (s:Shared) (σ:St) (H:Hp) (Q:VK),Inv X pins σ H s->t σ H Q->wpAny (model X.prog X.w) X.A (eval e X.env) (EP X pins σ Q) X.xe s
def PT (X:Cx) (e:Expr) (t:TT):Prop:=
 ∀(pins:List (Addr×Obj)) (s:Shared) (σ:St) (H:Hp) (Q:Bool->Hp->Prop),Inv X pins σ H s->t σ H Q->wpAny (model X.prog X.w) X.A (isTrue e X.env (eval e X.env)) (TP X pins σ Q) X.xe s
def PW (X:Cx) (e:Expr) (t:TT):Prop:=
 ∀(whole:Sem Value) (pins:List (Addr×Obj)) (s:Shared) (σ:St) (H:Hp) (Q:Bool->Hp->Prop),Inv X pins σ H s->t σ H Q->wpAny (model X.prog X.w) X.A (isTrue e X.env whole) (TP X pins σ Q) X.xe s
theorem PW.pt {X:Cx} {e:Expr} {t:TT} (h:PW X e t):PT X e t:=h _
def PA (X:Cx) (es:List Expr) (t:TA):Prop:=
 ∀(pos:Pos) (pins:List (Addr×Obj)) (s:Shared) (σ:St) (H:Hp) (Q:List V->Hp->Prop),Inv X pins σ H s->t σ H Q->wpAny (model X.prog X.w) X.A (spliced (backTo pos (starEach es X.env))) (AP X pins σ Q) X.xe s
def PS (X:Cx) (st:Stmt) (t:TS):Prop:=
 ∀(pins:List (Addr×Obj)) (s:Shared) (σ:St) (H:Hp) (D:Ends),Inv X pins σ H s->t D σ H->wpAny (model X.prog X.w) X.A (exec st X.env) (SP X pins D) X.xe s
def PSs (X:Cx) (st:List Stmt) (t:TS):Prop:=
 ∀(pins:List (Addr×Obj)) (s:Shared) (σ:St) (H:Hp) (D:Ends),Inv X pins σ H s->t D σ H->wpAny (model X.prog X.w) X.A (execs st X.env) (SP X pins D) X.xe s
theorem thn {α:Type} {t:Sem α} {Q Q':α->Shared->Prop} {M:Model} {A:Around} {E:Value->Shared->Prop} {s:Shared} (h:wpAny M A t Q E s) (hQ:∀a s,Q a s->Q' a s):wpAny M A t Q' E s:=wpAny_mono h hQ fun _ _ x=>x
end L2
namespace L2
open PySem PySem.Spec PyProof.Rows
section
variable {X:Cx}
theorem bin {a b:Expr} {ta tb:TE} (ha:PE X a ta) (hb:PE X b tb) {pins:List (Addr×Obj)} {s:Shared} {σ:St} {H:Hp} {R:V->V->Hp->Prop} (I:Inv X pins σ H s) (h:ta σ H fun x H1=>tb σ H1 fun y H2=>R x y H2)
  {α:Type} {Q:α->Shared->Prop} {f:Value->Value->Sem α}
  (hf:∀v u s2 x y H2,Inv X pins σ H2 s2->RelV x v->RelV y u->R x y H2->wpAny (model X.prog X.w) X.A (f v u) Q X.xe s2) :
  wpAny (model X.prog X.w) X.A (eval a X.env) (fun v s₁=>wpAny (model X.prog X.w) X.A (eval b X.env) (fun u s₂=>wpAny (model X.prog X.w) X.A (f v u) Q X.xe s₂) X.xe s₁) X.xe s:=by
 refine thn (ha pins s σ H _ I h) fun v s1 ⟨x,H1,I1,r1,q1⟩=>?_
 refine thn (hb pins s1 σ H1 _ I1 q1) fun u s2 ⟨y,H2,I2,r2,q2⟩=>?_
 exact hf v u s2 x y H2 I2 r1 r2 q2
def tVar (i:Nat):TE:=fun σ H Q=>∃v,σ[i]? = some (some v)/\Q v H
def tC (v:V):TE:=fun _ H Q=>Q v H
theorem pe_var {i:Nat} {x:Str} {pos:Pos} (hN:X.N[i]? = some x) (hv:Vis X.env.scope x) (hd:(x == ("__debug__" : Str))=false:=by decide) (hcd:(x == ("__classdict__" : Str))=false:=by decide):PE X (.Name x pos) (tVar i):=by
 intro pins s σ H Q I h
 obtain ⟨v,e,h⟩:=h
 obtain ⟨m,hn,hl⟩:=I.loc
 obtain ⟨u,r,l⟩:=hl i x v hN e hv
 have fin:EP X pins σ Q u s:=⟨v,H,I,r,h⟩
 rcases l with ⟨hk,hm⟩ | ⟨hk,c,hc,hcell⟩
 ·exact wpAny_Name (wpAny_loadName_local I.ok.kind hk hn hm fin) hd
 ·rcases hk with hk | hk
  ·exact wpAny_Name (wpAny_loadName_cell I.ok.kind hk hc hcell fin) hd
  ·exact wpAny_Name (wpAny_loadName_free I.ok.kind hk hc hcell fin hcd) hd
theorem pe_int {i j pos}:PE X (.Constant (.int i) j pos) (tC (.int i)):=fun _ _ _ H _ I h=>wpAny_Constant_int ⟨.int i,H,I.tok _,⟨_,rfl⟩,h⟩
theorem pe_bl {b j pos}:PE X (.Constant (.bool b) j pos) (tC (.bl b)):=fun _ _ _ H _ I h=>Constant_bool ⟨.bl b,H,I,rfl,h⟩
theorem pe_non {j pos}:PE X (.Constant .none j pos) (tC .non):=fun _ _ _ H _ I h=>Constant_none ⟨.non,H,I,rfl,h⟩
theorem pe_str {x j pos}:PE X (.Constant (.str x) j pos) (tC (.str x)):=fun _ _ _ H _ I h=>Calls.Constant_str ⟨.str x,H,I.tok _,⟨_,rfl⟩,h⟩
def Gl (X:Cx) (x:Str):Prop:=X.env.kindOf x=some .globalImplicit
theorem ld_glob {E:Value->Shared->Prop} {pins:List (Addr×Obj)} {s:Shared} {σ:St} {H:Hp} {x:Str} {u:Value} {pos:Pos} {Q:Value->Shared->Prop} (I:Inv X pins σ H s) (hg:Gl X x) (hm:X.mg x=some u) (h:Q u s)
  (hd:(x == ("__debug__" : Str))=false:=by decide):wpAny (model X.prog X.w) X.A (eval (.Name x pos) X.env) Q E s:=
 Calls.Name_function_global I.ok.kind hg (Calls.loadGlobal_global (by rw [I.ok.glob];exact I.mod.glob.keeps I.bk) hm h) hd
theorem ld_blt {E:Value->Shared->Prop} {pins:List (Addr×Obj)} {s:Shared} {σ:St} {H:Hp} {x:Str} {u:Value} {pos:Pos} {Q:Value->Shared->Prop} (I:Inv X pins σ H s) (hg:Gl X x) (hm:X.mg x=none) (hv:bootBuiltins x=some u) (h:Q u s)
  (hn:x≠"__name__":=by decide) (hd:(x == ("__debug__" : Str))=false:=by decide):wpAny (model X.prog X.w) X.A (eval (.Name x pos) X.env) Q E s:=by
 obtain ⟨mb,h1,h2⟩:=I.mod.blt
 exact Calls.Name_function_global I.ok.kind hg (Calls.loadGlobal_builtin (by rw [I.ok.glob];exact I.mod.glob.keeps I.bk) hm (by rw [I.ok.blt];exact h1.keeps I.bk) ((h2 x hn).trans hv) h) hd
theorem pe_glob {x:Str} {v:V} {u:Value} {pos:Pos} (hg:Gl X x) (hm:X.mg x=some u) (r:RelV v u) (hd:(x == ("__debug__" : Str))=false:=by decide):PE X (.Name x pos) (tC v):=
 fun _ _ _ H _ I h=>ld_glob I hg hm ⟨v,H,I,r,h⟩ hd
theorem pe_bltn {x:Str} {v:V} {u:Value} {pos:Pos} (hg:Gl X x) (hm:X.mg x=none) (hv:bootBuiltins x=some u) (r:RelV v u) (hn:x≠"__name__":=by decide) (hd:(x == ("__debug__" : Str))=false:=by decide):PE X (.Name x pos) (tC v):=
 fun _ _ _ H _ I h=>ld_blt I hg hm hv ⟨v,H,I,r,h⟩ hn hd
variable {a b:Expr} {ta tb:TE} {pos:Pos}
def PC (X:Cx) (op:CmpOp) (a b:Expr) (t:TE):Prop:=
 ∀(pins:List (Addr×Obj)) (s:Shared) (σ:St) (H:Hp) (Q:VK),Inv X pins σ H s->t σ H Q->
  wpAny (model X.prog X.w) X.A (eval a X.env) (fun v s₁=>wpAny (model X.prog X.w) X.A (eval b X.env) (fun u s₂=>wpAny (model X.prog X.w) X.A (compareOp op v u) (EP X pins σ Q) X.xe s₂) X.xe s₁) X.xe s
theorem nobehind (b:Expr) {op:CmpOp} (h:op≠.In) (h2:op≠.NotIn):behindInMarks op b=false:=by
 have e1:(op == CmpOp.In)=false:=by cases op <;> first | rfl | exact absurd rfl h
 have e2:(op == CmpOp.NotIn)=false:=by cases op <;> first | rfl | exact absurd rfl h2
 cases b <;> simp [behindInMarks,e1,e2]
def tB (t:TE):TT:=fun σ H Q=>t σ H fun x H1=>∃c,x=.bl c/\Q c H1
theorem pt_cmp {op:CmpOp} {t:TE} (h:PC X op a b t) (h1:behindInMarks op b=false:=by first | exact nobehind _ (by decide) (by decide) | rfl):PT X (.Compare a [op] [b] pos) (tB t):=by
 intro pins s σ H Q I hw
 refine wpAny_isTrue_Compare1 (thn (h pins s σ H _ I hw) fun v s1 h1=>thn h1 fun u s2 h2=>thn h2 fun c s3 ⟨x,H1,I1,r1,q1⟩=>?_) h1
 obtain ⟨d,rfl,q⟩:=q1
 cases r1
 exact wpAny_truthy_bool ⟨H1,I1,q⟩
theorem pt_val {e:Expr} {t:TE} (h:PE X e t) (he:∀whole,isTrue e X.env whole=(do let v <-whole;standAt e.pos;holding [v] (truthy v)):=by intro _;rfl):PT X e (tB t):=by
 intro pins s σ H Q I hw
 refine isTrue_plain (thn (h pins s σ H _ I hw) fun v s1 ⟨x,H1,I1,r1,q1⟩=>?_) (he _)
 obtain ⟨d,rfl,q⟩:=q1
 cases r1
 exact wpAny_truthy_bool ⟨H1,I1,q⟩
variable {tA tB':TT} {rest:List Expr}
def tAnd (t u:TT):TT:=fun σ H Q=>t σ H fun c H1=>if c=true then u σ H1 Q else Q false H1
def tOr (t u:TT):TT:=fun σ H Q=>t σ H fun c H1=>if c=true then Q true H1 else u σ H1 Q
def tNot (t:TT):TT:=fun σ H Q=>t σ H fun c H1=>Q (!c) H1
theorem pw_and1 (ha:PT X a tA):PW X (.BoolOp .And [a] pos) tA:=by
 intro wh pins s σ H Q I h
 refine isTrue_and (thn (ha pins s σ H Q I h) fun c s1 e=>?_)
 cases c with
 | true=>exact isTrue_and_nil e
 | false=>exact e
theorem pw_or1 (ha:PT X a tA):PW X (.BoolOp .Or [a] pos) tA:=by
 intro wh pins s σ H Q I h
 refine isTrue_or (thn (ha pins s σ H Q I h) fun c s1 e=>?_)
 cases c with
 | false=>exact isTrue_or_nil e
 | true=>exact e
theorem pw_and (ha:PT X a tA) (hb:PW X (.BoolOp .And (b::rest) pos) tB'):PW X (.BoolOp .And (a::b::rest) pos) (tAnd tA tB'):=by
 intro wh pins s σ H Q I h
 refine isTrue_and (thn (ha pins s σ H _ I h) fun c s1 ⟨H1,I1,q1⟩=>?_)
 cases c with
 | true=>exact hb wh pins s1 σ H1 Q I1 q1
 | false=>exact ⟨H1,I1,q1⟩
theorem pw_or (ha:PT X a tA) (hb:PW X (.BoolOp .Or (b::rest) pos) tB'):PW X (.BoolOp .Or (a::b::rest) pos) (tOr tA tB'):=by
 intro wh pins s σ H Q I h
 refine isTrue_or (thn (ha pins s σ H _ I h) fun c s1 ⟨H1,I1,q1⟩=>?_)
 cases c with
 | true=>exact ⟨H1,I1,q1⟩
 | false=>exact hb wh pins s1 σ H1 Q I1 q1
theorem pt_not (ha:PT X a tA):PT X (.UnaryOp .Not a pos) (tNot tA):=by
 intro pins s σ H Q I h
 exact isTrue_not (ha pins s σ H (fun c H1=>Q (!c) H1) I h)
def tAndV (ta tb:TE):TE:=fun σ H Q=>ta σ H fun x H1=>∃c,x=.bl c/\if c=true then tb σ H1 Q else Q (.bl false) H1
def tOrV (ta tb:TE):TE:=fun σ H Q=>ta σ H fun x H1=>∃c,x=.bl c/\if c=true then Q (.bl true) H1 else tb σ H1 Q
def tNotV (ta:TE):TE:=fun σ H Q=>ta σ H fun x H1=>∃c,x=.bl c/\Q (.bl (!c)) H1
theorem pe_one {op} {t:TE} (h:PE X a t):PE X (.BoolOp op [a] pos) t:=fun pins s σ H Q I hw=>BoolOp_one (h pins s σ H Q I hw)
theorem pe_and (ha:PE X a ta) (hb:PE X (.BoolOp .And (b::rest) pos) tb):PE X (.BoolOp .And (a::b::rest) pos) (tAndV ta tb):=by
 intro pins s σ H Q I h
 refine BoolOp_and (thn (ha pins s σ H _ I h) fun v s1 ⟨x,H1,I1,r1,q1⟩=>?_)
 obtain ⟨c,rfl,q1⟩:=q1
 cases r1
 refine wpAny_truthy_bool ?_
 cases c with
 | true=>exact hb pins s1 σ H1 Q I1 q1
 | false=>exact ⟨.bl false,H1,I1,rfl,q1⟩
theorem pe_not (ha:PE X a ta):PE X (.UnaryOp .Not a pos) (tNotV ta):=by
 intro pins s σ H Q I h
 refine UnaryOp_ (thn (ha pins s σ H _ I h) fun v s1 ⟨x,H1,I1,r1,q1⟩=>?_)
 obtain ⟨c,rfl,q1⟩:=q1
 cases r1
 exact not_of (wpAny_truthy_bool ⟨.bl (!c),H1,I1,rfl,q1⟩)
def tIf (t:TT) (ta tb:TE):TE:=fun σ H Q=>t σ H fun c H1=>if c=true then ta σ H1 Q else tb σ H1 Q
end
end L2
namespace L2
open PySem PySem.Spec PyProof.Rows
def SqL (K:PySem.W.Frag) (H:Hp) (a:Addr) (xs:List V):Prop:=
 Rd H a (.lst xs)\/
  ∃(o:Obj) (its:Array Value) (n:Nat),K.lookup a=some o/\o.cls=.type "list"/\o.dict=none/\o.data=.seq its n/\its.size<=sizeLine/\Vals xs its.toList
def SqT (K:PySem.W.Frag) (H:Hp) (a:Addr) (xs:List V):Prop:=
 Rd H a (.tup xs)\/
  ∃(o:Obj) (its:Array Value) (n:Nat),K.lookup a=some o/\o.cls=.type "tuple"/\o.data=.seq its n/\its.size<=sizeLine/\Vals xs its.toList
def absV:Value->Option V
 | .none=>some .non
 | .bool b=>some (.bl b)
 | .int i _=>some (.int i)
 | .str x _=>some (.str x)
 | .bytes b _=>some (.byt b)
 | .float b _=>some (.flt b)
 | .ref a=>some (.ref a)
 | .type n=>some (.ty n)
 | _=>none
theorem RelV.abs {x:V} {u:Value} (r:RelV x u):absV u=some x:=by
 cases x with
 | non=>cases r;rfl
 | bl _=>cases r;rfl
 | int _=>obtain ⟨t,rfl⟩:=r;rfl
 | str _=>obtain ⟨t,rfl⟩:=r;rfl
 | byt _=>obtain ⟨t,rfl⟩:=r;rfl
 | flt _=>obtain ⟨t,rfl⟩:=r;rfl
 | ref _=>cases r;rfl
 | ty _=>cases r;rfl
theorem RelV.inj {x y:V} {u:Value} (r:RelV x u) (q:RelV y u):x=y:=Option.some.inj (r.abs.symm.trans q.abs)
theorem Vals.inj:∀{xs ys:List V} {us:List Value},Vals xs us->Vals ys us->xs=ys
 | _,_,_,.nil,.nil=>rfl
 | _,_,_,.cons r t,.cons r' t'=>by rw [r.inj r',Vals.inj t t']
section
variable {X:Cx} {pins:List (Addr×Obj)} {σ:St} {H:Hp} {s:Shared} {a:Addr} {xs ys:List V}
theorem SqL.of {K:PySem.W.Frag} (h:H a=some (.lst xs)):SqL K H a xs:=.inl (.inl h)
theorem SqT.of {K:PySem.W.Frag} (h:H a=some (.tup xs)):SqT K H a xs:=.inl (.inl h)
theorem Inv.list (I:Inv X pins σ H s) (h:SqL X.K H a xs):∃its:List Value,Vals xs its/\PlainL s.heap a its.toArray/\xs.length<=sizeLine:=by
 rcases h with h | ⟨o,its,n,hk,hc,hd,hs,hz,r⟩
 ·obtain ⟨z,its,n,r,e⟩:=h.ok I.hok
  exact ⟨its,r,⟨_,n,e,rfl,rfl,rfl⟩,z⟩
 ·refine ⟨its.toList,r,⟨o,n,I.kIn a o hk,hc,hd,by simpa using hs⟩,?_⟩
  have e:=r.length
  simp only [Array.length_toList] at e
  lia
theorem Inv.tuple (I:Inv X pins σ H s) (h:SqT X.K H a xs):∃its:List Value,Vals xs its/\IsTup s.heap a its.toArray/\xs.length<=sizeLine:=by
 rcases h with h | ⟨o,its,n,hk,hc,hs,hz,r⟩
 ·obtain ⟨z,its,r,p⟩:=h.ok I.hok
  exact ⟨its,r,p,z⟩
 ·refine ⟨its.toList,r,⟨o,I.kIn a o hk,hc,n,by simpa using hs⟩,?_⟩
  have e:=r.length
  simp only [Array.length_toList] at e
  lia
theorem Inv.list_inj (I:Inv X pins σ H s) (h:SqL X.K H a xs) (h':SqL X.K H a ys):xs=ys:=by
 obtain ⟨its,r,⟨o,n,e,_,_,d⟩,_⟩:=I.list h
 obtain ⟨its',r',⟨o',n',e',_,_,d'⟩,_⟩:=I.list h'
 rw [e] at e';cases e'
 rw [d] at d'
 injection d' with d1 _
 have:its=its':=by simpa using congrArg Array.toList d1
 subst this
 exact r.inj r'
theorem Inv.tuple_inj (I:Inv X pins σ H s) (h:SqT X.K H a xs) (h':SqT X.K H a ys):xs=ys:=by
 obtain ⟨its,r,⟨o,e,_,n,d⟩,_⟩:=I.tuple h
 obtain ⟨its',r',⟨o',e',_,n',d'⟩,_⟩:=I.tuple h'
 rw [e] at e';cases e'
 rw [d] at d'
 injection d' with d1 _
 have:its=its':=by simpa using congrArg Array.toList d1
 subst this
 exact r.inj r'
end
abbrev Cx.wish (X:Cx) (E:Value->Shared->Prop):Cx:={ X with xe:=E }
abbrev Cx.nox (X:Cx):Cx:=X.wish fun _ _=>False
theorem Cx.Ok.wish {X:Cx} (ok:X.Ok) (E:Value->Shared->Prop):(X.wish E).Ok:=
 ⟨ok.mod,ok.kind,ok.glob,ok.blt,ok.above,ok.inj,ok.has,ok.cab,ok.hd,ok.frames,ok.stk,ok.exf,ok.bs,ok.bsz,ok.noex,ok.exfs,ok.funs,ok.frf⟩
theorem Cx.Ok.unwish {X:Cx} {E:Value->Shared->Prop} (ok:(X.wish E).Ok):X.Ok:=
 ⟨ok.mod,ok.kind,ok.glob,ok.blt,ok.above,ok.inj,ok.has,ok.cab,ok.hd,ok.frames,ok.stk,ok.exf,ok.bs,ok.bsz,ok.noex,ok.exfs,ok.funs,ok.frf⟩
section
variable {X:Cx} {pins:List (Addr×Obj)} {σ:St} {H:Hp} {s:Shared} {E:Value->Shared->Prop}
theorem Inv.wish (I:Inv X pins σ H s) (E:Value->Shared->Prop):Inv (X.wish E) pins σ H s:=⟨I.ok.wish E,I.os,I.bare,I.base,I.loc,I.cell,I.free,I.freeC,I.pin,I.hok,I.len⟩
theorem Inv.unwish (I:Inv (X.wish E) pins σ H s):Inv X pins σ H s:=⟨I.ok.unwish,I.os,I.bare,I.base,I.loc,I.cell,I.free,I.freeC,I.pin,I.hok,I.len⟩
theorem SP.unwish {D:Ends} {f:Flow} {s':Shared} (h:SP (X.wish E) pins D f s'):SP X pins D f s':=by
 cases f with
 | next=>obtain ⟨σ',H',I,q⟩:=h;exact ⟨σ',H',I.unwish,q⟩
 | brk=>obtain ⟨σ',H',I,q⟩:=h;exact ⟨σ',H',I.unwish,q⟩
 | cont=>obtain ⟨σ',H',I,q⟩:=h;exact ⟨σ',H',I.unwish,q⟩
 | ret u=>obtain ⟨v,σ',H',I,r,q⟩:=h;exact ⟨v,σ',H',I.unwish,r,q⟩
theorem PSs.nox {st:List Stmt} {t:TS} (h:PSs X.nox st t):PSs X st t:=fun pins s σ H D I hw=>
 wpAny_mono (h pins s σ H D (I.wish _) hw) (fun _ _ q=>q.unwish) fun _ _ z=>False.elim z
end
section
variable {X:Cx} {st:Stmt} {rest:List Stmt} {t u:TS} {e:Expr} {te:TE} {pos:Pos}
def tNext:TS:=fun D σ H=>D.nx σ H
def tSeq (t u:TS):TS:=fun D σ H=>t { D with nx:=u D } σ H
theorem pss_nil:PSs X [] tNext:=fun _ _ σ H _ I h=>wpAny_execs_nil ⟨σ,H,I,h⟩
theorem pss_cons (h1:PS X st t) (h2:PSs X rest u):PSs X (st::rest) (tSeq t u):=by
 intro pins s σ H D I h
 refine wpAny_execs_cons (thn (h1 pins s σ H { D with nx:=u D } I h) fun f s1 q=>?_)
 cases f with
 | next=>
  obtain ⟨σ',H',I',q⟩:=q
  exact h2 pins s1 σ' H' D I' q
 | ret v=>exact q
 | brk=>exact q
 | cont=>exact q
theorem pss_one (h1:PS X st t):PSs X [st] t:=by
 intro pins s σ H D I h
 refine wpAny_execs_cons (thn (h1 pins s σ H D I h) fun f s1 q=>?_)
 cases f with
 | next=>exact wpAny_execs_nil q
 | ret v=>exact q
 | brk=>exact q
 | cont=>exact q
theorem Inv.quiet {pins:List (Addr×Obj)} {σ:St} {H:Hp} {s:Shared} (I:Inv X pins σ H s):interactive X.env=false:=by simp [interactive,I.ok.kind]
def tDrop (te:TE):TS:=fun D σ H=>te σ H fun _ H1=>D.nx σ H1
theorem ps_expr (he:PE X e te) (hs:swapsWith e none pos.line X.env=pure false:=by rfl):PS X (.Expr e pos) (tDrop te):=by
 intro pins s σ H D I h
 exact wpAny_Expr_any (thn (he pins s σ H _ I h) fun v s1 ⟨x,H1,I1,r1,q1⟩=>⟨σ,H1,I1,q1⟩) I.quiet hs
def tRet (te:TE):TS:=fun D σ H=>te σ H D.rt
theorem ps_ret (he:PE X e te):PS X (.Return (some e) pos) (tRet te):=by
 intro pins s σ H D I h
 exact wpAny_Return_some (thn (he pins s σ H _ I h) fun v s1 ⟨x,H1,I1,r1,q1⟩=>⟨x,σ,H1,I1,r1,q1⟩)
def tRetN:TS:=fun D _ H=>D.rt .non H
def tIfS (c:TT) (t u:TS):TS:=fun D σ H=>c σ H fun b H1=>if b=true then t D σ H1 else u D σ H1
theorem ps_if {c:Expr} {a b:List Stmt} {tc:TT} (hc:PT X c tc) (ha:PSs X a t) (hb:PSs X b u):PS X (.If c a b pos) (tIfS tc t u):=by
 intro pins s σ H D I h
 refine wpAny_If (thn (hc pins s σ H _ I h) fun d s1 ⟨H1,I1,q1⟩=>?_)
 cases d with
 | true=>exact ha pins s1 σ H1 D I1 q1
 | false=>exact hb pins s1 σ H1 D I1 q1
end
abbrev TG:=V->St->Hp->(St->Hp->Prop)->Prop
abbrev TGs:=List V->St->Hp->(St->Hp->Prop)->Prop
def PG (X:Cx) (target:Expr) (t:TG):Prop:=
 ∀(pins:List (Addr×Obj)) (s:Shared) (σ:St) (H:Hp) (v:V) (u:Value) (Q:St->Hp->Prop),Inv X pins σ H s->RelV v u->t v σ H Q->
  wpAny (model X.prog X.w) X.A (assign target X.env u) (fun _ s'=>∃σ' H',Inv X pins σ' H' s'/\Q σ' H') X.xe s
def PGs (X:Cx) (ts:List Expr) (t:TGs):Prop:=
 ∀(pins:List (Addr×Obj)) (s:Shared) (σ:St) (H:Hp) (vs:List V) (us:List Value) (Q:St->Hp->Prop),Inv X pins σ H s->Vals vs us->t vs σ H Q->
  wpAny (model X.prog X.w) X.A (assignInOrder ((assignEach ts X.env).map (·.2)) us) (fun _ s'=>∃σ' H',Inv X pins σ' H' s'/\Q σ' H') X.xe s
abbrev TSet:=V->V->V->Hp->(Hp->Prop)->Prop
def PSet (X:Cx) (t:TSet):Prop:=
 ∀(pins:List (Addr×Obj)) (s:Shared) (σ:St) (H:Hp) (o i v:V) (ov iv u:Value) (Q:Hp->Prop),Inv X pins σ H s->RelV o ov->RelV i iv->RelV v u->t o i v H Q->
  wpAny (model X.prog X.w) X.A (setItem ov iv u) (fun _ s'=>∃H',Inv X pins σ H' s'/\Q H') X.xe s
abbrev TIp:=V->V->Hp->VK->Prop
def PIp (X:Cx) (op:Operator) (t:TIp):Prop:=
 ∀(pins:List (Addr×Obj)) (s:Shared) (σ:St) (H:Hp) (x y:V) (v u:Value) (Q:VK),Inv X pins σ H s->RelV x v->RelV y u->t x y H Q->
  wpAny (model X.prog X.w) X.A (inplaceOp op v u) (EP X pins σ Q) X.xe s
section
variable {X:Cx} {pos:Pos}
def gName (i:Nat):TG:=fun v σ H Q=>Q (σ.set i (some v)) H
theorem pg_name {i:Nat} {x:Str} (hN:X.N.Nodup) (hi:X.N[i]? = some x) (hx:Loc X.env.scope x) (hf:X.fn x=true\/X.env.scope.names.lookup x=some .local:=by first | exact .inl rfl | exact .inr rfl | assumption):PG X (.Name x pos) (gName i):=by
 intro pins s σ H v u Q I r h
 exact wpAny_assign_Name (store_ok I hN hi hx r (fun s' I'=>⟨_,H,I',h⟩) hf)
def gNil:TGs:=fun vs σ H Q=>vs=[]/\Q σ H
def gCons (t:TG) (u:TGs):TGs:=fun vs σ H Q=>∃v r,vs=v::r/\t v σ H fun σ' H'=>u r σ' H' Q
theorem pgs_nil:PGs X [] gNil:=by
 intro pins s σ H vs us Q I r h
 obtain ⟨e,h⟩:=h
 subst e
 cases r
 exact assignInOrder_nil ⟨σ,H,I,h⟩
theorem pgs_cons {e:Expr} {es:List Expr} {t:TG} {u:TGs} (h1:PG X e t) (h2:PGs X es u)
  (hs:(assignEach (e::es) X.env).map (·.2)=assign e X.env::(assignEach es X.env).map (·.2):=by rfl):PGs X (e::es) (gCons t u):=by
 intro pins s σ H vs us Q I r h
 obtain ⟨v,vr,e1,h⟩:=h
 subst e1
 cases r with
 | cons r rr=>
  rw [hs]
  refine assignInOrder_cons (thn (h1 pins s σ H _ _ _ I r h) fun _ s1 ⟨σ1,H1,I1,q1⟩=>?_)
  exact h2 pins s1 σ1 H1 _ _ Q I1 rr q1
def gTup (K:PySem.W.Frag) (n:Nat) (t:TGs):TG:=fun v σ H Q=>∃a xs,v=.ref a/\SqT K H a xs/\xs.length=n/\t xs σ H Q
theorem pg_tup {es:List Expr} {k:Nat} {t:TGs} {n:Nat} (hc:X.calm=true) (h:PGs X es t)
  (hn:(assignEach es X.env).length=n:=by rfl) (hst:(assignEach es X.env).findIdx? (·.1)=none:=by rfl):PG X (.Tuple es k pos) (gTup X.K n t):=by
 intro pins s σ H v u Q I r hw
 obtain ⟨a,xs,e1,hq,hl,hw⟩:=hw
 subst e1
 cases r
 obtain ⟨its,rv,ht,hz⟩:=I.tuple hq
 refine assign_Tuple_tuple (I.ok.hd hc) ht (by simp [hn,<-hl,rv.length]) hst fun h' hx=>?_
 have I1:Inv X pins σ H { s with heap:=h' }:=I.kept (t':=s.toks) fun b o e=>hx b o (Nat.ne_of_lt (Heap.lt_size e)) e
 exact h pins _ σ H xs _ Q I1 (by simpa using rv) hw
def gSub (to ti:TE) (t:TSet):TG:=fun v σ H Q=>to σ H fun o H1=>ti σ H1 fun i H2=>t o i v H2 fun H3=>Q σ H3
theorem pg_sub {o i:Expr} {to ti:TE} {t:TSet} (ho:PE X o to) (hi:PE X i ti) (hs:PSet X t)
  (ha:∀v,assign (.Subscript o i pos) X.env v=(do
   let ov <-holding [v] (eval o X.env)
   let iv <-holding [v,ov] (eval i X.env)
   standAt pos
   holding [v,ov,iv] (setItem ov iv v)
   release [v,ov,iv] []):=by intro _;rfl):PG X (.Subscript o i pos) (gSub to ti t):=by
 intro pins s σ H v u Q I r h
 rw [ha]
 refine wpAny_bind (wpAny_holding (thn (ho pins s σ H _ I h) fun ov s1 ⟨x,H1,I1,r1,q1⟩=>?_))
 refine wpAny_bind (wpAny_holding (thn (hi pins s1 σ H1 _ I1 q1) fun iv s2 ⟨y,H2,I2,r2,q2⟩=>?_))
 refine wpAny_bind (wpAny_standAt (wpAny_bind (wpAny_holding (thn (hs pins s2 σ H2 x y v ov iv u _ I2 r1 r2 r q2) fun _ s3 ⟨H3,I3,q3⟩=>?_))))
 exact wpAny_release ⟨σ,H3,I3,q3⟩
def tAsg (te:TE) (g:TG):TS:=fun D σ H=>te σ H fun x H1=>g x σ H1 D.nx
theorem ps_asg {tg e:Expr} {te:TE} {g:TG} (he:PE X e te) (hg:PG X tg g) (hs:swapsWithSole [tg] e pos.line X.env=pure false:=by rfl) (hw:swappedStores [tg] e X.env=pure none:=by rfl)
  (h1:(assignEach [tg] X.env).map (·.2)=[assign tg X.env]:=by rfl):PS X (.Assign [tg] e pos) (tAsg te g):=by
 intro pins s σ H D I h
 refine wpAny_Assign_stores (thn (he pins s σ H _ I h) fun v s1 ⟨x,H1,I1,r1,q1⟩=>?_) hs hw
 rw [h1]
 exact thn (hg pins s1 σ H1 x v _ I1 r1 q1) fun _ s2 q=>q
theorem ps_set {i:Nat} {x:Str} {e:Expr} {te:TE} {pos':Pos} (hN:X.N.Nodup) (hi:X.N[i]? = some x) (hx:Loc X.env.scope x) (he:PE X e te) (hs:swapsWith e (some (.Name x pos')) pos.line X.env=pure false:=by rfl) (hf:X.fn x=true\/X.env.scope.names.lookup x=some .local:=by first | exact .inl rfl | exact .inr rfl | assumption) :
  PS X (.Assign [.Name x pos'] e pos) (tAsg te (gName i)):=by
 intro pins s σ H D I h
 refine wpAny_Assign_Name (thn (he pins s σ H _ I h) fun v s1 ⟨y,H1,I1,r1,q1⟩=>?_) hs
 exact store_ok I1 hN hi hx r1 (fun s2 I2=>⟨_,H1,I2,q1⟩) hf
def tPar (i j:Nat) (ta:TA):TS:=fun D σ H=>ta σ H fun vs H1=>∃v w,vs=[v,w]/\D.nx ((σ.set i (some v)).set j (some w)) H1
def tAug (i:Nat) (te:TE) (ti:TIp):TS:=fun D σ H=>∃x,σ[i]? = some (some x)/\te σ H fun y H1=>ti x y H1 fun z H2=>D.nx (σ.set i (some z)) H2
def tAugS (to ti te:TE) (tget:V->V->Hp->VK->Prop) (tip:TIp) (tset:TSet):TS:=fun D σ H=>to σ H fun o H1=>ti σ H1 fun i H2=>tget o i H2 fun x H3=>te σ H3 fun y H4=>tip x y H4 fun z H5=>tset o i z H5 fun H6=>D.nx σ H6
def PGet (X:Cx) (t:V->V->Hp->VK->Prop):Prop:=
 ∀(pins:List (Addr×Obj)) (s:Shared) (σ:St) (H:Hp) (o i:V) (ov iv:Value) (Q:VK),Inv X pins σ H s->RelV o ov->RelV i iv->t o i H Q->
  wpAny (model X.prog X.w) X.A (getItem ov iv) (EP X pins σ Q) X.xe s
theorem ps_augS {o i e:Expr} {to ti te:TE} {tget:V->V->Hp->VK->Prop} {tip:TIp} {tset:TSet} {op:Operator} {tpos:Pos} (ho:PE X o to) (hi:PE X i ti) (hg:PGet X tget) (he:PE X e te) (hp:PIp X op tip) (hs:PSet X tset)
  (ha:∀ov iv new,augStore i ov iv new=(do holding [new,ov,iv] (setItem ov iv new);release [new,ov,iv] [];pure .next):=by intros;rfl):PS X (.AugAssign (.Subscript o i tpos) op e pos) (tAugS to ti te tget tip tset):=by
 intro pins s σ H D I h
 refine wpAny_AugAssign_SubscriptAny (thn (ho pins s σ H _ I h) fun ov s1 ⟨x1,H1,I1,r1,q1⟩=>?_) ha
 refine thn (hi pins s1 σ H1 _ I1 q1) fun iv s2 ⟨x2,H2,I2,r2,q2⟩=>?_
 refine thn (hg pins s2 σ H2 x1 x2 ov iv _ I2 r1 r2 q2) fun old s3 ⟨x3,H3,I3,r3,q3⟩=>?_
 refine thn (he pins s3 σ H3 _ I3 q3) fun v s4 ⟨x4,H4,I4,r4,q4⟩=>?_
 refine thn (hp pins s4 σ H4 x3 x4 old v _ I4 r3 r4 q4) fun new s5 ⟨x5,H5,I5,r5,q5⟩=>?_
 exact thn (hs pins s5 σ H5 x1 x2 x5 ov iv new _ I5 r1 r2 r5 q5) fun _ s6 ⟨H6,I6,q6⟩=>⟨σ,H6,I6,q6⟩
def ipI (f:Int->Int->Int):TIp:=fun x y H Q=>∃i j,x=.int i/\y=.int j/\Q (.int (f i j)) H
theorem ip_add:PIp X .Add (ipI fun i j=>i+j):=by
 intro pins s σ H x y v u Q I r1 r2 h
 obtain ⟨i,j,e1,e2,q⟩:=h
 subst e1;subst e2
 obtain ⟨t,rfl⟩:=r1
 obtain ⟨t',rfl⟩:=r2
 exact iadd_int ⟨.int _,H,I.tok _,⟨_,rfl⟩,q⟩
theorem ip_sub:PIp X .Sub (ipI fun i j=>i - j):=by
 intro pins s σ H x y v u Q I r1 r2 h
 obtain ⟨i,j,e1,e2,q⟩:=h
 subst e1;subst e2
 obtain ⟨t,rfl⟩:=r1
 obtain ⟨t',rfl⟩:=r2
 exact isub_int ⟨.int _,H,I.tok _,⟨_,rfl⟩,q⟩
end
section
variable {X:Cx} {pos:Pos}
def tWhile (c:TT) (tb:TS):TS:=fun D σ H=>∃W:Nat->St->Hp->Prop,(∃m,W m σ H)/\∀m σ H,W m σ H->
 c σ H fun b H1=>if b=true then ∃N:St->Hp->Prop,(∀σ' H',N σ' H'->∃m',m' < m/\W m' σ' H')/\tb { D with nx:=N,ct:=N,bk:=D.nx } σ H1 else D.nx σ H1
theorem ps_while {c:Expr} {body:List Stmt} {tc:TT} {tb:TS} (hp:PassesOwn (model X.prog X.w) X.A X.env X.xe) (hc:PT X c tc) (hb:PSs X body tb):PS X (.While c body [] pos) (tWhile tc tb):=by
 intro pins s σ H D I h
 obtain ⟨W,⟨m0,w0⟩,turn⟩:=h
 refine wpAny_While (codeAny_whileLoop (fun n s'=>∃σ' H',Inv X pins σ' H' s'/\W n σ' H') ?_ m0 ⟨σ,H,I,w0⟩)
 rintro n s1 ⟨σ1,H1,I1,w1⟩
 refine wpAny_passesOwn hp (thn (hc pins s1 σ1 H1 _ I1 (turn n σ1 H1 w1)) fun b s2 ⟨H2,I2,q2⟩=>?_)
 cases b with
 | true=>
  obtain ⟨N,hN,q2⟩:=q2
  rw [if_pos rfl]
  refine wpAny_passesOwn hp (thn (hb pins s2 σ1 H2 _ I2 q2) fun f s3 q3=>?_)
  cases f with
  | next=>
   obtain ⟨σ3,H3,I3,n3⟩:=q3
   obtain ⟨m',hm,w3⟩:=hN σ3 H3 n3
   exact ⟨m',hm,σ3,H3,I3,w3⟩
  | cont=>
   obtain ⟨σ3,H3,I3,n3⟩:=q3
   obtain ⟨m',hm,w3⟩:=hN σ3 H3 n3
   exact ⟨m',hm,σ3,H3,I3,w3⟩
  | brk=>exact q3
  | ret v=>exact q3
 | false=>
  rw [if_neg Bool.false_ne_true]
  exact wpAny_execs_nil ⟨σ1,H2,I2,q2⟩
end
structure It where
 go:Nat->Hp->Prop
 yld:Nat->Hp->V->Hp->Prop
 stop:Nat->Hp->Prop
def FpOk (X:Cx) (pins:List (Addr×Obj)) (H:Hp) (b:Addr):Prop:=
 H b=none/\b≠X.env.locals/\b∉X.fs/\(b∈X.ex\/X.s₀.heap.objs.size<=b)/\(∀x c,X.env.cells.lookup x=some c->c≠b)/\∀p∈X.pn++pins,p.1≠b
theorem Inv.fpOk {X:Cx} {pins:List (Addr×Obj)} {σ:St} {H H':Hp} {s:Shared} {b:Addr} (I:Inv X pins σ H s) (hb:s.heap.objs.size<=b) (hn:H' b=none):FpOk X pins H' b:=by
 refine ⟨hn,Nat.ne_of_gt (Nat.lt_of_lt_of_le I.lt hb),I.nofs hb,.inr (Nat.le_trans I.sz hb),fun x c e z=>?_,fun p hp z=>?_⟩
 ·obtain ⟨v,q⟩:=I.cell x c e
  exact absurd (Nat.lt_of_lt_of_le q.lt (by rw [z];exact hb)) (Nat.lt_irrefl _)
 ·exact absurd (Nat.lt_of_lt_of_le (Heap.lt_size (I.pin p hp).1) (by rw [z];exact hb)) (Nat.lt_irrefl _)
structure Turn (P:Program) (w:World) (K:PySem.W.Frag) (tg:Expr) (J:It) (fp:List Addr) (it:Addr) (tn:Nat->Heap->Prop):Prop where
 mem:it∈fp
 obj:∀i h,tn i h->∀b∈fp,∃o,h.get? b=some o/\∀v,o.data≠.cell v
 keep:∀i h h',tn i h->(∀b∈fp,∀o,h.get? b=some o->h'.get? b=some o)->tn i h'
 item:∀(X:Cx),X.prog=P->X.w=w->X.K=K->X.calm=true->∀(i:Nat) (pins:List (Addr×Obj)) (s:Shared) (σ:St) (H:Hp) (E:Value->Shared->Prop),Inv X pins σ H s->(∀b∈fp,FpOk X pins H b)->tn i s.heap->J.go i H->
  wpAny (model P w) X.A (pyNext (.ref it)) (fun r s1=>∃u,r=some u/\
   wpAny (model P w) X.A (letOwnedTupleGo tg (.ref it) u) (fun _ s2=>∃x H',Inv X pins σ H' s2/\RelV x u/\J.yld i H x H'/\tn (i+1) s2.heap/\∀b∈fp,H' b=none) E s1) E s
 done:∀(X:Cx),X.prog=P->X.w=w->X.K=K->X.calm=true->∀(i:Nat) (pins:List (Addr×Obj)) (s:Shared) (σ:St) (H:Hp) (E:Value->Shared->Prop),Inv X pins σ H s->(∀b∈fp,FpOk X pins H b)->tn i s.heap->J.stop i H->
  wpAny (model P w) X.A (pyNext (.ref it)) (fun r s1=>r=none/\Inv X pins σ H s1) E s
 self:∀(A:Around) (i:Nat) (s:Shared) (Q:Value->Shared->Prop) (E:Value->Shared->Prop),tn i s.heap->Q (.ref it) s->wpAny (model P w) A (pyIter (.ref it)) Q E s
abbrev TI:=St->Hp->(It->Hp->Prop)->Prop
def PIE (X:Cx) (pins:List (Addr×Obj)) (σ:St) (tg:Expr) (R:It->Hp->Prop) (itv:Value) (s2:Shared):Prop:=
 ∃(it:Addr) (fp:List Addr) (tn:Nat->Heap->Prop) (J:It) (H':Hp),itv=.ref it/\Inv X pins σ H' s2/\Turn X.prog X.w X.K tg J fp it tn/\tn 0 s2.heap/\(∀b∈fp,FpOk X pins H' b)/\R J H'
def PI (X:Cx) (tg iter:Expr) (wi:TI):Prop:=
 ∀(pins:List (Addr×Obj)) (s:Shared) (σ:St) (H:Hp) (R:It->Hp->Prop),Inv X pins σ H s->wi σ H R->
  wpAny (model X.prog X.w) X.A (eval iter X.env) (fun v s1=>wpAny (model X.prog X.w) X.A (pyIter v) (PIE X pins σ tg R) X.xe s1) X.xe s
theorem go_of {M : Model} {A : Around} {E : Value → Shared → Prop} {s : Shared} {tg : Expr} {it : Addr} {u : Value} {o : Obj} {n : String} {vs : Array Value} {Q : Unit → Shared → Prop} (ho : s.heap.get? it = some o) (hc : o.cls = .type n) (hd : o.data = .fields vs)
    (hn : ["enumerate", "zip", "dict_itemiterator", "dict_reverseitemiterator", "odict_iterator", "itertools.zip_longest", "itertools.pairwise"].contains n = false) (hQ : Q () s) : wpAny M A (letOwnedTupleGo tg (.ref it) u) Q E s := by
  unfold letOwnedTupleGo
  cases tg <;> first
    | exact wpAny_pure hQ
    | (cases u <;> first
        | exact wpAny_pure hQ
        | (refine wpAny_bind (wpAny_load ho ?_)
           rw [hc, hd]
           show wpAny M A (if (["enumerate", "zip", "dict_itemiterator", "dict_reverseitemiterator", "odict_iterator", "itertools.zip_longest", "itertools.pairwise"].contains n && vs[0]? == some (rawInt _)) = true then _ else _) Q E s
           rw [if_neg (by intro h; rw [hn, Bool.false_and] at h; cases h)]
           exact wpAny_pure hQ))
def Itl (K:PySem.W.Frag) (a:Addr):It:=
 ⟨fun i H=>∃xs x,SqL K H a xs/\xs[i]? = some x,fun i H x H'=>H'=H/\∀xs,SqL K H a xs->xs[i]? = some x,fun i H=>∃xs,SqL K H a xs/\xs.length<=i⟩
def Itt (K:PySem.W.Frag) (a:Addr):It:=
 ⟨fun i H=>∃xs x,SqT K H a xs/\xs[i]? = some x,fun i H x H'=>H'=H/\∀xs,SqT K H a xs->xs[i]? = some x,fun i H=>∃xs,SqT K H a xs/\xs.length<=i⟩
def Itr (lo:Int) (n:Nat):It:=⟨fun i _=>i < n,fun i H x H'=>H'=H/\x=.int (lo+i),fun i _=>n<=i⟩
theorem turn_list {P:Program} {w:World} {K:PySem.W.Frag} {tg:Expr} (a it:Addr):Turn P w K tg (Itl K a) [it] it (fun i h=>h.IsListIter it a i) where
 mem:=by simp
 obj:=fun i h st b hb=>by
  have e:b=it:=by simpa using hb
  subst e
  obtain ⟨o,e,c,d⟩:=st
  exact ⟨o,e,fun v z=>by rw [d] at z;cases z⟩
 keep:=fun i h h' st k=>st.at fun o e=>k it (by simp) o e
 item:=by
  intro X hP hw hK hc i pins s σ H E I hf st hg
  subst hP hw hK
  obtain ⟨xs,x,hq,hx⟩:=hg
  obtain ⟨its,rv,p,hz⟩:=I.list hq
  obtain ⟨u,hu,ru⟩:=rv.get hx
  obtain ⟨f0,f1,f2,f3,f4,f5⟩:=hf it (by simp)
  refine wpAny_pyNext_list_item st p.isList (x:=u) (by simpa using hu) fun h' st' sb=>?_
  have I1:Inv X pins σ H { s with heap:=h' }:=I.turned (t':=s.toks) (fun b o hb e=>(sb.2 b hb).trans e) f0 f1 f3 f4 f5
  obtain ⟨o,e,c,d⟩:=id st'
  exact ⟨u,rfl,go_of (s:={ s with heap:=h' }) e c d (by decide) ⟨x,H,I1,ru,⟨rfl,fun ys hy=>by rw [I.list_inj hy hq];exact hx⟩,st',fun b hb=>(hf b hb).1⟩⟩
 done:=by
  intro X hP hw hK hc i pins s σ H E I hf st hg
  subst hP hw hK
  obtain ⟨xs,hq,hx⟩:=hg
  obtain ⟨its,rv,p,hz⟩:=I.list hq
  obtain ⟨f0,f1,f2,f3,f4,f5⟩:=hf it (by simp)
  have hl:=rv.length
  exact wpAny_pyNext_list_end (I.ok.hd hc) st p.isList (by simp;lia) fun h' eb=>⟨rfl,I.turned (t':=s.toks) (fun b o hb e=>eb b o hb e) f0 f1 f3 f4 f5⟩
 self:=fun _ _ _ _ _ st h=>wpAny_pyIter_listiter st h
theorem turn_tuple {P:Program} {w:World} {K:PySem.W.Frag} {tg:Expr} (a it:Addr):Turn P w K tg (Itt K a) [it] it (fun i h=>h.IsTupleIter it a i) where
 mem:=by simp
 obj:=fun i h st b hb=>by
  have e:b=it:=by simpa using hb
  subst e
  obtain ⟨o,e,c,d⟩:=st
  exact ⟨o,e,fun v z=>by rw [d] at z;cases z⟩
 keep:=fun i h h' st k=>st.at fun o e=>k it (by simp) o e
 item:=by
  intro X hP hw hK hc i pins s σ H E I hf st hg
  subst hP hw hK
  obtain ⟨xs,x,hq,hx⟩:=hg
  obtain ⟨its,rv,p,hz⟩:=I.tuple hq
  obtain ⟨u,hu,ru⟩:=rv.get hx
  obtain ⟨f0,f1,f2,f3,f4,f5⟩:=hf it (by simp)
  refine wpAny_pyNext_tuple_item st (show s.heap.IsTuple a its.toArray from p) (x:=u) (by simpa using hu) fun h' st' sb=>?_
  have I1:Inv X pins σ H { s with heap:=h' }:=I.turned (t':=s.toks) (fun b o hb e=>(sb.2 b hb).trans e) f0 f1 f3 f4 f5
  obtain ⟨o,e,c,d⟩:=id st'
  exact ⟨u,rfl,go_of (s:={ s with heap:=h' }) e c d (by decide) ⟨x,H,I1,ru,⟨rfl,fun ys hy=>by rw [I.tuple_inj hy hq];exact hx⟩,st',fun b hb=>(hf b hb).1⟩⟩
 done:=by
  intro X hP hw hK hc i pins s σ H E I hf st hg
  subst hP hw hK
  obtain ⟨xs,hq,hx⟩:=hg
  obtain ⟨its,rv,p,hz⟩:=I.tuple hq
  obtain ⟨f0,f1,f2,f3,f4,f5⟩:=hf it (by simp)
  have hl:=rv.length
  exact wpAny_pyNext_tuple_end (I.ok.hd hc) st (show s.heap.IsTuple a its.toArray from p) (by simp;lia) fun h' eb=>⟨rfl,I.turned (t':=s.toks) (fun b o hb e=>eb b o hb e) f0 f1 f3 f4 f5⟩
 self:=fun _ _ _ _ _ st h=>wpAny_pyIter_tupleiter st h
theorem turn_range {P:Program} {w:World} {K:PySem.W.Frag} {tg:Expr} (it:Addr) (lo:Int) (n:Nat):Turn P w K tg (Itr lo n) [it] it (fun i h=>IsRangeIter h it (lo+(i:Nat) * 1) ((n:Int) - (i:Nat)) 1) where
 mem:=by simp
 obj:=fun i h st b hb=>by
  have e:b=it:=by simpa using hb
  subst e
  exact ⟨_,st,fun v z=>by
   have z':Data.fields _=Data.cell v:=z
   cases z'⟩
 keep:=fun i h h' st k=>k it (by simp) _ st
 item:=by
  intro X hP hw hK hc i pins s σ H E I hf st hg
  subst hP hw hK
  obtain ⟨f0,f1,f2,f3,f4,f5⟩:=hf it (by simp)
  have W:=Walks.range (prog:=X.prog) (w:=X.w) (I.ok.hd hc) it lo 1 n
  refine W.item i s _ _ hg st fun v h' tk hv st' kk=>?_
  obtain ⟨t,rfl⟩:=hv
  have I1:Inv X pins σ H { s with heap:=h',toks:=tk }:=I.turned (fun b o hb e=>kk b o (by simpa using hb) e) f0 f1 f3 f4 f5
  refine ⟨_,rfl,go_of (s:={ s with heap:=h',toks:=tk }) (n:="range_iterator") st' rfl rfl (by decide) ⟨.int (lo+i),H,I1,⟨t,?_⟩,⟨rfl,rfl⟩,st',fun b hb=>(hf b hb).1⟩⟩
  rw [Int.mul_one]
 done:=by
  intro X hP hw hK hc i pins s σ H E I hf st hg
  subst hP hw hK
  obtain ⟨f0,f1,f2,f3,f4,f5⟩:=hf it (by simp)
  exact wpAny_pyNext_range_end (I.ok.hd hc) st (by have:n<=i:=hg;lia) fun h' eb=>⟨rfl,I.turned (t':=s.toks) (fun b o hb e=>eb b o hb e) f0 f1 f3 f4 f5⟩
 self:=fun _ _ _ _ _ st h=>wpAny_pyIter_rangeiter st h
end L2
namespace L2
open PySem PySem.Spec PyProof.Rows
section
variable {X:Cx} {tg:Expr}
def iList (K:PySem.W.Frag) (tl:TE):TI:=fun σ H R=>tl σ H fun x H1=>∃a,x=.ref a/\(∃xs,SqL K H1 a xs)/\R (Itl K a) H1
def iTup (K:PySem.W.Frag) (tl:TE):TI:=fun σ H R=>tl σ H fun x H1=>∃a,x=.ref a/\(∃xs,SqT K H1 a xs)/\R (Itt K a) H1
theorem pi_list {l:Expr} {tl:TE} (hl:PE X l tl):PI X tg l (iList X.K tl):=by
 intro pins s σ H R I h
 refine thn (hl pins s σ H _ I h) fun v s1 ⟨x,H1,I1,r1,q1⟩=>?_
 obtain ⟨a,e,⟨xs,hq⟩,q⟩:=q1
 subst e
 cases r1
 obtain ⟨its,rv,p,hz⟩:=I1.list hq
 refine wpAny_pyIter_list p.isList ?_
 refine ⟨s1.heap.objs.size,[s1.heap.objs.size],_,_,H1,rfl,I1.kept (t':=s1.toks) fun b o e=>Heap.get?_push_of_some _ e,turn_list a _,⟨_,Heap.get?_push_size _ rfl,rfl,rfl⟩,fun b hb=>?_,q⟩
 have e:b=s1.heap.objs.size:=by simpa using hb
 subst e
 exact I1.fpOk (Nat.le_refl _) (I1.hok.fresh (Nat.le_refl _))
theorem pi_tup {l:Expr} {tl:TE} (hl:PE X l tl):PI X tg l (iTup X.K tl):=by
 intro pins s σ H R I h
 refine thn (hl pins s σ H _ I h) fun v s1 ⟨x,H1,I1,r1,q1⟩=>?_
 obtain ⟨a,e,⟨xs,hq⟩,q⟩:=q1
 subst e
 cases r1
 obtain ⟨its,rv,p,hz⟩:=I1.tuple hq
 refine wpAny_pyIter_tuple (show s1.heap.IsTuple a its.toArray from p) ?_
 refine ⟨s1.heap.objs.size,[s1.heap.objs.size],_,_,H1,rfl,I1.kept (t':=s1.toks) fun b o e=>Heap.get?_push_of_some _ e,turn_tuple a _,⟨_,Heap.get?_push_size _ rfl,rfl,rfl⟩,fun b hb=>?_,q⟩
 have e:b=s1.heap.objs.size:=by simpa using hb
 subst e
 exact I1.fpOk (Nat.le_refl _) (I1.hok.fresh (Nat.le_refl _))
theorem range_it {pins:List (Addr×Obj)} {σ:St} {H:Hp} {s:Shared} {R:It->Hp->Prop} {E:Value->Shared->Prop} {lo hi:Int} {t u v:Tok} {tk:Nat} (I:Inv X pins σ H s) (h1 : -(2 ^ 62)<=lo) (h2:lo < 2 ^ 62) (h3 : -(2 ^ 62)<=hi) (h4:hi < 2 ^ 62)
  (q:R (Itr lo (hi - lo).toNat) H):wpAny (model X.prog X.w) X.A (pyIter (.ref s.heap.objs.size)) (PIE X pins σ tg R) E { s with heap:=s.heap.push { cls:=.type "range",data:=.fields #[.int lo t,.int hi u,.int 1 v] },toks:=tk }:=by
 refine wpAny_pyIter_range (IsRange.new ..) (small_one h1 h2 h3 h4) ?_
 have I1:Inv X pins σ H { s with heap:=s.heap.push { cls:=.type "range",data:=.fields #[.int lo t,.int hi u,.int 1 v] },toks:=tk }:=I.kept fun b o e=>Heap.get?_push_of_some _ e
 refine ⟨(s.heap.push { cls:=.type "range",data:=.fields #[.int lo t,.int hi u,.int 1 v] }).objs.size,[(s.heap.push { cls:=.type "range",data:=.fields #[.int lo t,.int hi u,.int 1 v] }).objs.size],_,_,H,rfl,
  I1.kept (t':=tk) fun b o e=>Heap.get?_push_of_some _ e,turn_range _ lo (hi - lo).toNat,?_,fun b hb=>?_,q⟩
 ·have e1:lo+((0:Nat):Int) * 1=lo:=by simp
  have e2:(((hi - lo).toNat:Nat):Int) - ((0:Nat):Int)=Builtin.Range.rangeSize lo hi 1:=by rw [rangeSize_one];split <;> lia
  show IsRangeIter _ _ (lo+((0:Nat):Int) * 1) ((((hi - lo).toNat:Nat):Int) - ((0:Nat):Int)) 1
  rw [e1,e2]
  exact Heap.get?_push_size _ rfl
 ·have e:b=(s.heap.push { cls:=.type "range",data:=.fields #[.int lo t,.int hi u,.int 1 v] }).objs.size:=by simpa using hb
  subst e
  exact I1.fpOk (Nat.le_refl _) (I1.hok.fresh (Nat.le_refl _))
def iRng1 (ta:TA):TI:=fun σ H R=>ta σ H fun vs H1=>∃j:Int,vs=[.int j]/\-(2 ^ 62)<=j/\j < 2 ^ 62/\R (Itr 0 j.toNat) H1
def iRng2 (ta:TA):TI:=fun σ H R=>ta σ H fun vs H1=>∃i j:Int,vs=[.int i,.int j]/\(-(2 ^ 62)<=i/\i < 2 ^ 62/\-(2 ^ 62)<=j/\j < 2 ^ 62)/\R (Itr i (j - i).toNat) H1
theorem pi_range1 {a:Expr} {ta:TA} {p pos:Pos} (hg:Gl X "range") (hm:X.mg "range" = none) (ha:PA X [a] ta) (hs:starEach [a] X.env=[(false,eval a X.env)]:=by rfl):PI X tg (.Call (.Name "range" p) [a] [] pos) (iRng1 ta):=by
 intro pins s σ H R I h
 refine Call_ (ld_blt I hg hm boot_range (PyProof.Rows.callWith_type1 (thn (ha pos pins s σ H _ I h) fun us s1 ⟨vs,H1,I1,r1,q1⟩=>?_) hs rfl))
 obtain ⟨j,e,q1,q2,q⟩:=q1
 subst e
 cases r1 with
 | cons r rr=>
  cases rr
  obtain ⟨t,rfl⟩:=r
  exact call_range_1 (range_it I1 (by lia) (by lia) q1 q2 (by simpa using q))
theorem pi_range2 {a b:Expr} {ta:TA} {p pos:Pos} (hg:Gl X "range") (hm:X.mg "range" = none) (ha:PA X [a,b] ta) (hs:starEach [a,b] X.env=[(false,eval a X.env),(false,eval b X.env)]:=by rfl) (hs2:starEach [b] X.env=[(false,eval b X.env)]:=by rfl) :
  PI X tg (.Call (.Name "range" p) [a,b] [] pos) (iRng2 ta):=by
 intro pins s σ H R I h
 refine Call_ (ld_blt I hg hm boot_range (PyProof.Rows.callWith_type1 (thn (ha pos pins s σ H _ I h) fun us s1 ⟨vs,H1,I1,r1,q1⟩=>?_) (by rw [hs,hs2]) (by rw [hs2];rfl)))
 obtain ⟨i,j,e,⟨q1,q2,q3,q4⟩,q⟩:=q1
 subst e
 cases r1 with
 | cons r rr=>
  cases rr with
  | cons r' rr=>
   cases rr
   obtain ⟨t,rfl⟩:=r
   obtain ⟨t',rfl⟩:=r'
   exact call_range_2 (range_it I1 q1 q2 q3 q4 q)
def tFor (wi:TI) (g:TG) (tb:TS):TS:=fun D σ H=>wi σ H fun J H1=>∃W:Nat->Nat->St->Hp->Prop,(∃m,W 0 m σ H1)/\∀i m σ H,W i m σ H->
 (J.stop i H/\D.nx σ H)\/(J.go i H/\∃N:St->Hp->Prop,(∀σ' H',N σ' H'->∃m',m' < m/\W (i+1) m' σ' H')/\∀x H',J.yld i H x H'->g x σ H' fun σ2 H2=>tb { D with nx:=N,ct:=N,bk:=D.nx } σ2 H2)
def pinsAt (fp:List Addr) (h:Heap):List (Addr×Obj):=fp.filterMap fun b=>(h.get? b).map fun o=>(b,o)
theorem mem_pinsAt {fp:List Addr} {h:Heap} {b:Addr} {o:Obj} (hb:b∈fp) (e:h.get? b=some o):(b,o)∈pinsAt fp h:=List.mem_filterMap.mpr ⟨b,hb,by rw [e];rfl⟩
theorem of_pinsAt {fp:List Addr} {h:Heap} {p:Addr×Obj} (hp:p∈pinsAt fp h):p.1∈fp/\h.get? p.1=some p.2:=by
 obtain ⟨b,hb,e⟩:=List.mem_filterMap.mp hp
 cases q:h.get? b with
 | none=>rw [q] at e;cases e
 | some o=>
  rw [q] at e
  have e':(b,o)=p:=Option.some.inj e
  subst e'
  exact ⟨hb,q⟩
theorem Inv.pinned {pins:List (Addr×Obj)} {σ:St} {H:Hp} {s:Shared} {fp:List Addr} (I:Inv X pins σ H s) (hf:∀b∈fp,FpOk X pins H b) (ho:∀b∈fp,∃o,s.heap.get? b=some o/\∀v,o.data≠.cell v):Inv X (pins++pinsAt fp s.heap) σ H s:=
 I.pins_of fun p hp=>(List.mem_append.mp hp).elim (fun z=>I.pin p (List.mem_append_right _ z)) fun z=>by
  obtain ⟨hb,e⟩:=of_pinsAt z
  obtain ⟨f0,f1,f2,_⟩:=hf p.1 hb
  obtain ⟨o,e',d⟩:=ho p.1 hb
  rw [e] at e';cases e'
  exact ⟨e,f0,f1,f2,d⟩
theorem Inv.unpinned {pins pl:List (Addr×Obj)} {σ:St} {H:Hp} {s:Shared} (I:Inv X (pins++pl) σ H s):Inv X pins σ H s:=I.pins_of fun p hp=>I.pin p (List.mem_append_right _ (List.mem_append_left _ hp))
theorem ps_for {iter:Expr} {body:List Stmt} {wi:TI} {g:TG} {tb:TS} {pos:Pos} (hp:PassesOwn (model X.prog X.w) X.A X.env X.xe) (hc:X.calm=true) (hi:PI X tg iter wi) (hg:PG X tg g) (hb:PSs X body tb)
  (hs:∀x,foldedSetIterable iter X.env x=pure x:=by intro _;rfl):PS X (.For tg iter body [] pos) (tFor wi g tb):=by
 intro pins s σ H D I h
 refine wpAny_For (thn (hi pins s σ H _ I h) fun v s1 h1=>thn h1 fun itv s2 h2=>?_) hs
 obtain ⟨it,fp,tn,J,H2,e,I2,T,st2,f2,W,⟨m0,w0⟩,turn⟩:=h2
 subst e
 have stat:∀{H':Hp},(∀b∈fp,H' b=none)->∀b∈fp,FpOk X pins H' b:=fun hn b hb=>⟨hn b hb,(f2 b hb).2⟩
 refine codeAny_forLoop_any (fun n s'=>∃i σ' H',Inv X pins σ' H' s'/\tn i s'.heap/\(∀b∈fp,H' b=none)/\W i n σ' H') ?_ m0 ⟨0,σ,H2,I2,st2,fun b hb=>(f2 b hb).1,w0⟩
 rintro n s3 ⟨i,σ3,H3,I3,st3,fr3,w3⟩
 rcases turn i n σ3 H3 w3 with ⟨stop,qn⟩ | ⟨go,N,hN,step⟩
 ·refine wpAny_passesOwn hp (thn (T.done X rfl rfl rfl hc i pins s3 σ3 H3 X.xe I3 (stat fr3) st3 stop) fun r s4 ⟨hr,I4⟩=>?_)
  subst hr
  exact wpAny_execs_nil ⟨σ3,H3,I4,qn⟩
 ·refine wpAny_passesOwn hp (thn (T.item X rfl rfl rfl hc i pins s3 σ3 H3 X.xe I3 (stat fr3) st3 go) fun r s4 ⟨u,hr,h4⟩=>?_)
  subst hr
  refine wpAny_passesOwn hp (thn h4 fun _ s5 ⟨x,H5,I5,r5,y5,st5,fr5⟩=>?_)
  have I5':=I5.pinned (stat fr5) (T.obj _ _ st5)
  refine wpAny_passesOwn hp (thn (hg _ s5 σ3 H5 x u _ I5' r5 (step x H5 y5)) fun _ s6 ⟨σ6,H6,I6,q6⟩=>?_)
  refine wpAny_passesOwn hp (thn (hb _ s6 σ6 H6 _ I6 q6) fun f s7 q7=>?_)
  have again:∀{σ7:St} {H7:Hp},Inv X (pins++pinsAt fp s5.heap) σ7 H7 s7->N σ7 H7->∃m,m < n/\∃i σ' H',Inv X pins σ' H' s7/\tn i s7.heap/\(∀b∈fp,H' b=none)/\W i m σ' H':=fun {σ7 H7} I7 n7=>by
   obtain ⟨m',hm,w7⟩:=hN σ7 H7 n7
   refine ⟨m',hm,i+1,σ7,H7,I7.unpinned,T.keep _ _ _ st5 fun b hb o e=>(I7.pin (b,o) (List.mem_append_right _ (List.mem_append_right _ (mem_pinsAt hb e)))).1,fun b hb=>?_,w7⟩
   obtain ⟨o,e,d⟩:=T.obj _ _ st5 b hb
   exact (I7.pin (b,o) (List.mem_append_right _ (List.mem_append_right _ (mem_pinsAt hb e)))).2.1
  cases f with
  | next=>obtain ⟨σ7,H7,I7,n7⟩:=q7;exact again I7 n7
  | cont=>obtain ⟨σ7,H7,I7,n7⟩:=q7;exact again I7 n7
  | brk=>obtain ⟨σ7,H7,I7,q7⟩:=q7;exact ⟨σ7,H7,I7.unpinned,q7⟩
  | ret v=>obtain ⟨x7,σ7,H7,I7,r7,q7⟩:=q7;exact ⟨x7,σ7,H7,I7.unpinned,r7,q7⟩
end
theorem for_list {K:PySem.W.Frag} {a:Addr} {xs:List V} {g:TG} {tb:TS} {D:Ends} {σ:St} {H:Hp} (Pv:Nat->St->Hp->Prop) (h0:Pv 0 σ H) (hl:∀i σ H,i<=xs.length->Pv i σ H->SqL K H a xs)
  (hs:∀i x σ H,xs[i]? = some x->Pv i σ H->g x σ H fun σ2 H2=>tb { D with nx:=Pv (i+1),ct:=Pv (i+1),bk:=D.nx } σ2 H2) (hd:∀σ H,Pv xs.length σ H->D.nx σ H) :
  ∃W:Nat->Nat->St->Hp->Prop,(∃m,W 0 m σ H)/\∀i m σ H,W i m σ H->
   ((Itl K a).stop i H/\D.nx σ H)\/((Itl K a).go i H/\∃N:St->Hp->Prop,(∀σ' H',N σ' H'->∃m',m' < m/\W (i+1) m' σ' H')/\∀x H',(Itl K a).yld i H x H'->g x σ H' fun σ2 H2=>tb { D with nx:=N,ct:=N,bk:=D.nx } σ2 H2):=by
 refine ⟨fun i m σ H=>m=xs.length - i/\i<=xs.length/\Pv i σ H,⟨xs.length,by simp,Nat.zero_le _,h0⟩,?_⟩
 rintro i m σ H ⟨rfl,hi,p⟩
 have q:=hl i σ H hi p
 by_cases hlt:i < xs.length
 ·refine .inr ⟨⟨xs,xs[i],q,by simp [hlt]⟩,Pv (i+1),fun σ' H' p'=>⟨xs.length - (i+1),by lia,rfl,hlt,p'⟩,fun x H' y=>?_⟩
  obtain ⟨e,y⟩:=y
  subst e
  exact hs i x σ _ (y xs q) p
 ·have e:i=xs.length:=by lia
  subst e
  exact .inl ⟨⟨xs,q,Nat.le_refl _⟩,hd σ H p⟩
theorem for_range {lo:Int} {n:Nat} {g:TG} {tb:TS} {D:Ends} {σ:St} {H:Hp} (Pv:Nat->St->Hp->Prop) (h0:Pv 0 σ H)
  (hs:∀i σ H,i < n->Pv i σ H->g (.int (lo+i)) σ H fun σ2 H2=>tb { D with nx:=Pv (i+1),ct:=Pv (i+1),bk:=D.nx } σ2 H2) (hd:∀σ H,Pv n σ H->D.nx σ H) :
  ∃W:Nat->Nat->St->Hp->Prop,(∃m,W 0 m σ H)/\∀i m σ H,W i m σ H->
   ((Itr lo n).stop i H/\D.nx σ H)\/((Itr lo n).go i H/\∃N:St->Hp->Prop,(∀σ' H',N σ' H'->∃m',m' < m/\W (i+1) m' σ' H')/\∀x H',(Itr lo n).yld i H x H'->g x σ H' fun σ2 H2=>tb { D with nx:=N,ct:=N,bk:=D.nx } σ2 H2):=by
 refine ⟨fun i m σ H=>m=n - i/\i<=n/\Pv i σ H,⟨n,by simp,Nat.zero_le _,h0⟩,?_⟩
 rintro i m σ H ⟨rfl,hi,p⟩
 by_cases hlt:i < n
 ·refine .inr ⟨hlt,Pv (i+1),fun σ' H' p'=>⟨n - (i+1),by lia,rfl,hlt,p'⟩,fun x H' y=>?_⟩
  obtain ⟨e,y⟩:=y
  subst e y
  exact hs i σ _ hlt p
 ·have e:i=n:=by lia
  subst e
  exact .inl ⟨Nat.le_refl _,hd σ H p⟩
end L2
namespace L2
open PySem PySem.Spec PyProof.Rows
abbrev R2:=V->V->Hp->VK->Prop
def OpR (X:Cx) (f:Value->Value->Sem Value) (r:R2):Prop:=
 ∀(pins:List (Addr×Obj)) (s:Shared) (σ:St) (H:Hp) (x y:V) (v u:Value) (Q:VK),Inv X pins σ H s->RelV x v->RelV y u->r x y H Q->
  wpAny (model X.prog X.w) X.A (f v u) (EP X pins σ Q) X.xe s
def UnR (X:Cx) (f:Value->Sem Value) (r:V->Hp->VK->Prop):Prop:=
 ∀(pins:List (Addr×Obj)) (s:Shared) (σ:St) (H:Hp) (x:V) (v:Value) (Q:VK),Inv X pins σ H s->RelV x v->r x H Q->
  wpAny (model X.prog X.w) X.A (f v) (EP X pins σ Q) X.xe s
def CallR (X:Cx) (f:Value) (r:List V->Hp->VK->Prop):Prop:=
 ∀(pins:List (Addr×Obj)) (s:Shared) (σ:St) (H:Hp) (xs:List V) (us:List Value) (Q:VK),Inv X pins σ H s->Vals xs us->r xs H Q->
  wpAny (model X.prog X.w) X.A (call f us) (EP X pins σ Q) X.xe s
def tOp (r:R2) (ta tb:TE):TE:=fun σ H Q=>ta σ H fun x H1=>tb σ H1 fun y H2=>r x y H2 Q
def tUn (r:V->Hp->VK->Prop) (ta:TE):TE:=fun σ H Q=>ta σ H fun x H1=>r x H1 Q
def rI (C:Int->Int->Prop) (g:Int->Int->V):R2:=fun x y H Q=>∃i j,x=.int i/\y=.int j/\C i j/\Q (g i j) H
def rI0 (g:Int->Int->V):R2:=fun x y H Q=>∃i j,x=.int i/\y=.int j/\Q (g i j) H
def rU (g:Int->V):V->Hp->VK->Prop:=fun x H Q=>∃i,x=.int i/\Q (g i) H
section
variable {X:Cx} {a b c:Expr} {ta tb tc:TE} {pos:Pos}
theorem binT (ha:PE X a ta) (hb:PE X b tb) {pins:List (Addr×Obj)} {s:Shared} {σ:St} {H:Hp} {R:V->V->Hp->Prop} (I:Inv X pins σ H s)
  (h:ta σ H fun x H1=>tb σ H1 fun y H2=>R x y H2) {Q:Value->Shared->Prop} {f:Value->Value->Sem Value}
  (hf:∀v u s2 x y H2,Inv X pins σ H2 s2->RelV x v->RelV y u->R x y H2->wpAny (model X.prog X.w) X.A (f v u) Q X.xe s2) :
  wpAny (model X.prog X.w) X.A (eval a X.env) (fun v s₁=>wpAny (model X.prog X.w) X.A (eval b X.env) (fun u s₂=>wpAny (model X.prog X.w) X.A (f v u) Q X.xe s₂) X.xe s₁) X.xe s:=by
 refine thn (ha pins s σ H _ I h) fun v s1 ⟨x,H1,I1,r1,q1⟩=>?_
 refine thn (hb pins s1 σ H1 _ I1 q1) fun u s2 ⟨y,H2,I2,r2,q2⟩=>?_
 exact hf v u s2 x y H2 I2 r1 r2 q2
theorem pe_op {op:Operator} {r:R2} (ho:OpR X (binaryOp op) r) (ha:PE X a ta) (hb:PE X b tb):PE X (.BinOp a op b pos) (tOp r ta tb):=by
 intro pins s σ H Q I h
 exact wpAny_BinOp (binT ha hb I h fun v u s2 x y H2 I2 rx ry q=>ho pins s2 σ H2 x y v u Q I2 rx ry q)
theorem pe_un {op:UnaryOp} {r:V->Hp->VK->Prop} (ho:UnR X (unaryOp op) r) (ha:PE X a ta):PE X (.UnaryOp op a pos) (tUn r ta):=by
 intro pins s σ H Q I h
 exact UnaryOp_ (thn (ha pins s σ H _ I h) fun v s1 ⟨x,H1,I1,r1,q1⟩=>ho pins s1 σ H1 x v Q I1 r1 q1)
theorem opI {f:Value->Value->Sem Value} {C:Int->Int->Prop} {g:Int->Int->Int}
  (rule:∀(i j:Int) (t u:Tok) (s:Shared) (Q:Value->Shared->Prop) (E:Value->Shared->Prop),C i j->Q (.int (g i j) s.toks) { s with toks:=s.toks+1 }->wpAny (model X.prog X.w) X.A (f (.int i t) (.int j u)) Q E s) :
  OpR X f (rI C fun i j=>.int (g i j)):=by
 intro pins s σ H x y v u Q I rx ry h
 obtain ⟨i,j,rfl,rfl,hc,q⟩:=h
 obtain ⟨t,rfl⟩:=rx
 obtain ⟨t',rfl⟩:=ry
 exact rule i j t t' s _ _ hc ⟨.int (g i j),H,I.tok _,⟨_,rfl⟩,q⟩
theorem opI0 {f:Value->Value->Sem Value} {g:Int->Int->Int}
  (rule:∀(i j:Int) (t u:Tok) (s:Shared) (Q:Value->Shared->Prop) (E:Value->Shared->Prop),Q (.int (g i j) s.toks) { s with toks:=s.toks+1 }->wpAny (model X.prog X.w) X.A (f (.int i t) (.int j u)) Q E s) :
  OpR X f (rI0 fun i j=>.int (g i j)):=by
 intro pins s σ H x y v u Q I rx ry h
 obtain ⟨i,j,rfl,rfl,q⟩:=h
 obtain ⟨t,rfl⟩:=rx
 obtain ⟨t',rfl⟩:=ry
 exact rule i j t t' s _ _ ⟨.int (g i j),H,I.tok _,⟨_,rfl⟩,q⟩
theorem opB0 {f:Value->Value->Sem Value} {g:Int->Int->Bool}
  (rule:∀(i j:Int) (t u:Tok) (s:Shared) (Q:Value->Shared->Prop) (E:Value->Shared->Prop),Q (.bool (g i j)) s->wpAny (model X.prog X.w) X.A (f (.int i t) (.int j u)) Q E s) :
  OpR X f (rI0 fun i j=>.bl (g i j)):=by
 intro pins s σ H x y v u Q I rx ry h
 obtain ⟨i,j,rfl,rfl,q⟩:=h
 obtain ⟨t,rfl⟩:=rx
 obtain ⟨t',rfl⟩:=ry
 exact rule i j t t' s _ _ ⟨.bl (g i j),H,I,rfl,q⟩
def CDiv (i j:Int):Prop:=0 < j/\j < 1073741824
def CPow (i j:Int):Prop:=0<=j/\j<=1000000/\i.natAbs < 2 ^ 64
def CMul (i j:Int):Prop:=(-(2 ^ 64) < i/\i < 2 ^ 64)\/(-(2 ^ 64) < j/\j < 2 ^ 64)
theorem CMul.ok {i j:Int} (h:CMul i j):IntMulOk i j:=by
 rcases h with ⟨h1,h2⟩ | ⟨h1,h2⟩
 ·exact .of_left (intBits_le_64 h1 h2)
 ·exact .of_right (intBits_le_64 h1 h2)
theorem op_add:OpR X (binaryOp .Add) (rI0 fun i j=>.int (i+j)):=opI0 fun _ _ _ _ _ _ _ q=>add_int q
theorem op_sub:OpR X (binaryOp .Sub) (rI0 fun i j=>.int (i - j)):=opI0 fun _ _ _ _ _ _ _ q=>sub_int q
theorem op_mul:OpR X (binaryOp .Mult) (rI CMul fun i j=>.int (i * j)):=opI fun _ _ _ _ _ _ _ hc q=>mul_int q hc.ok
theorem op_fdiv:OpR X (binaryOp .FloorDiv) (rI CDiv fun i j=>.int (i / j)):=opI fun i j _ _ _ _ _ hc q=>by
 have h1:(0:Int) < j:=hc.1
 have h2:j < 1073741824:=hc.2
 exact floordiv_int (by lia) (by rw [Int.fdiv_eq_ediv_of_nonneg i (by lia)];exact q) (.inl (PyProof.noPylong_small (by lia)))
theorem op_mod:OpR X (binaryOp .Mod) (rI (fun _ j=>0 < j) fun i j=>.int (i % j)):=opI fun i j _ _ _ _ _ hc q=>by
 have h1:(0:Int) < j:=hc
 exact mod_int' (by lia) (by rw [Int.fmod_eq_emod_of_nonneg i (by lia)];exact q)
theorem op_pow:OpR X (binaryOp .Pow) (rI CPow fun i j=>.int (i ^ j.toNat)):=opI fun _ _ _ _ _ _ _ hc q=>pow_int_small hc.1 hc.2.1 hc.2.2 q
theorem unI {f:Value->Sem Value} {g:Int->Int}
  (rule:∀(i:Int) (t:Tok) (s:Shared) (Q:Value->Shared->Prop) (E:Value->Shared->Prop),Q (.int (g i) s.toks) { s with toks:=s.toks+1 }->wpAny (model X.prog X.w) X.A (f (.int i t)) Q E s) :
  UnR X f (rU fun i=>.int (g i)):=by
 intro pins s σ H x v Q I rx h
 obtain ⟨i,rfl,q⟩:=h
 obtain ⟨t,rfl⟩:=rx
 exact rule i t s _ _ ⟨.int (g i),H,I.tok _,⟨_,rfl⟩,q⟩
theorem un_neg:UnR X (unaryOp .USub) (rU fun i=>.int (-i)):=unI fun _ _ _ _ _ q=>neg_int q
end
def scal:V->V->Bool
 | .non,.non=>true | .non,.int _=>true | .int _,.non=>true | .non,.bl _=>true | .bl _,.non=>true | .non,.str _=>true | .str _,.non=>true
 | .int _,.int _=>true | .bl _,.bl _=>true | .str _,.str _=>true | .byt _,.byt _=>true
 | .int _,.str _=>true | .str _,.int _=>true | .bl _,.str _=>true | .str _,.bl _=>true
 | _,_=>false
def rEq:R2:=fun x y H Q=>scal x y=true/\Q (.bl (decide (x=y))) H
def rNe:R2:=fun x y H Q=>scal x y=true/\Q (.bl (!decide (x=y))) H
theorem dec_int {i j:Int}:decide (V.int i=V.int j)=(i == j):=by
 rw [Bool.eq_iff_iff]
 simp
theorem dec_bl {i j:Bool}:decide (V.bl i=V.bl j)=(i == j):=by
 rw [Bool.eq_iff_iff]
 simp
theorem dec_str {i j:Str}:decide (V.str i=V.str j)=(i == j):=by
 rw [Bool.eq_iff_iff]
 simp
theorem dec_byt {i j:Array UInt8}:decide (V.byt i=V.byt j)=(i.toList == j.toList):=by
 rw [Bool.eq_iff_iff]
 cases i
 cases j
 simp
section
variable {X:Cx} {a b c:Expr} {ta tb tc:TE} {pos:Pos}
theorem fin_bl {pins:List (Addr×Obj)} {σ:St} {H:Hp} {s:Shared} {Q:VK} {k k':Bool} (I:Inv X pins σ H s) (q:Q (.bl k) H) (e:k=k'):EP X pins σ Q (.bool k') s:=by
 subst e
 exact ⟨.bl k,H,I,rfl,q⟩
theorem op_eq:OpR X (compareOp .Eq) rEq:=by
 intro pins s σ H x y v u Q I rx ry h
 obtain ⟨hs,q⟩:=h
 cases x with
 | non=>
  cases rx
  cases y with
  | non=>cases ry;exact PySem.EqNone.eq_none_none (fin_bl I q (by simp))
  | bl j=>cases ry;exact PySem.EqNone.eq_none_bool (fin_bl I q (by simp))
  | int j=>obtain ⟨t',rfl⟩:=ry;exact PySem.EqNone.eq_none_int (fin_bl I q (by simp))
  | str j=>obtain ⟨t',rfl⟩:=ry;exact PySem.EqNone.eq_none_str (fin_bl I q (by simp))
  | _=>exact absurd (show false=true from hs) Bool.false_ne_true
 | bl i=>
  cases rx
  cases y with
  | non=>cases ry;exact PySem.EqNone.eq_bool_none (fin_bl I q (by simp))
  | bl j=>cases ry;exact eq_bool (fin_bl I q dec_bl)
  | str j=>obtain ⟨t',rfl⟩:=ry;exact PySem.EqMixed.eq_bool_str (fin_bl I q (by simp))
  | _=>exact absurd (show false=true from hs) Bool.false_ne_true
 | int i=>
  obtain ⟨t,rfl⟩:=rx
  cases y with
  | non=>cases ry;exact PySem.EqNone.eq_int_none (fin_bl I q (by simp))
  | int j=>obtain ⟨t',rfl⟩:=ry;exact eq_int (fin_bl I q dec_int)
  | str j=>obtain ⟨t',rfl⟩:=ry;exact PySem.EqMixed.eq_int_str (fin_bl I q (by simp))
  | _=>exact absurd (show false=true from hs) Bool.false_ne_true
 | str i=>
  obtain ⟨t,rfl⟩:=rx
  cases y with
  | non=>cases ry;exact PySem.EqNone.eq_str_none (fin_bl I q (by simp))
  | bl j=>cases ry;exact PySem.EqMixed.eq_str_bool (fin_bl I q (by simp))
  | int j=>obtain ⟨t',rfl⟩:=ry;exact PySem.EqMixed.eq_str_int (fin_bl I q (by simp))
  | str j=>obtain ⟨t',rfl⟩:=ry;exact eq_str (fin_bl I q dec_str)
  | _=>exact absurd (show false=true from hs) Bool.false_ne_true
 | byt i=>
  obtain ⟨t,rfl⟩:=rx
  cases y with
  | byt j=>obtain ⟨t',rfl⟩:=ry;exact PySem.W.eq_bytes (fin_bl I q dec_byt)
  | _=>exact absurd (show false=true from hs) Bool.false_ne_true
 | _=>cases y <;> exact absurd (show false=true from hs) Bool.false_ne_true
theorem op_ne:OpR X (compareOp .NotEq) rNe:=by
 intro pins s σ H x y v u Q I rx ry h
 obtain ⟨hs,q⟩:=h
 cases x with
 | non=>
  cases rx
  cases y with
  | non=>cases ry;exact PySem.EqNone.ne_none_none (fin_bl I q (by simp))
  | bl j=>cases ry;exact PySem.EqNone.ne_none_bool (fin_bl I q (by simp))
  | int j=>obtain ⟨t',rfl⟩:=ry;exact PySem.EqNone.ne_none_int (fin_bl I q (by simp))
  | str j=>obtain ⟨t',rfl⟩:=ry;exact PySem.EqNone.ne_none_str (fin_bl I q (by simp))
  | _=>exact absurd (show false=true from hs) Bool.false_ne_true
 | bl i=>
  cases rx
  cases y with
  | non=>cases ry;exact PySem.EqNone.ne_bool_none (fin_bl I q (by simp))
  | bl j=>cases ry;exact ne_bool (fin_bl I q (congrArg not dec_bl))
  | str j=>obtain ⟨t',rfl⟩:=ry;exact PySem.EqMixed.ne_bool_str (fin_bl I q (by simp))
  | _=>exact absurd (show false=true from hs) Bool.false_ne_true
 | int i=>
  obtain ⟨t,rfl⟩:=rx
  cases y with
  | non=>cases ry;exact PySem.EqNone.ne_int_none (fin_bl I q (by simp))
  | int j=>obtain ⟨t',rfl⟩:=ry;exact ne_int (fin_bl I q (congrArg not dec_int))
  | str j=>obtain ⟨t',rfl⟩:=ry;exact PySem.EqMixed.ne_int_str (fin_bl I q (by simp))
  | _=>exact absurd (show false=true from hs) Bool.false_ne_true
 | str i=>
  obtain ⟨t,rfl⟩:=rx
  cases y with
  | non=>cases ry;exact PySem.EqNone.ne_str_none (fin_bl I q (by simp))
  | bl j=>cases ry;exact PySem.EqMixed.ne_str_bool (fin_bl I q (by simp))
  | int j=>obtain ⟨t',rfl⟩:=ry;exact PySem.EqMixed.ne_str_int (fin_bl I q (by simp))
  | str j=>obtain ⟨t',rfl⟩:=ry;exact ne_str (fin_bl I q (congrArg not dec_str))
  | _=>exact absurd (show false=true from hs) Bool.false_ne_true
 | byt i=>
  obtain ⟨t,rfl⟩:=rx
  cases y with
  | byt j=>obtain ⟨t',rfl⟩:=ry;exact PySem.W.ne_bytes (fin_bl I q (congrArg not dec_byt))
  | _=>exact absurd (show false=true from hs) Bool.false_ne_true
 | _=>cases y <;> exact absurd (show false=true from hs) Bool.false_ne_true
theorem op_lt:OpR X (compareOp .Lt) (rI0 fun i j=>.bl (decide (i < j))):=opB0 fun _ _ _ _ _ _ _ q=>lt_int q
theorem op_le:OpR X (compareOp .LtE) (rI0 fun i j=>.bl (decide (i<=j))):=opB0 fun _ _ _ _ _ _ _ q=>le_int q
theorem op_gt:OpR X (compareOp .Gt) (rI0 fun i j=>.bl (decide (j < i))):=opB0 fun _ _ _ _ _ _ _ q=>gt_int q
theorem op_ge:OpR X (compareOp .GtE) (rI0 fun i j=>.bl (decide (j<=i))):=opB0 fun _ _ _ _ _ _ _ q=>ge_int q
theorem op_lt_str:OpR X (compareOp .Lt) (fun x y H Q=>∃i j,x=.str i/\y=.str j/\Q (.bl (decide (i.cps.toList < j.cps.toList))) H):=by
 intro pins s σ H x y v u Q I rx ry h
 obtain ⟨i,j,rfl,rfl,q⟩:=h
 obtain ⟨t,rfl⟩:=rx
 obtain ⟨t',rfl⟩:=ry
 exact lt_str (fin_bl I q rfl)
theorem nomark (b:Expr) {op:CmpOp} (h:op≠.In:=by decide) (h2:op≠.NotIn:=by decide):behindInMarks op b=false:=by
 have e1:(op == CmpOp.In)=false:=by cases op <;> first | rfl | exact absurd rfl h
 have e2:(op == CmpOp.NotIn)=false:=by cases op <;> first | rfl | exact absurd rfl h2
 cases b <;> simp [behindInMarks,e1,e2]
theorem pe_cmpR {op:CmpOp} {r:R2} (ho:OpR X (compareOp op) r) (ha:PE X a ta) (hb:PE X b tb) (hm:behindInMarks op b=false):PE X (.Compare a [op] [b] pos) (tOp r ta tb):=by
 intro pins s σ H Q I h
 exact wpAny_Compare1 (binT ha hb I h fun v u s2 x y H2 I2 rx ry q=>ho pins s2 σ H2 x y v u Q I2 rx ry q) hm
def tTest (t:TE):TT:=fun σ H Q=>t σ H fun x H'=>∃k,x=.bl k/\Q k H'
theorem pt_cmpR {op:CmpOp} {r:R2} (ho:OpR X (compareOp op) r) (ha:PE X a ta) (hb:PE X b tb) (hm:behindInMarks op b=false):PT X (.Compare a [op] [b] pos) (tTest (tOp r ta tb)):=by
 intro pins s σ H Q I h
 refine wpAny_isTrue_Compare1 (thn (ha pins s σ H _ I h) fun v s1 ⟨x,H1,I1,r1,q1⟩=>thn (hb pins s1 σ H1 _ I1 q1) fun u s2 ⟨y,H2,I2,r2,q2⟩=>
  thn (ho pins s2 σ H2 x y v u _ I2 r1 r2 q2) fun c s3 ⟨z,H3,I3,r3,k,e,q3⟩=>?_) hm
 subst e
 cases r3
 exact wpAny_truthy_bool ⟨H3,I3,q3⟩
def tChain (r r':R2) (ta tb tc:TE):TE:=fun σ H Q=>ta σ H fun x H1=>tb σ H1 fun y H2=>r x y H2 fun z H3=>∃k,z=.bl k/\
 (if k=true then tc σ H3 fun w' H4=>r' y w' H4 Q else Q (.bl false) H3)
theorem pe_chain {op op':CmpOp} {r r':R2} (ho:OpR X (compareOp op) r) (ho':OpR X (compareOp op') r') (ha:PE X a ta) (hb:PE X b tb) (hc:PE X c tc)
  (hm:lastMarks [op,op'] [b,c]=false:=by with_unfolding_all rfl):PE X (.Compare a [op,op'] [b,c] pos) (tChain r r' ta tb tc):=by
 intro pins s σ H Q I h
 refine Compare_chain (thn (ha pins s σ H _ I h) fun v s1 ⟨x,H1,I1,r1,q1⟩=>chain_link (thn (hb pins s1 σ H1 _ I1 q1) fun u s2 ⟨y,H2,I2,r2,q2⟩=>
  thn (ho pins s2 σ H2 x y v u _ I2 r1 r2 q2) fun d s3 ⟨z,H3,I3,r3,k,e,q3⟩=>?_)) hm
 subst e
 cases r3
 refine wpAny_truthy_bool ?_
 cases k with
 | false=>exact ite_ff ⟨.bl false,H3,I3,rfl,q3⟩
 | true=>exact ite_tt (chain_last (thn (hc pins s3 σ H3 _ I3 q3) fun w' s4 ⟨z',H4,I4,r4,q4⟩=>ho' pins s4 σ H4 y z' u w' Q I4 r2 r4 q4))
theorem pt_chain {op op':CmpOp} {r r':R2} (ho:OpR X (compareOp op) r) (ho':OpR X (compareOp op') r') (ha:PE X a ta) (hb:PE X b tb) (hc:PE X c tc)
  (hm:lastMarks [op,op'] [b,c]=false:=by with_unfolding_all rfl):PT X (.Compare a [op,op'] [b,c] pos) (tTest (tChain r r' ta tb tc)):=by
 intro pins s σ H Q I h
 refine isTrue_chain (thn (ha pins s σ H _ I h) fun v s1 ⟨x,H1,I1,r1,q1⟩=>test_link (thn (hb pins s1 σ H1 _ I1 q1) fun u s2 ⟨y,H2,I2,r2,q2⟩=>
  thn (ho pins s2 σ H2 x y v u _ I2 r1 r2 q2) fun d s3 ⟨z,H3,I3,r3,k,e,q3⟩=>?_)) hm
 subst e
 cases r3
 refine wpAny_truthy_bool ?_
 cases k with
 | false=>
  obtain ⟨k',e',q'⟩:=q3
  cases e'
  exact ite_ff ⟨H3,I3,q'⟩
 | true=>
  refine ite_tt (test_last (thn (hc pins s3 σ H3 _ I3 q3) fun w' s4 ⟨z',H4,I4,r4,q4⟩=>thn (ho' pins s4 σ H4 y z' u w' _ I4 r2 r4 q4) fun d' s5 ⟨z2,H5,I5,r5,k2,e2,q5⟩=>?_))
  subst e2
  cases r5
  exact wpAny_truthy_bool ⟨H5,I5,q5⟩
theorem line63:(sizeLine:Nat) < 2 ^ 63:=by rw [sizeLine_eq];decide
theorem op_add_str:OpR X (binaryOp .Add) (fun x y H Q=>∃i j,x=.str i/\y=.str j/\i.length+j.length<=sizeLine/\Q (.str (i++j)) H):=by
 intro pins s σ H x y v u Q I rx ry h
 obtain ⟨i,j,rfl,rfl,hz,q⟩:=h
 obtain ⟨t,rfl⟩:=rx
 obtain ⟨t',rfl⟩:=ry
 exact add_str (fun t' tk=>⟨.str (i++j),H,I.tok _,⟨_,rfl⟩,q⟩) hz
theorem vals1 {x:V} {us:List Value} (r:Vals [x] us):∃u,us=[u]/\RelV x u:=by
 cases r with
 | cons r1 r2=>cases r2;exact ⟨_,rfl,r1⟩
theorem call_abs:CallR X (.builtin "abs") (fun xs H Q=>∃i,xs=[.int i]/\Q (.int (if i < 0 then -i else i)) H):=by
 intro pins s σ H xs us Q I r h
 obtain ⟨i,rfl,q⟩:=h
 obtain ⟨u,rfl,t,rfl⟩:=vals1 r
 exact call_abs_int fun u tk=>⟨.int (if i < 0 then -i else i),H,I.tok _,⟨_,rfl⟩,q⟩
end
end L2
namespace L2
open PySem PySem.Spec PyProof.Rows
structure ObjM (h:Heap) (x dx C:Addr) (mA:Str->Option Value):Prop where
 obj:h.get? x=some (PySem.W.instObj C dx)
 ns:h.Ns1 dx mA
 ne:dx≠x
theorem lookIn_ns {h:Heap} {dx:Addr} {mA:Str->Option Value} (n:h.Ns1 dx mA):∃od,h.get? dx=some od/\∀name,PySem.W.lookIn name od=some (mA name):=by
 obtain ⟨o,es,ep,ho,hd,hk,_,hm⟩:=n
 refine ⟨o,ho,fun name=>?_⟩
 have e:=hm name
 unfold nsFind findBy at e
 rw [<-Array.find?_toList] at e
 unfold PySem.W.lookIn
 rw [hd]
 dsimp only
 split
 ·rename_i y q
  rw [q] at e
  exact congrArg some e
 ·rename_i q
  rw [q] at e
  have a:es.toList.any (·.refKey)=false:=by
   rw [List.any_eq_false]
   intro y hy
   obtain ⟨z,t,hkey⟩:=hk y (Array.mem_toList_iff.mp hy)
   simp [DictEntry.refKey,hkey]
  have a':¬es.toList.any (·.refKey)=true:=by rw [a];exact Bool.false_ne_true
  rw [if_neg a']
  exact congrArg some e
theorem ObjM.look {h:Heap} {x dx C:Addr} {mA:Str->Option Value} (I:ObjM h x dx C mA):∃od,PySem.W.InstAt h x (PySem.W.instObj C dx) C (some od)/\∀name,PySem.W.lookIn name od=some (mA name):=
 let ⟨od,ho,hl⟩:=lookIn_ns I.ns
 ⟨od,⟨I.obj,rfl,rfl,ho⟩,hl⟩
section
variable {prog:Program} {w:World} {A:Around} {E:Value->Shared->Prop} {s:Shared} {K:PySem.W.Frag} {x dx C f:Addr} {mA:Str->Option Value} {name:Str} {v:Value}
end
section
variable {P:Program} {w:World} {H H':Hp} {h h':Heap} {a C dx:Addr} {fs fs':List (Str×V)}
theorem ins_get (hok:HOk P w H h) (e:H a=some (.ins C dx fs)):∃mA,ObjM h a dx C mA/\(∀f,RelO (fs.lookup f) (mA f))/\PySem.Within mA (fs.map (·.1))/\fs.length<=1000/\H dx=some (.own a):=by
 obtain ⟨d,z,ne,ob,mA,n,r,q⟩:=(show ObjOk P w H h a (.ins C dx fs) from hok a _ e)
 exact ⟨mA,⟨ob,n,ne⟩,r,q,z,d⟩
end
structure Cls (K:PySem.W.Frag) (C:Addr):Prop where
 pg:PySem.W.plainGet K C Str.empty=true
 hd:PySem.W.hasDictIn K C=true
 po:PySem.W.plainOver K C=true
 sa:PySem.W.findIn K (.ref C) "__setattr__" = some (some (.builtin "object.__setattr__"))
theorem Cls.get {K:PySem.W.Frag} {C:Addr} (c:Cls K C) (f:Str):PySem.W.plainGet K C f=true:=c.pg
section
variable {X:Cx} {pins:List (Addr×Obj)} {σ:St} {H:Hp} {s:Shared} {a C dx:Addr} {fs:List (Str×V)} {f:Str} {v:V} {A:Around} {E:Value->Shared->Prop}
end
section
variable {X:Cx} {o e value:Expr} {f:Str} {pos pos' tpos:Pos} {ta tv:TE}
end
section
variable {X:Cx} {pins:List (Addr×Obj)} {σ:St} {H:Hp} {s:Shared} {A:Around} {E:Value->Shared->Prop} {Q:Value->Shared->Prop} {c:Value} {b:Bool}
inductive TyOf (K:PySem.W.Frag) (H:Hp):V->Value->Prop where
 | non:TyOf K H .non (.type "NoneType")
 | bl (x:Bool):TyOf K H (.bl x) (.type "bool")
 | int (i:Int):TyOf K H (.int i) (.type "int")
 | str (x:Str):TyOf K H (.str x) (.type "str")
 | flt (x:UInt64):TyOf K H (.flt x) (.type "float")
 | lst {a:Addr} {xs:List V} (e:H a=some (.lst xs)):TyOf K H (.ref a) (.type "list")
 | frz {a:Addr} {o:Obj} {xs:List V} (e:H a=some (.frz o (.lst xs))):TyOf K H (.ref a) (.type "list")
 | tup {a:Addr} {xs:List V} (e:H a=some (.tup xs)):TyOf K H (.ref a) (.type "tuple")
 | dK {a:Addr} {kvs:List (Key×V)} (e:H a=some (.dK kvs)):TyOf K H (.ref a) (.type "dict")
 | dT {a:Addr} {kvs:List (List Key×V)} (e:H a=some (.dT kvs)):TyOf K H (.ref a) (.type "dict")
 | ins {a C dx:Addr} {fs:List (Str×V)} (e:H a=some (.ins C dx fs)) (cl:Cls K C) (ha:PySem.W.findIn K (.ref C) "__class__" = some (some (.builtin "object.__class__")))
   (hn:PySem.W.specialIn K (.builtin "object.__class__") "__get__" = some (some (.builtin "getset_descriptor.__get__"))) (htk:PySem.W.takesIn K (.builtin "object.__class__")=some true)
   (hm:PySem.W.mroIn K C (.type "object")=some true):TyOf K H (.ref a) (.ref C)
theorem isinst_ok {x:V} {u t:Value} (I:Inv X pins σ H s) (rx:RelV x u) (ty:TyOf X.K H x t) (e:PySem.W.kitOne X.K t c=some b) (h:∀tk,Q (.bool b) { s with toks:=tk }) :
  wpAny (model X.prog X.w) A (call (.builtin "isinstance") [u,c]) Q E s:=by
 cases ty with
 | non=>cases (show u=Value.none from rx);exact PySem.W.kia_one PySem.W.kitx_none I.kIn True.intro e (fun z=>nomatch z) h
 | bl y=>cases (show u=Value.bool y from rx);exact PySem.W.kia_one PySem.W.kitx_bool I.kIn True.intro e (fun z=>nomatch z) h
 | int i=>obtain ⟨t,q⟩:=(show ∃t,u=Value.int i t from rx);cases q;exact PySem.W.kia_one PySem.W.kitx_int I.kIn True.intro e (fun z=>nomatch z) h
 | str y=>obtain ⟨t,q⟩:=(show ∃t,u=Value.str y t from rx);cases q;exact PySem.W.kia_one PySem.W.kitx_str I.kIn True.intro e (fun z=>nomatch z) h
 | flt y=>obtain ⟨t,q⟩:=(show ∃t,u=Value.float y t from rx);cases q;exact PySem.W.kia_one PySem.W.kitx_float I.kIn True.intro e (fun z=>nomatch z) h
 | @lst a xs ea=>
  cases (show u=Value.ref a from rx)
  obtain ⟨_,_,n,_,h1⟩:=(show ObjOk X.prog X.w H s.heap a (.lst xs) from I.hok a _ ea)
  exact PySem.W.kia_one PySem.W.kitx_list I.kIn ⟨_,h1,rfl⟩ e (fun z=>nomatch z) h
 | @frz a ob xs ea=>
  cases (show u=Value.ref a from rx)
  obtain ⟨_,_,_,n,_,h1⟩:=(show ObjOk X.prog X.w H s.heap a (.frz ob (.lst xs)) from I.hok a _ ea)
  exact PySem.W.kia_one PySem.W.kitx_list I.kIn ⟨_,h1,rfl⟩ e (fun z=>nomatch z) h
 | @tup a xs ea=>
  cases (show u=Value.ref a from rx)
  obtain ⟨_,_,_,p⟩:=(show ObjOk X.prog X.w H s.heap a (.tup xs) from I.hok a _ ea)
  obtain ⟨o,h1,h2,_⟩:=p
  exact PySem.W.kia_one PySem.W.kitx_tuple I.kIn ⟨o,h1,h2⟩ e (fun z=>nomatch z) h
 | @dK a kvs ea=>
  cases (show u=Value.ref a from rx)
  obtain ⟨_,_,vs,_,p⟩:=(show ObjOk X.prog X.w H s.heap a (.dK kvs) from I.hok a _ ea)
  obtain ⟨o,es,ep,h1,h2,_⟩:=p
  exact PySem.W.kia_one PySem.W.kitx_dict I.kIn ⟨o,h1,h2.1⟩ e (fun z=>nomatch z) h
 | @dT a kvs ea=>
  cases (show u=Value.ref a from rx)
  obtain ⟨_,_,xs,_,o,es,ep,h1,h2,_⟩:=(show ObjOk X.prog X.w H s.heap a (.dT kvs) from I.hok a _ ea)
  exact PySem.W.kia_one PySem.W.kitx_dict I.kIn ⟨o,h1,h2.1⟩ e (fun z=>nomatch z) h
 | @ins a C dx fs ea cl ha hn htk hm=>
  cases (show u=Value.ref a from rx)
  obtain ⟨mA,O,_⟩:=ins_get I.hok ea
  obtain ⟨od,J,_⟩:=O.look
  exact PySem.W.kia_one (PySem.W.kitx_own (cl.get _) cl.hd ha hn htk hm) I.kIn J e (fun z=>nomatch z) h
end
end L2
namespace L2
open PySem PySem.Spec PyProof.Rows
structure Room (k:Nat) (A:Around):Prop where
 hd:A.handled=none
 dp:A.depth+3 * k+5 < recursionLimit
 un:A.units+16 * k+200 < cLine
theorem Room.mono {j k:Nat} {A:Around} (r:Room k A) (h:j<=k):Room j A:=⟨r.hd,by have:=r.dp;lia,by have:=r.un;lia⟩
theorem Room.deeper {k:Nat} {A:Around} (r:Room (k+1) A) (env:Env):Room k (A.deeper env):=
 ⟨r.hd,by have:=r.dp;show A.depth+1+3 * k+5 < _;lia,by have:=r.un;show A.units+3+16 * k+200 < _;lia⟩
theorem Room.depth {k:Nat} {A:Around} (r:Room k A):A.depth < recursionLimit:=by have:=r.dp;lia
theorem Room.units {k:Nat} {A:Around} (r:Room k A):A.units+64 < cLine:=by have:=r.un;lia
theorem Room.units0 {k:Nat} {A:Around} (r:Room k A):A.units < cLine:=by have:=r.un;lia
def tNil:TA:=fun _ H Q=>Q [] H
def tCons (ta:TE) (tr:TA):TA:=fun σ H Q=>ta σ H fun x H1=>tr σ H1 fun xs H2=>Q (x::xs) H2
section
variable {X:Cx} {e:Expr} {es:List Expr} {te:TE} {t:TA} {pos:Pos}
theorem pa_nil:PA X [] tNil:=fun _ _ _ _ H Q I h=>Calls.spliced_nil ⟨[],H,I,.nil,h⟩
theorem pa_cons (ha:PE X e te) (hr:PA X es t) (hs:starEach (e::es) X.env=(false,eval e X.env)::starEach es X.env:=by rfl):PA X (e::es) (tCons te t):=by
 intro pos pins s σ H Q I h
 rw [hs]
 show wpAny _ _ (spliced ((false,eval e X.env)::backTo pos (starEach es X.env))) _ _ s
 refine Calls.spliced_cons (thn (ha pins s σ H _ I h) fun u s1 ⟨x,H1,I1,r1,q1⟩=>?_)
 exact thn (hr pos pins s1 σ H1 _ I1 q1) fun us s2 ⟨xs,H2,I2,r2,q2⟩=>⟨x::xs,H2,I2,.cons r1 r2,q2⟩
def tTup (t:TA):TE:=fun σ H Q=>t σ H fun xs H1=>xs.length<=sizeLine/\∀p,H1 p=none->Q (.ref p) (upd H1 p (.tup xs))
def tLst (t:TA):TE:=fun σ H Q=>t σ H fun xs H1=>xs.length<=sizeLine/\∀p,H1 p=none->Q (.ref p) (upd H1 p (.lst xs))
theorem pe_tup {x1} (h:PA X es t):PE X (.Tuple es x1 pos) (tTup t):=by
 intro pins s σ H Q I hq
 refine wpAny_Tuple_spliced (thn (h pos pins s σ H _ I hq) fun us s1 ⟨xs,H1,I1,r,z,q⟩=>⟨by rw [<-r.length];exact z,?_⟩)
 have hf:H1 s1.heap.objs.size=none:=I1.hok.fresh (Nat.le_refl _)
 refine ⟨.ref s1.heap.objs.size,upd H1 s1.heap.objs.size (.tup xs),I1.laid (t':=s1.toks) (fun b u e=>Heap.get?_push_of_some _ e) (Nat.le_refl _) ?_,rfl,q _ hf⟩
 exact ⟨z,us,r,⟨_,Heap.get?_push_size _ rfl,rfl,_,rfl⟩⟩
theorem pe_lst (h:PA X es t):PE X (.List es pos) (tLst t):=by
 intro pins s σ H Q I hq
 refine wpAny_List_spliced (thn (h pos pins s σ H _ I hq) fun us s1 ⟨xs,H1,I1,r,z,q⟩=>⟨by rw [<-r.length];exact z,?_⟩)
 have hf:H1 s1.heap.objs.size=none:=I1.hok.fresh (Nat.le_refl _)
 refine ⟨.ref s1.heap.objs.size,upd H1 s1.heap.objs.size (.lst xs),I1.laid (t':=s1.toks) (fun b u e=>Heap.get?_push_of_some _ e) (Nat.le_refl _) ?_,rfl,q _ hf⟩
 exact ⟨z,us,0,r,Heap.get?_push_size _ rfl⟩
end
abbrev Sp:=List V->Hp->VK->XK->Prop
abbrev CXT:=List Env->Hp->Shared->XK->Value->Shared->Prop
structure Env0 (P:Program) (w:World) (K:PySem.W.Frag) (mg:Str->Option Value) (base:Heap) (A:Around) (outer:List Env) (s:Shared) (H:Hp):Prop where
 frames:A.frames=some outer
 mod:Mod K mg base
 bs:∀b o,base.get? b=some o->s.heap.get? b=some o/\H b=none
 bsz:base.objs.size<=s.heap.objs.size
 funs:s.heap.FunFrames base outer
 frf:∀b∈frs outer,H b=none
 hok:HOk P w H s.heap
 bare:AllBare s.gens
def CE (outer:List Env) (P:Program) (w:World) (H:Hp) (s:Shared) (Q:VK) (u:Value) (s':Shared):Prop:=
 ∃v H',s'.os=s.os/\AllBare s'.gens/\Un (frs outer) [] H H' s.heap s'.heap/\HOk P w H' s'.heap/\RelV v u/\Q v H'
def CR (CX:CXT) (outer:List Env) (P:Program) (w:World) (H:Hp) (s:Shared) (Q:VK) (E:XK) (r:Result) (s':Shared):Prop:=
 match r with
 | .ok (.ret u)=>CE outer P w H s Q u s'
 | .ok _=>False
 | .error e=>CX outer H s E e s'
structure FnOk (P:Program) (w:World) (K:PySem.W.Frag) (mg:Str->Option Value) (base:Heap) (CX:CXT) (k:Nat) (f:Addr) (fd:FuncData) (ps:List Str) (sp:Sp):Prop where
 len:∀vs H Q E,sp vs H Q E->vs.length=ps.length
 run:∀(A:Around) (outer:List Env) (s:Shared) (H:Hp) (args:Args) (us:List Value) (vs:List V) (Q:VK) (E:XK),Room k A->Env0 P w K mg base A outer s H->BindsTo s fd args (ps.zip us)->Vals vs us->sp vs H Q E->
  codeAny (model P w) A (.call (.ref f) args) (CR CX outer P w H s Q E) s
section
variable {X:Cx} {pins:List (Addr×Obj)} {σ:St} {H:Hp} {s s':Shared}
theorem Inv.env0 (I:Inv X pins σ H s):Env0 X.prog X.w X.K X.mg X.base X.A X.stack s H:=
 ⟨I.ok.frames,I.ok.mod,I.bs,Nat.le_trans I.ok.bsz I.sz,I.stack,I.stkFree,I.hok,I.bare⟩
theorem Inv.after {Q:VK} {u:Value} (I:Inv X pins σ H s) (h:CE X.stack X.prog X.w H s Q u s'):EP X pins σ Q u s':=by
 obtain ⟨v,H',os,bare,un,hok,r,q⟩:=h
 obtain ⟨hh,g,d,t,os'⟩:=s'
 obtain rfl:os'=s.os:=os
 exact ⟨v,H',I.call (h':=hh) (g':=g) (d':=d) (t':=t) (ch:=[]) un hok bare (fun b z=>absurd z (by simp)),r,q⟩
end
def tCall (sp:Sp) (dvs:List V) (E:XK) (t:TA):TE:=fun σ H Q=>t σ H fun vs H1=>sp (vs++dvs) H1 Q E
def Binds (K:PySem.W.Frag) (fd:FuncData) (ps:List Str) (ds:List Value):Prop:=
 ∀(s:Shared) (us:List Value),K.In s.heap->(us++ds).length=ps.length->BindsTo s fd ⟨us,[]⟩ (ps.zip (us++ds))
theorem Binds.all {K:PySem.W.Frag} {fd:FuncData} {ps:List Str} (h:∀us:List Value,us.length=ps.length->bindArgs fd ⟨us,[]⟩=pure (ps.zip us)):Binds K fd ps []:=fun s us _ hl=>by
 rw [List.append_nil] at hl ⊢
 exact .of_eq (h us hl)
def Passes (CX:CXT) (X:Cx) (E:XK):Prop:=∀(pins:List (Addr×Obj)) (σ:St) (H:Hp) (s:Shared) (e:Value) (s':Shared),Inv X pins σ H s->CX X.stack H s E e s'->X.xe e s'
section
variable {X:Cx} {CX:CXT} {k:Nat} {f C:Addr} {fd:FuncData} {ps:List Str} {sp:Sp} {dvs:List V} {ds:List Value} {E:XK} {x m:Str} {p pos apos:Pos} {e o:Expr} {es:List Expr} {ta:TE} {t:TA}
theorem run_fn {pins:List (Addr×Obj)} {σ:St} {H:Hp} {s:Shared} {Q:VK} {us:List Value} {vs:List V} (F:FnOk X.prog X.w X.K X.mg X.base CX k f fd ps sp) (hr:Room k X.A) (hb:Binds X.K fd ps ds) (hd:Vals dvs ds) (hx:Passes CX X E)
  (I:Inv X pins σ H s) (r:Vals vs us) (h:sp (vs++dvs) H Q E):wpAny (model X.prog X.w) X.A (call (.ref f) us) (EP X pins σ Q) X.xe s:=by
 have r2:Vals (vs++dvs) (us++ds):=r.append hd
 have hl:(us++ds).length=ps.length:=by rw [<-r2.length];exact F.len _ _ _ _ h
 refine wpAny_call (codeAny_mono (F.run X.A X.stack s H ⟨us,[]⟩ (us++ds) (vs++dvs) Q E hr I.env0 (hb s us I.kIn hl) r2 h) fun r s' hq=>?_)
 cases r with
 | error e=>exact hx pins σ H s e s' I hq
 | ok fl=>
  cases fl with
  | ret u=>exact I.after hq
  | next=>exact False.elim hq
  | brk=>exact False.elim hq
  | cont=>exact False.elim hq
theorem pe_call (F:FnOk X.prog X.w X.K X.mg X.base CX k f fd ps sp) (hr:Room k X.A) (hg:Gl X x) (hm:X.mg x=some (.ref f)) (hk:PySem.W.keepIn X.K (.ref f)=true) (hb:Binds X.K fd ps ds) (hd:Vals dvs ds) (hx:Passes CX X E)
  (ha:PA X (e::es) t) (hdb:(x == ("__debug__" : Str))=false:=by decide) (he:starEach (e::es) X.env=(false,eval e X.env)::starEach es X.env:=by rfl) (hpl:(backTo pos (starEach es X.env)).any (·.1)=false:=by rfl) :
  PE X (.Call (.Name x p) (e::es) [] pos) (tCall sp dvs E t):=by
 intro pins s σ H Q I h
 refine wpAny_Call_Name_kw (ld_glob I hg hm ?_ hdb)
 refine PySem.W.callWith_K (h₀:=X.base) I.ok.mod.kin hk (thn (ha pos pins s σ H _ I h) fun us s1 ⟨vs,H1,I1,r,q⟩=>⟨I1.kIn,?_⟩) he hpl
 exact run_fn F hr hb hd hx I1 r q
end
section
variable {X:Cx} {CX:CXT} {k:Nat} {f C:Addr} {fd:FuncData} {ps ks:List Str} {sp:Sp} {E:XK} {x m:Str} {p pos apos kpos:Pos} {e o:Expr} {es:List Expr} {kws:List Keyword} {te ta:TE} {t tk:TA} {nm:Option Str}
variable {g:List Value->List Value->List Value} {gV:List V->List V->List V}
end
structure FnScope (N P:List Str) (sc:Scope):Prop where
 kind:sc.kind=.function
 co:sc.isCoroutine=false
 gen:sc.isGenerator=false
 nd:N.Nodup
 pre:N.take P.length=P
 par:∀x∈P,sc.names.lookup x=some .local\/sc.names.lookup x=some .cell
 nofree:∀y∈sc.names,y.2≠.free
theorem bindL_out {kindOf:Str->Option NameKind} {x:Str}:∀{binds:List (Str×Value)} {m:Str->Option Value},(∀v,(x,v)∉binds)->bindL kindOf binds m x=m x
 | [],_,_=>rfl
 | (n,v)::r,m,h=>by
  unfold bindL
  rw [bindL_out fun w hw=>h w (List.mem_cons_of_mem _ hw)]
  split
  ·have:x≠n:=by rintro rfl;exact h v List.mem_cons_self
   simp [this]
  ·rfl
theorem bindC_out {kindOf:Str->Option NameKind} {x:Str}:∀{binds:List (Str×Value)} {m:Str->Option Value},(∀v,(x,v)∉binds)->bindC kindOf binds m x=m x
 | [],_,_=>rfl
 | (n,v)::r,m,h=>by
  unfold bindC
  rw [bindC_out fun w hw=>h w (List.mem_cons_of_mem _ hw)]
  split
  ·rfl
  ·have:x≠n:=by rintro rfl;exact h v List.mem_cons_self
   simp [this]
theorem bindL_get {kindOf:Str->Option NameKind} {x:Str} {v:Value}:∀{P:List Str} {vs:List Value} {i:Nat} {m:Str->Option Value},P.Nodup->P[i]? = some x->vs[i]? = some v->kindOf x=some .local->
  bindL kindOf (P.zip vs) m x=some v
 | [],_,_,_,_,h,_,_=>by simp at h
 | _::_,[],_,_,_,_,h,_=>by simp at h
 | p::P,w::vs,0,m,nd,h1,h2,hk=>by
  simp at h1 h2;subst h1;subst h2
  show bindL kindOf ((p,w)::P.zip vs) m p=_
  unfold bindL
  rw [bindL_out fun v hv=>(List.nodup_cons.mp nd).1 (List.of_mem_zip hv).1,if_pos hk]
  simp
 | p::P,w::vs,i+1,m,nd,h1,h2,hk=>by
  show bindL kindOf ((p,w)::P.zip vs) m x=_
  unfold bindL
  exact bindL_get (i:=i) (List.nodup_cons.mp nd).2 (by simpa using h1) (by simpa using h2) hk
theorem bindC_get {kindOf:Str->Option NameKind} {x:Str} {v:Value}:∀{P:List Str} {vs:List Value} {i:Nat} {m:Str->Option Value},P.Nodup->P[i]? = some x->vs[i]? = some v->kindOf x≠some .local->
  bindC kindOf (P.zip vs) m x=some v
 | [],_,_,_,_,h,_,_=>by simp at h
 | _::_,[],_,_,_,_,h,_=>by simp at h
 | p::P,w::vs,0,m,nd,h1,h2,hk=>by
  simp at h1 h2;subst h1;subst h2
  show bindC kindOf ((p,w)::P.zip vs) m p=_
  unfold bindC
  rw [bindC_out fun v hv=>(List.nodup_cons.mp nd).1 (List.of_mem_zip hv).1,if_neg hk]
  simp
 | p::P,w::vs,i+1,m,nd,h1,h2,hk=>by
  show bindC kindOf ((p,w)::P.zip vs) m x=_
  unfold bindC
  exact bindC_get (i:=i) (List.nodup_cons.mp nd).2 (by simpa using h1) (by simpa using h2) hk
def start (N:List Str) (vs:List V):St:=vs.map some++List.replicate (N.length - vs.length) none
def cxOf (CX:CXT) (P:Program) (w:World) (K:PySem.W.Frag) (mg:Str->Option Value) (base:Heap) (N:List Str) (qual:Str) (scope:Scope) (f:Addr) (cd:Value) (A:Around) (outer:List Env) (s:Shared) (H:Hp) (E:XK):Cx where
 prog:=P
 w:=w
 K:=K
 mg:=mg
 base:=base
 A:=A.deeper (envOfC qual scope s.heap.objs.size f cd)
 N:=N
 s₀:=s
 H₀:=H
 env:=envOfC qual scope s.heap.objs.size f cd
 outer:=outer
 stack:=envOfC qual scope s.heap.objs.size f cd::outer
 ex:=[]
 calm:=true
 fn:=fun _=>true
 pn:=[]
 xe:=fun e s'=>wpAny (model P w) (A.deeper (envOfC qual scope s.heap.objs.size f cd)) (leaving (envOfC qual scope s.heap.objs.size f cd) e) (fun _ s''=>CX outer H s E e s'') (fun e' s''=>CX outer H s E e' s'') s'
theorem cell_has {sc:Scope} {n:Nat} {x:Str} (h:sc.names.lookup x=some .cell):∃c,(cellsFrom n sc.names []).lookup x=some c:=by
 have q:=PySem.W.cellsFrom_some sc.names n [] (.inl h)
 exact Option.isSome_iff_exists.mp q
theorem inv_start {CX:CXT} {P:Program} {w:World} {K:PySem.W.Frag} {mg:Str->Option Value} {base:Heap} {N ps:List Str} {qual:Str} {scope:Scope} {f:Addr} {cd:Value} {A:Around} {outer:List Env} {s s1:Shared} {H:Hp} {E:XK} {us:List Value} {vs:List V}
  (S:FnScope N ps scope) (hd:A.handled=none) (e0:Env0 P w K mg base A outer s H) (hl:vs.length=ps.length) (r:Vals vs us)
  (x:InCallC s s.heap.objs.size (bindL (envOfC qual scope s.heap.objs.size f cd).kindOf (ps.zip us) fun _=>none) (cellsFrom (s.heap.objs.size+1) scope.names []) (bindC (envOfC qual scope s.heap.objs.size f cd).kindOf (ps.zip us) fun _=>none) s1) :
  Inv (cxOf CX P w K mg base N qual scope f cd A outer s H E) [] (start N vs) H s1:=by
 have hpl:ps.length<=N.length:=by have:=congrArg List.length S.pre;rw [List.length_take] at this;lia
 obtain ⟨h1,tk,rfl,hk⟩:=x.done
 have noA:∀b:Addr,b∉(cxOf CX P w K mg base N qual scope f cd A outer s H E).ex:=fun b z=>absurd (show b∈([]:List Addr) from z) (by simp)
 refine ⟨⟨e0.mod,S.kind,rfl,rfl,Nat.le_refl _,fun y z c h1 h2=>?_,fun y hy=>?_,fun y c _ h=>?_,fun _=>hd,Around.frames_deeper e0.frames,.inr ⟨rfl,rfl⟩,fun b z=>absurd z (noA b),e0.bs,e0.bsz,fun b _ _=>noA b,fun b z=>absurd z (noA b),e0.funs,e0.frf⟩,
  rfl,e0.bare,Un.kept hk,⟨_,x.toInCall.ns,fun i y v h1 h2 h3=>?_⟩,fun y c h=>⟨_,x.cell y c h⟩,e0.hok.fresh (Nat.le_refl _),fun y c h=>?_,fun p hp=>absurd (show p∈([]:List (Addr×Obj)) from hp) (by simp),e0.hok.kept hk,?_⟩
 ·exact name_of_addr x.apart (PySem.mem_of_lookup h1) (PySem.mem_of_lookup h2)
 ·have hy:scope.names.lookup y=some .cell\/scope.names.lookup y=some .free:=hy
  rcases hy with hy | hy
  ·exact cell_has hy
  ·exact absurd rfl (S.nofree _ (PySem.mem_of_lookup hy))
 ·exact Nat.le_of_lt (x.above y c (PySem.mem_of_lookup h))
 ·have hi:i < vs.length:=by
   unfold start at h2
   by_cases hi:i < vs.length
   ·exact hi
   ·rw [List.getElem?_append_right (by simpa using hi)] at h2
    rw [List.getElem?_replicate] at h2
    split at h2 <;> cases h2
  have ha:vs[i]? = some v:=by
   unfold start at h2
   rw [List.getElem?_append_left (by simpa using hi),List.getElem?_map] at h2
   cases e:vs[i]? with
   | none=>rw [e] at h2;cases h2
   | some a=>rw [e] at h2;cases h2;rfl
  obtain ⟨u,hu,rv⟩:=r.get ha
  have hp:ps[i]? = some y:=by
   rw [<-S.pre,List.getElem?_take_of_lt (by lia)];exact h1
  have ndP:ps.Nodup:=by rw [<-S.pre];exact S.nd.sublist (List.take_sublist _ _)
  refine ⟨u,rv,?_⟩
  rcases S.par y (List.mem_of_getElem? hp) with k | k
  ·exact .inl ⟨k,bindL_get ndP hp hu k⟩
  ·obtain ⟨c,e⟩:=cell_has (n:=s.heap.objs.size+1) k
   refine .inr ⟨.inl k,c,e,?_⟩
   have q:=x.cell y c e
   rw [bindC_get ndP hp hu (by show scope.names.lookup y≠_;rw [k];decide)] at q
   exact q
 ·exact e0.hok.fresh (Nat.le_of_lt (x.above y c (PySem.mem_of_lookup h)))
 ·unfold start
  show _=N.length
  rw [List.length_append,List.length_map,List.length_replicate]
  lia
theorem fn_of {CX:CXT} {P:Program} {w:World} {K:PySem.W.Frag} {mg:Str->Option Value} {base:Heap} {k:Nat} {f:Addr} {name qual:Str} {params:Arguments} {body:List Stmt} {scope:Scope} {dV kV doc pm cdv ct oc:Value} {an od:Option Addr}
  {osl:Array (Option Value)} {N ps:List Str} {sp:Sp} (lk:K.lookup f=some ⟨oc,od,.func (PySem.W.fnOf name qual params body scope dV kV doc pm an cdv ct),osl⟩) (hcd:PySem.W.codeIn K cdv qual=true) (S:FnScope N ps scope)
  (len:∀vs H Q E,sp vs H Q E->vs.length=ps.length)
  (hbody:∀(A:Around) (outer:List Env) (s:Shared) (H:Hp) (vs:List V) (Q:VK) (E:XK),Room k (A.deeper (envOfC qual scope s.heap.objs.size f cdv))->sp vs H Q E->
   ∃t,PSs (cxOf CX P w K mg base N qual scope f cdv A outer s H E) body t/\t { nx:=fun _ H'=>Q .non H',rt:=Q } (start N vs) H) :
  FnOk P w K mg base CX (k+1) f (PySem.W.fnOf name qual params body scope dV kV doc pm an cdv ct) ps sp:=by
 refine ⟨len,fun A outer s H args us vs Q E hr e0 hb r hsp=>?_⟩
 have hl:=len _ _ _ _ hsp
 have KX:K.In s.heap:=e0.mod.kin.keeps fun b o e=>(e0.bs b o e).1
 have lim:s.heap.NoLimit:=e0.mod.nolimit.keeps fun b o e=>(e0.bs b o e).1
 have hkind:∀y∈ps.zip us,scope.names.lookup y.1=some .local\/(scope.names.lookup y.1=some .cell/\((cellsFrom (s.heap.objs.size+1) scope.names []).lookup y.1).isSome=true):=fun ⟨n,v⟩ hy=>by
  rcases S.par n (List.of_mem_zip hy).1 with q | q
  ·exact .inl q
  ·exact .inr ⟨q,PySem.W.cellsFrom_some _ _ _ (.inl q)⟩
 refine codeAny_call_function hr.depth (KX _ _ lk) rfl S.co S.gen rfl (PySem.W.codeRec_of KX hcd) (hb _ _ _ _ ?_)
 refine wpAny_newFunctionEnv_cells S.kind hkind fun env he s1 x=>?_
 subst he
 refine ⟨lim.keeps x.toInCall.keep,codeAny_func ?_⟩
 obtain ⟨t,ht,hq⟩:=hbody A outer s H vs Q E (hr.deeper _) hsp
 have I:Inv (cxOf CX P w K mg base N qual scope f cdv A outer s H E) [] (start N vs) H s1:=inv_start S hr.hd e0 hl r x
 refine wpAny_mono (ht [] s1 (start N vs) H _ I hq) (fun fl s' hs=>?_) fun e s' hs=>hs
 have fin:∀{σ':St} {H':Hp} {v:V} {u:Value},Inv (cxOf CX P w K mg base N qual scope f cdv A outer s H E) [] σ' H' s'->RelV v u->Q v H'->CE outer P w H s Q u s':=
  fun {σ' H' v u} J rv q=>⟨v,H',J.os,J.bare,J.base,J.hok,rv,q⟩
 cases fl with
 | ret u=>
  obtain ⟨v,σ',H',J,rv,q⟩:=hs
  exact fin J rv q
 | next=>
  obtain ⟨σ',H',J,q⟩:=hs
  exact fin (v:=V.non) (u:=Value.none) J rfl q
 | brk=>
  obtain ⟨_,_,_,q⟩:=hs
  exact False.elim q
 | cont=>
  obtain ⟨_,_,_,q⟩:=hs
  exact False.elim q
end L2
namespace L2
open PySem PySem.Spec PyProof.Rows
section
variable {X:Cx} {x:Str} {p pos:Pos} {e:Expr} {es:List Expr} {t:TA} {id T:String} {r:List V->Hp->VK->Prop}
def tCB (r:List V->Hp->VK->Prop) (t:TA):TE:=fun σ H Q=>t σ H fun vs H1=>r vs H1 Q
theorem pe_callB (hc:CallR X (.builtin id) r) (hg:Gl X x) (hm:X.mg x=none) (hv:bootBuiltins x=some (.builtin id)) (ha:PA X (e::es) t) (hn:x≠"__name__":=by decide) (hdb:(x == ("__debug__" : Str))=false:=by decide)
  (he:starEach (e::es) X.env=(false,eval e X.env)::starEach es X.env:=by rfl) (hpl:(backTo pos (starEach es X.env)).any (·.1)=false:=by rfl):PE X (.Call (.Name x p) (e::es) [] pos) (tCB r t):=by
 intro pins s σ H Q I h
 refine wpAny_Call_Name_kw (ld_blt I hg hm hv ?_ hn hdb)
 exact PyProof.Rows.callWith_builtin1 (thn (ha pos pins s σ H _ I h) fun us s1 ⟨vs,H1,I1,r1,q1⟩=>hc pins s1 σ H1 vs us Q I1 r1 q1) he hpl
theorem pe_callTy (hc:CallR X (.type T) r) (hg:Gl X x) (hm:X.mg x=none) (hv:bootBuiltins x=some (.type T)) (ha:PA X (e::es) t) (hn:x≠"__name__":=by decide) (hdb:(x == ("__debug__" : Str))=false:=by decide)
  (he:starEach (e::es) X.env=(false,eval e X.env)::starEach es X.env:=by rfl) (hpl:(backTo pos (starEach es X.env)).any (·.1)=false:=by rfl):PE X (.Call (.Name x p) (e::es) [] pos) (tCB r t):=by
 intro pins s σ H Q I h
 refine wpAny_Call_Name_kw (ld_blt I hg hm hv ?_ hn hdb)
 exact PyProof.Rows.callWith_type1 (thn (ha pos pins s σ H _ I h) fun us s1 ⟨vs,H1,I1,r1,q1⟩=>hc pins s1 σ H1 vs us Q I1 r1 q1) he hpl
end
end L2
namespace HT
open PySem PyProof.Rows
section
open PySem.SeqAt
open PySem.AutoSeq1 (wpAny_loadPart')
open PySem.MeetsSeq PySem.MeetsSeq2 PySem.MeetsSeq3
end
section
variable {prog:Program} {w:World} {A:Around} {E:Value->Shared->Prop} {s:Shared}
theorem cat_tup {t b:Addr} {vs ws:List Value} {Q:Value->Shared->Prop} (ht:IsTup s.heap t vs.toArray) (hb:IsTup s.heap b ws.toArray) (hv:vs≠[])
  (h1:ws=[]->Q (.ref t) s) (h2:ws≠[]->Q (.ref s.heap.objs.size) { s with heap:=s.heap.push { cls:=.type "tuple",data:=.seq (vs++ws).toArray } })
  (hsz:vs.length+ws.length<=sizeLine):wpAny (model prog w) A (binaryOp .Add (.ref t) (.ref b)) Q E s:=by
 obtain ⟨⟨cls,dd,data,sl⟩,ho,hc,n,hd⟩:=id ht
 obtain ⟨⟨cls2,dd2,data2,sl2⟩,ho2,hc2,n2,hd2⟩:=id hb
 simp only at hc hd hc2 hd2
 subst hc hd hc2 hd2
 have e:vs.toArray++ws.toArray=(vs++ws).toArray:=by simp
 by_cases hw:ws=[]
 ·exact concat_meets ⟨_,ho,rfl⟩ ⟨_,ho2,rfl⟩ noFill_tuple_add seq_tuple_add PySem.F.slot_tuple_add PySem.F.entry_tuple_add (PySem.F.args_tuple_add_2 _ _)
   (tuple_addW1 t b vs.toArray ws.toArray n n2 dd dd2 sl sl2 (by simpa using hv) (by simp [hw])) ⟨ho,ho2,h1 hw⟩
 ·refine concat_meets ⟨_,ho,rfl⟩ ⟨_,ho2,rfl⟩ noFill_tuple_add seq_tuple_add PySem.F.slot_tuple_add PySem.F.entry_tuple_add (PySem.F.args_tuple_add_2 _ _)
   (tuple_addW2 t b vs.toArray ws.toArray n n2 dd dd2 sl sl2 (by simpa using hv) (by simpa using hw) (by rw [List.size_toArray,List.size_toArray];exact hsz)) ⟨ho,ho2,?_⟩
  rw [e]
  exact h2 hw
def sIx (n d:Nat):Option Int->Nat
 | none=>d
 | some v=>if v < 0 then (v+(n:Int)).toNat else min v.toNat n
theorem sIx_nat (n d k:Nat):sIx n d (some (k:Int))=min k n:=by
 show (if (k:Int) < 0 then ((k:Int)+(n:Int)).toNat else min (k:Int).toNat n)=min k n
 rw [if_neg (by lia),Int.toNat_natCast]
theorem sIx_le (n d:Nat) (hd:d<=n) (o:Option Int):sIx n d o<=n:=by
 cases o with
 | none=>exact hd
 | some v=>
  show (if v < 0 then (v+(n:Int)).toNat else min v.toNat n)<=n
  by_cases hv:v < 0
  ·rw [if_pos hv];lia
  ·rw [if_neg hv];exact Nat.min_le_right _ _
theorem clip_eq (v:Int) (n d:Nat):(if v < 0 then max (v+(n:Int)) 0 else min v (n:Int))=((sIx n d (some v):Nat):Int):=by
 show (if v < 0 then max (v+(n:Int)) 0 else min v (n:Int))=(((if v < 0 then (v+(n:Int)).toNat else min v.toNat n):Nat):Int)
 by_cases hv:v < 0
 ·simp only [if_pos hv];lia
 ·simp only [if_neg hv];lia
theorem adjust_gen (lo hi:Option Int) (n:Nat):Builtin.Slice.sliceAdjust lo hi 1 (n:Int)=(((sIx n 0 lo:Nat):Int),((sIx n n hi:Nat):Int)):=by
 have h1:¬((1:Int) < 0):=by lia
 unfold Builtin.Slice.sliceAdjust
 simp only [h1,if_false]
 refine Prod.ext ?_ ?_
 ·cases lo with
  | none=>rfl
  | some v=>exact clip_eq v n 0
 ·cases hi with
  | none=>rfl
  | some v=>exact clip_eq v n n
theorem places_gen (i j:Nat):Builtin.Slice.slicePlaces (i:Int) (j:Int) 1=j - i:=by
 unfold Builtin.Slice.slicePlaces
 have h1:(1:Int) > 0:=by lia
 simp only [h1,if_true,Int.ediv_one]
 split <;> lia
theorem slicePart_ {v:Value} {o:Option Int} {Q:Option Int->Shared->Prop} (p:IsPart v o) (h:Q o s):wpAny (model prog w) A (Builtin.Slice.slicePartIndex v) Q E s:=by
 cases p with
 | none=>exact slicePart_none h
 | int i t=>exact slicePart_int h
theorem sliceApplied_gen {sl:Addr} {vl vu:Value} {lo hi:Option Int} {n:Nat} {Q:Int×Int×Nat->Shared->Prop} (hs:s.heap.IsSliceOf sl vl vu .none) (pl:IsPart vl lo) (pu:IsPart vu hi)
  (h:Q (((sIx n 0 lo:Nat):Int),1,sIx n n hi - sIx n 0 lo) s):wpAny (model prog w) A (Builtin.Slice.sliceApplied (.ref sl) (pure (n:Int))) Q E s:=by
 obtain ⟨os,hos,hcs,hds⟩:=id hs
 unfold Builtin.Slice.sliceApplied Builtin.Slice.sliceFields
 refine wpAny_bind (wpAny_bind (wpAny_field hos hds (x:=vl) rfl (wpAny_bind (wpAny_field hos hds (x:=vu) rfl (wpAny_bind (wpAny_field hos hds (x:=.none) rfl (wpAny_pure ?_)))))))
 refine wpAny_bind (slicePart_none ?_)
 show wpAny _ _ (if ((1:Int) == 0)=true then _ else _) _ _ s
 rw [if_neg (by decide)]
 refine wpAny_bind (slicePart_ pl (wpAny_bind (slicePart_ pu (wpAny_bind (wpAny_pure ?_)))))
 show wpAny _ _ (match Builtin.Slice.sliceAdjust lo hi 1 (n:Int) with | (lo,hi)=>pure (lo,(1:Int),Builtin.Slice.slicePlaces lo hi 1)) _ _ s
 rw [adjust_gen lo hi n]
 show wpAny _ _ (pure (((sIx n 0 lo:Nat):Int),(1:Int),Builtin.Slice.slicePlaces ((sIx n 0 lo:Nat):Int) ((sIx n n hi:Nat):Int) 1)) _ _ s
 rw [places_gen]
 exact wpAny_pure h
theorem pick_gen (xs:Array Value) (i k:Nat):((List.range k).filterMap fun (m:Nat)=>xs[((i:Int)+(m:Int) * 1).toNat]?).toArray=((xs.toList.drop i).take k).toArray:=by
 have e:(fun (m:Nat)=>xs[((i:Int)+(m:Int) * 1).toNat]?)=fun m=>xs[i+m]?:=by
  funext m
  have:((i:Int)+(m:Int) * 1).toNat=i+m:=by lia
  rw [this]
 rw [e]
 have:=pick_run xs i k
 rw [List.filterMap_map] at this
 have e2:((fun x=>xs[x]?) ∘ fun x=>i+x)=fun m=>xs[i+m]?:=rfl
 rw [e2] at this
 rw [this]
theorem getItem_tuple_cut {t sl:Addr} {items:Array Value} {vl vu:Value} {lo hi:Option Int} {Q:Value->Shared->Prop} (ht:IsTup s.heap t items) (hs:s.heap.IsSliceOf sl vl vu .none) (pl:IsPart vl lo) (pu:IsPart vu hi)
  (hw:¬(sIx items.size 0 lo=0/\sIx items.size items.size hi=items.size))
  (h:Q (.ref s.heap.objs.size) { s with heap:=s.heap.push { cls:=.type "tuple",data:=.seq ((items.toList.drop (sIx items.size 0 lo)).take (sIx items.size items.size hi - sIx items.size 0 lo)).toArray } })
  (hsz:items.size<=sizeLine):wpAny (model prog w) A (getItem (.ref t) (.ref sl)) Q E s:=by
 have htake:sizeOk (.seq ((items.toList.drop (sIx items.size 0 lo)).take (sIx items.size items.size hi - sIx items.size 0 lo)).toArray):=by
  show ((items.toList.drop (sIx items.size 0 lo)).take (sIx items.size items.size hi - sIx items.size 0 lo)).toArray.size<=sizeLine
  rw [List.size_toArray,List.length_take,List.length_drop,Array.length_toList]
  lia
 have hj:sIx items.size items.size hi<=items.size:=sIx_le _ _ (Nat.le_refl _) hi
 obtain ⟨os,hos,hcs,hds⟩:=id hs
 have hTs:s.TypeIs (.ref sl) "slice":=⟨os,hos,hcs⟩
 unfold getItem
 try with_reducible refine wpAny_holding ?_
 first | refine wpAny_bind (wpAny_pure ?_) | skip
 refine wpAny_bind (wpAny_sequenceKey ht.typeIs (by decide) ?_)
 refine wpAny_bind (wpAny_callSpecial?_slot (name:=Str.ofString "__getitem__") ht.typeIs PyProof.Rows.slot_tuple_getitem
  (wpAny_call_entry PyProof.Rows.slot_tuple_getitem ht.typeIs entry_tuple_getitem ?_ (args_tuple_getitem _ _)))
 show wpAny _ _ (Builtin.Tuple.tupleItemsOf (.ref t) >>= _) _ _ s
 refine wpAny_bind (tupleItemsOf_ ht ?_)
 refine wpAny_bind (wpAny_typeOf hTs ?_)
 rw [if_pos (by decide)]
 refine wpAny_bind (sliceApplied_gen hs pl pu ?_)
 have hno:¬((((sIx items.size 0 lo:Nat):Int) == 0 && (1:Int) == 1 && (sIx items.size items.size hi - sIx items.size 0 lo) == items.size)=true):=by
  intro q
  rw [Bool.and_eq_true,Bool.and_eq_true] at q
  have q1:((sIx items.size 0 lo:Nat):Int)=0:=eq_of_beq q.1.1
  have q2:sIx items.size items.size hi - sIx items.size 0 lo=items.size:=eq_of_beq q.2
  exact hw ⟨by lia,by lia⟩
 show wpAny _ _ (if (((sIx items.size 0 lo:Nat):Int) == 0 && (1:Int) == 1 && (sIx items.size items.size hi - sIx items.size 0 lo) == items.size)=true then _ else _) _ _ s
 rw [if_neg hno,pick_gen]
 first
  | exact wpAny_bind (m:=Builtin.Tuple.tupleExact _) (wpAny_newObj_type (wpAny_pure ⟨_,rfl,wpAny_pure h⟩) htake)
  | exact wpAny_bind (m:=Builtin.Tuple.tupleExact _) (wpAny_newObj_type (wpAny_bind (wpAny_pure (wpAny_pure ⟨_,rfl,wpAny_pure h⟩))) htake)
  | exact wpAny_bind (wpAny_bind (m:=Builtin.Tuple.tupleExact _) (wpAny_newObj_type (wpAny_pure (wpAny_pure ⟨_,rfl,wpAny_pure h⟩)) htake))
  | exact wpAny_bind (wpAny_bind (m:=Builtin.Tuple.tupleExact _) (wpAny_newObj_type (wpAny_pure ⟨_,rfl,wpAny_pure h⟩) htake))
end
end HT
namespace L2
open PySem PySem.Spec PyProof.Rows
abbrev TO:=St->Hp->(Option Int->Hp->Prop)->Prop
def PO (X:Cx) (e:Option Expr) (t:TO):Prop:=
 ∀(pins:List (Addr×Obj)) (s:Shared) (σ:St) (H:Hp) (Q:Option Int->Hp->Prop),Inv X pins σ H s->t σ H Q->
  wpAny (model X.prog X.w) X.A (evalPart e X.env) (fun u s'=>∃o H',Inv X pins σ H' s'/\IsPart u o/\Q o H') X.xe s
def tNoPart:TO:=fun _ H Q=>Q none H
def tPart (t:TE):TO:=fun σ H Q=>t σ H fun x H1=>∃i,x=.int i/\Q (some i) H1
section
variable {X:Cx} {e:Expr} {te:TE} {lo hi:Option Expr} {tl th:TO} {pos p2:Pos}
theorem po_none:PO X none tNoPart:=by
 intro pins s σ H Q I h
 rw [evalPart_none]
 exact wpAny_pure ⟨none,H,I,.none,h⟩
theorem po_some (h:PE X e te):PO X (some e) (tPart te):=by
 intro pins s σ H Q I hw
 rw [evalPart_some]
 refine thn (h pins s σ H _ I hw) fun u s1 ⟨x,H1,I1,r1,q1⟩=>?_
 obtain ⟨i,rfl,q⟩:=q1
 obtain ⟨t,rfl⟩:=r1
 exact ⟨some i,H1,I1,.int i t,q⟩
def SlR (X:Cx) (r:V->Option Int->Option Int->Hp->VK->Prop):Prop:=
 ∀(pins:List (Addr×Obj)) (s:Shared) (σ:St) (H:Hp) (x:V) (v vl vu:Value) (lo hi:Option Int) (sl:Addr) (Q:VK),Inv X pins σ H s->RelV x v->s.heap.IsSliceOf sl vl vu .none->IsPart vl lo->IsPart vu hi->r x lo hi H Q->
  ∃T id,typeLookup (.type T) "__getitem__" = pure (some (.builtin id))/\s.TypeIs v T/\wpAny (model X.prog X.w) X.A (getItem v (.ref sl)) (EP X pins σ Q) X.xe s
def tSl (r:V->Option Int->Option Int->Hp->VK->Prop) (te:TE) (tl th:TO):TE:=fun σ H Q=>te σ H fun x H1=>tl σ H1 fun l H2=>th σ H2 fun u H3=>r x l u H3 Q
theorem pe_slice {r:V->Option Int->Option Int->Hp->VK->Prop} (hr:SlR X r) (he:PE X e te) (hl:PO X lo tl) (hu:PO X hi th):PE X (.Subscript e (.Slice lo hi none p2) pos) (tSl r te tl th):=by
 intro pins s σ H Q I h
 refine Subscript_ (thn (he pins s σ H _ I h) fun v s1 ⟨x,H1,I1,r1,q1⟩=>?_)
 refine wpAny_Slice (thn (hl pins s1 σ H1 _ I1 q1) fun vl s2 ⟨l,H2,I2,pl,q2⟩=>thn (hu pins s2 σ H2 _ I2 q2) fun vu s3 ⟨u,H3,I3,pu,q3⟩=>?_)
 rw [evalPart_none]
 refine wpAny_pure ?_
 have I4:Inv X pins σ H3 { s3 with heap:=s3.heap.push { cls:=.type "slice",data:=.fields #[vl,vu,.none] } }:=I3.kept (t':=s3.toks) fun b ob q=>Heap.get?_push_of_some _ q
 obtain ⟨T,id,hT,ht,hg⟩:=hr pins { s3 with heap:=s3.heap.push { cls:=.type "slice",data:=.fields #[vl,vu,.none] } } σ H3 x v vl vu l u s3.heap.objs.size Q I4 r1 (Heap.IsSliceOf.new ..) pl pu q3
 show wpAny (model X.prog X.w) X.A (subscriptTail e (.Slice lo hi none p2) v (.ref s3.heap.objs.size)) (EP X pins σ Q) X.xe { s3 with heap:=s3.heap.push { cls:=.type "slice",data:=.fields #[vl,vu,.none] } }
 exact tail_any (ops:=[.ref s3.heap.objs.size,v]) ht hT hg (by with_unfolding_all rfl)
def cutV (xs:List V) (lo hi:Option Int):List V:=(xs.drop (HT.sIx xs.length 0 lo)).take (HT.sIx xs.length xs.length hi - HT.sIx xs.length 0 lo)
theorem cutV_length (xs:List V) (lo hi:Option Int):(cutV xs lo hi).length<=xs.length:=by
 unfold cutV
 rw [List.length_take,List.length_drop]
 lia
def rSlT (K:PySem.W.Frag):V->Option Int->Option Int->Hp->VK->Prop:=fun x lo hi H Q=>∃a xs,x=.ref a/\SqT K H a xs/\
 ¬(HT.sIx xs.length 0 lo=0/\HT.sIx xs.length xs.length hi=xs.length)/\∀p,H p=none->Q (.ref p) (upd H p (.tup (cutV xs lo hi)))
theorem sl_tup:SlR X (rSlT X.K):=by
 intro pins s σ H x v vl vu lo hi sl Q I rx hs pl pu h
 obtain ⟨a,xs,rfl,hx,hw,q⟩:=h
 cases rx
 obtain ⟨its,r,ht,hz⟩:=I.tuple hx
 have hlen:its.toArray.size=xs.length:=by rw [List.size_toArray];exact r.length.symm
 refine ⟨"tuple",_,PyProof.Rows.slot_tuple_getitem.lookup,ht.typeIs,?_⟩
 refine HT.getItem_tuple_cut ht hs pl pu (by rw [hlen];exact hw) ?_ (by rw [hlen];exact hz)
 rw [hlen]
 refine ⟨.ref s.heap.objs.size,_,I.laid (t':=s.toks) (o:=.tup (cutV xs lo hi)) (fun b ob q=>Heap.get?_push_of_some _ q) (Nat.le_refl _) ?_,rfl,q _ (I.hok.fresh (Nat.le_refl _))⟩
 exact ⟨Nat.le_trans (cutV_length xs lo hi) hz,_,(r.drop (HT.sIx xs.length 0 lo)).take (HT.sIx xs.length xs.length hi - HT.sIx xs.length 0 lo),IsTup.new _ _⟩
def rCatT (K:PySem.W.Frag):R2:=fun x y H Q=>∃a b xs ys,x=.ref a/\y=.ref b/\SqT K H a xs/\SqT K H b ys/\xs≠[]/\xs.length+ys.length<=sizeLine/\
 (ys=[]->Q (.ref a) H)/\(ys≠[]->∀p,H p=none->Q (.ref p) (upd H p (.tup (xs++ys))))
theorem Vals.nil_iff {xs:List V} {us:List Value} (r:Vals xs us):us=[]↔xs=[]:=by
 cases r with
 | nil=>simp
 | cons _ _=>simp
theorem op_catT:OpR X (binaryOp .Add) (rCatT X.K):=by
 intro pins s σ H x y v u Q I rx ry h
 obtain ⟨a,b,xs,ys,rfl,rfl,ha,hb,hx,hz,q1,q2⟩:=h
 cases rx
 cases ry
 obtain ⟨its,r1,p1,_⟩:=I.tuple ha
 obtain ⟨its2,r2,p2,_⟩:=I.tuple hb
 refine HT.cat_tup p1 p2 (fun z=>hx (r1.nil_iff.mp z)) (fun z=>⟨.ref a,H,I,rfl,q1 (r2.nil_iff.mp z)⟩) (fun z=>?_) (by rw [<-r1.length,<-r2.length];exact hz)
 refine ⟨.ref s.heap.objs.size,_,I.laid (t':=s.toks) (o:=.tup (xs++ys)) (fun b ob q=>Heap.get?_push_of_some _ q) (Nat.le_refl _) ?_,rfl,q2 (fun w=>z (r2.nil_iff.mpr w)) _ (I.hok.fresh (Nat.le_refl _))⟩
 exact ⟨by rw [List.length_append];exact hz,_,r1.append r2,IsTup.new _ _⟩
end
end L2
namespace L2
open PySem PySem.Spec PyProof.Rows
def ixN (n:Nat) (i:Int):Option Nat:=if 0<=i then (if i < n then some i.toNat else none) else if -(n:Int)<=i then some (i+n).toNat else none
def atI {α:Type} (xs:List α) (i:Int):Option α:=(ixN xs.length i).bind fun j=>xs[j]?
theorem ixN_seq {n:Nat} {i:Int} {j:Nat} (h:ixN n i=some j):seqIndex? i n=some j/\j < n/\-(n:Int)<=i/\i < n:=by
 unfold ixN at h
 by_cases h0:0<=i
 ·rw [if_pos h0] at h
  by_cases h1:i < n
  ·rw [if_pos h1] at h
   have e:i.toNat=j:=Option.some.inj h
   exact ⟨by rw [seqIndex_of h0 h1,e],by lia,by lia,h1⟩
  ·rw [if_neg h1] at h;cases h
 ·rw [if_neg h0] at h
  by_cases h1 : -(n:Int)<=i
  ·rw [if_pos h1] at h
   have e:(i+n).toNat=j:=Option.some.inj h
   exact ⟨by rw [seqIndex_neg (by lia) h1,e],by lia,h1,by lia⟩
  ·rw [if_neg h1] at h;cases h
theorem atI_get {α:Type} {xs:List α} {i:Int} {v:α} (h:atI xs i=some v):∃j,seqIndex? i xs.length=some j/\xs[j]? = some v/\j < xs.length/\-(xs.length:Int)<=i/\i < xs.length:=by
 unfold atI at h
 cases e:ixN xs.length i with
 | none=>rw [e] at h;cases h
 | some j=>
  rw [e] at h
  obtain ⟨h1,h2,h3,h4⟩:=ixN_seq e
  exact ⟨j,h1,h,h2,h3,h4⟩
theorem atI_nat {α:Type} {xs:List α} {j:Nat} {v:α} (h:xs[j]? = some v):atI xs (j:Int)=some v:=by
 have hj:j < xs.length:=(List.getElem?_eq_some_iff.mp h).1
 have e:ixN xs.length (j:Int)=some j:=by
  unfold ixN
  rw [if_pos (by lia),if_pos (by lia)];simp
 unfold atI;rw [e];exact h
def PlainIx (b:Expr):Prop:=∀o i,subscripted b false o i=operate [o,i] (getItem o i)
def IxR (X:Cx) (r:R2):Prop:=
 ∀(value slice:Expr) (pins:List (Addr×Obj)) (s:Shared) (σ:St) (H:Hp) (x y:V) (v u:Value) (Q:VK),Inv X pins σ H s->RelV x v->RelV y u->r x y H Q->
  subscripted slice false v u=operate [v,u] (getItem v u)->wpAny (model X.prog X.w) X.A (subscriptTail value slice v u) (EP X pins σ Q) X.xe s
def MtR (X:Cx) (id:String) (r:V->List V->Hp->VK->Prop):Prop:=
 ∀(pins:List (Addr×Obj)) (s:Shared) (σ:St) (H:Hp) (x:V) (xs:List V) (v:Value) (us:List Value) (Q:VK),Inv X pins σ H s->RelV x v->Vals xs us->r x xs H Q->
  wpAny (model X.prog X.w) X.A (call (.builtin id) (v::us)) (EP X pins σ Q) X.xe s
section
variable {X:Cx} {a b:Expr} {ta tb:TE} {pos:Pos}
theorem pe_ix {r:R2} (hr:IxR X r) (ha:PE X a ta) (hb:PE X b tb) (hs:PlainIx b):PE X (.Subscript a b pos) (tOp r ta tb):=by
 intro pins s σ H Q I h
 exact Subscript_ (binT ha hb I h fun v u s2 x y H2 I2 rx ry q=>hr a b pins s2 σ H2 x y v u Q I2 rx ry q (hs _ _))
def rIxL (K:PySem.W.Frag):R2:=fun x y H Q=>∃p xs i v,x=.ref p/\y=.int i/\SqL K H p xs/\atI xs i=some v/\Q v H
def rIxT (K:PySem.W.Frag):R2:=fun x y H Q=>∃p xs i v,x=.ref p/\y=.int i/\SqT K H p xs/\atI xs i=some v/\Q v H
def rIxS:R2:=fun x y H Q=>∃z i c,x=.str z/\y=.int i/\z.length<=sizeLine/\atI z.cps.toList i=some c/\Q (.str ⟨#[c]⟩) H
theorem ix_list:IxR X (rIxL X.K):=by
 intro value slice pins s σ H x y v u Q I rx ry h hs
 obtain ⟨p,xs,i,z,rfl,rfl,hq,he,q⟩:=h
 cases rx
 obtain ⟨t,rfl⟩:=ry
 obtain ⟨its,r,pl,hz⟩:=I.list hq
 obtain ⟨j,h1,h2,h3,h4,h5⟩:=atI_get he
 obtain ⟨w,ew,rw'⟩:=r.get h2
 have hl:=r.length
 have hn:=line63
 have fin:EP X pins σ Q w s:=⟨z,H,I,rw',q⟩
 by_cases h0:0<=i
 ·have hj:i.toNat=j:=by
   rw [seqIndex_of h0 h5] at h1
   exact Option.some.inj h1
  exact item_listR pl.isList h0 (by lia) (by rw [hj];simpa using ew) fin hs
 ·have hj:(i+(its.toArray.size:Int)).toNat=j:=by
   rw [seqIndex_neg (by lia) h4] at h1
   rw [List.size_toArray,<-hl]
   exact Option.some.inj h1
  exact subscriptTail_builtinR (x:=w) pl.isList.typeIs slot_list_getitem.lookup
   (wpAny_getItem_list_neg (Q:=fun r s'=>r=w/\EP X pins σ Q r s') pl.isList (by lia) (by rw [List.size_toArray] <;> lia) (by lia) (by rw [hj];simpa using ew) ⟨rfl,fin⟩) hs
theorem ix_tup:IxR X (rIxT X.K):=by
 intro value slice pins s σ H x y v u Q I rx ry h hs
 obtain ⟨p,xs,i,z,rfl,rfl,hq,he,q⟩:=h
 cases rx
 obtain ⟨t,rfl⟩:=ry
 obtain ⟨its,r,pl,hz⟩:=I.tuple hq
 obtain ⟨j,h1,h2,h3,h4,h5⟩:=atI_get he
 obtain ⟨w,ew,rw'⟩:=r.get h2
 have hl:=r.length
 have hn:=line63
 have fin:EP X pins σ Q w s:=⟨z,H,I,rw',q⟩
 exact subscriptTail_builtinR (x:=w) pl.typeIs slot_tuple_getitem.lookup
  (getItem_tuple (j:=j) (Q:=fun r s'=>r=w/\EP X pins σ Q r s') pl (by lia) (by lia) (by rw [List.size_toArray,<-hl];exact h1) (by simpa using ew) ⟨rfl,fin⟩) hs
theorem ix_str:IxR X rIxS:=by
 intro value slice pins s σ H x y v u Q I rx ry h hs
 obtain ⟨z,i,c,rfl,rfl,hz,he,q⟩:=h
 obtain ⟨t,rfl⟩:=rx
 obtain ⟨t',rfl⟩:=ry
 obtain ⟨j,h1,h2,h3,h4,h5⟩:=atI_get he
 have hl:z.cps.toList.length=z.length:=by simp [Str.length]
 rw [hl] at h1 h4 h5
 have hn:=line63
 exact tail_any (typeIs_str s z t) slot_str_getitem.lookup (getItem_str (c:=c) (by
  have e1:decide (i < -(2 ^ 63:Int))=false:=decide_eq_false (by lia)
  have e2:decide (i>=2 ^ 63)=false:=decide_eq_false (by lia)
  rw [e1,e2,Bool.or_false]) (by rw [h1];simpa using h2) ⟨.str ⟨#[c]⟩,H,I.tok _,⟨_,rfl⟩,q⟩) hs
theorem mapSeq_set (its:List Value) (n j:Nat) (u:Value):Obj.mapSeq (·.setIfInBounds j u) { cls:=.type "list",data:=.seq its.toArray n }={ cls:=.type "list",data:=.seq (its.set j u).toArray n }:=by
 simp [Obj.mapSeq]
theorem Inv.lst {pins:List (Addr×Obj)} {σ:St} {H:Hp} {s:Shared} {p:Addr} {xs:List V} (I:Inv X pins σ H s) (h:H p=some (.lst xs)) :
  ∃(its:List Value) (n:Nat),Vals xs its/\s.heap.get? p=some { cls:=.type "list",data:=.seq its.toArray n }/\xs.length<=sizeLine:=by
 obtain ⟨z,its,n,r,e⟩:=I.hok p _ h
 exact ⟨its,n,r,e,z⟩
theorem Inv.lstUpd {pins:List (Addr×Obj)} {σ:St} {H:Hp} {s:Shared} {p:Addr} {xs ys:List V} {its its':List Value} {n n':Nat} {f:Obj->Obj} (I:Inv X pins σ H s) (h:H p=some (.lst xs))
  (ho:s.heap.get? p=some { cls:=.type "list",data:=.seq its.toArray n }) (hf:f { cls:=.type "list",data:=.seq its.toArray n }={ cls:=.type "list",data:=.seq its'.toArray n' }) (r:Vals ys its') (hz:ys.length<=sizeLine) (t:Nat) :
  Inv X pins σ (upd H p (.lst ys)) { s with heap:=s.heap.update p f,toks:=t }:=by
 have e:(s.heap.update p f).get? p=some { cls:=.type "list",data:=.seq its'.toArray n' }:=by
  rw [Heap.get?_update_self f ho (by rw [hf] <;> rfl),hf]
 refine I.write (x:=p) (e:=p) (by rw [h];trivial) (.inl rfl) (fun b u hb q=>(Heap.get?_update_other _ _ (Ne.symm hb)).trans q) ⟨_,e⟩ ?_
 exact ⟨hz,its',n',r,e⟩
def rSetL:V->V->V->Hp->(Hp->Prop)->Prop:=fun o i v H Q=>∃p xs k j,o=.ref p/\i=.int k/\H p=some (.lst xs)/\ixN xs.length k=some j/\Q (upd H p (.lst (xs.set j v)))
theorem set_list:PSet X rSetL:=by
 intro pins s σ H o i v ov iv u Q I ro ri rv h
 obtain ⟨p,xs,k,j,rfl,rfl,hp,hj,q⟩:=h
 cases ro
 obtain ⟨t,rfl⟩:=ri
 obtain ⟨its,n,r,ho,hz⟩:=I.lst hp
 obtain ⟨h1,h2,h3,h4⟩:=ixN_seq hj
 have hl:=r.length
 have hn:=line63
 have I':Inv X pins σ (upd H p (.lst (xs.set j v))) { s with heap:=s.heap.update p (Obj.mapSeq (·.setIfInBounds j u)) }:=
  I.lstUpd hp ho (mapSeq_set its n j u) (r.set rv j) (by rw [List.length_set];exact hz) s.toks
 by_cases h0:0<=k
 ·have hk:k.toNat=j:=by
   rw [seqIndex_of h0 h4] at h1
   exact Option.some.inj h1
  exact PySem.W.ki_setAt ho h0 (by lia) (by rw [List.size_toArray,<-hl];exact h4) (by rw [hk];exact ⟨_,I',q⟩)
 ·have hk:(k+(its.toArray.size:Int)).toNat=j:=by
   rw [seqIndex_neg (by lia) h3] at h1
   rw [List.size_toArray,<-hl]
   exact Option.some.inj h1
  exact PySem.W.ki_setBack ho (by lia) (by rw [List.size_toArray,<-hl];exact h3) (by lia) (by rw [hk];exact ⟨_,I',q⟩)
theorem slice_bounds (lo hi:Option Int) (n:Nat):(sliceBounds lo hi none n).1=((HT.sIx n 0 lo:Nat):Int)/\(sliceBounds lo hi none n).2.1=((HT.sIx n n hi:Nat):Int)/\(sliceBounds lo hi none n).2.2=1:=by
 refine ⟨?_,?_,rfl⟩
 ·cases lo with
  | none=>simp [sliceBounds,HT.sIx]
  | some i=>
   simp only [sliceBounds,HT.sIx,Option.getD_none,show (1:Int) > 0 by decide,if_true]
   by_cases h:i < 0
   ·simp only [h,if_true] <;> lia
   ·simp only [h,if_false] <;> lia
 ·cases hi with
  | none=>simp [sliceBounds,HT.sIx]
  | some i=>
   simp only [sliceBounds,HT.sIx,Option.getD_none,show (1:Int) > 0 by decide,if_true]
   by_cases h:i < 0
   ·simp only [h,if_true] <;> lia
   ·simp only [h,if_false] <;> lia
theorem slicePick_cut (its:List Value) (lo hi:Option Int):slicePick its.toArray lo hi none=((its.drop (HT.sIx its.length 0 lo)).take (HT.sIx its.length its.length hi - HT.sIx its.length 0 lo)).toArray:=by
 obtain ⟨h1,h2,h3⟩:=slice_bounds lo hi its.toArray.size
 unfold slicePick
 rw [h1,h2,h3]
 simp only [sliceRange_one,pick_run,List.size_toArray] <;> rfl
def rSlL (K:PySem.W.Frag):V->Option Int->Option Int->Hp->VK->Prop:=fun x lo hi H Q=>∃a xs,x=.ref a/\SqL K H a xs/\∀p,H p=none->Q (.ref p) (upd H p (.lst (cutV xs lo hi)))
theorem sl_list:SlR X (rSlL X.K):=by
 intro pins s σ H x v vl vu lo hi sl Q I rx hs pl pu h
 obtain ⟨a,xs,rfl,hx,q⟩:=h
 cases rx
 obtain ⟨its,r,ht,hz⟩:=I.list hx
 have hlen:=r.length
 refine ⟨"list",_,slot_list_getitem.lookup,ht.isList.typeIs,?_⟩
 refine wpAny_getItem_list_slice ht.isList hs pl pu .none (by simp) ?_ (by rw [List.size_toArray] <;> lia)
 rw [slicePick_cut,<-hlen]
 refine ⟨.ref s.heap.objs.size,_,I.laid (t':=s.toks) (o:=.lst (cutV xs lo hi)) (fun b ob q=>Heap.get?_push_of_some _ q) (Nat.le_refl _) ?_,rfl,q _ (I.hok.fresh (Nat.le_refl _))⟩
 exact ⟨Nat.le_trans (cutV_length xs lo hi) hz,_,0,(r.drop (HT.sIx xs.length 0 lo)).take (HT.sIx xs.length xs.length hi - HT.sIx xs.length 0 lo),Heap.get?_push_size _ rfl⟩
def flatV:V->Bool
 | .non=>true
 | .bl _=>true
 | .int _=>true
 | .str _=>true
 | _=>false
def eqV:V->V->Bool
 | .non,.non=>true
 | .bl a,.bl b=>a == b
 | .bl a,.int b=>(if a then 1 else 0) == b
 | .int a,.bl b=>a == (if b then 1 else 0)
 | .int a,.int b=>a == b
 | .str a,.str b=>a == b
 | _,_=>false
theorem eqAt_V {A:Around} {s:Shared} {y x:V} {u v:Value} (ry:RelV y u) (rx:RelV x v) (fy:flatV y=true) (fx:flatV x=true):SeqAt.EqAt A s u v (eqV y x):=by
 cases y with
 | non=>
  cases ry
  cases x with
  | non=>cases rx;exact SeqAt.EqAt.same _
  | bl b=>cases rx;exact SeqAt.EqAt.none_bool b
  | int b=>obtain ⟨t,rfl⟩:=rx;exact SeqAt.EqAt.none_int b t
  | str b=>obtain ⟨t,rfl⟩:=rx;exact SeqAt.EqAt.none_str b t
  | _=>exact absurd (show false=true from fx) Bool.false_ne_true
 | bl a=>
  cases ry
  cases x with
  | non=>cases rx;exact SeqAt.EqAt.bool_none a
  | bl b=>cases rx;exact SeqAt.EqAt.bool_bool a b
  | int b=>obtain ⟨t,rfl⟩:=rx;exact SeqAt.EqAt.bool_int a b t
  | str b=>obtain ⟨t,rfl⟩:=rx;exact SeqAt.EqAt.bool_str a b t
  | _=>exact absurd (show false=true from fx) Bool.false_ne_true
 | int a=>
  obtain ⟨t',rfl⟩:=ry
  cases x with
  | non=>cases rx;exact SeqAt.EqAt.int_none a t'
  | bl b=>cases rx;exact SeqAt.EqAt.int_bool a t' b
  | int b=>obtain ⟨t,rfl⟩:=rx;exact SeqAt.EqAt.int_int a t' b t
  | str b=>obtain ⟨t,rfl⟩:=rx;exact SeqAt.EqAt.int_str a t' b t
  | _=>exact absurd (show false=true from fx) Bool.false_ne_true
 | str a=>
  obtain ⟨t',rfl⟩:=ry
  cases x with
  | non=>cases rx;exact SeqAt.EqAt.str_none a t'
  | bl b=>cases rx;exact SeqAt.EqAt.str_bool a t' b
  | int b=>obtain ⟨t,rfl⟩:=rx;exact SeqAt.EqAt.str_int a t' b t
  | str b=>obtain ⟨t,rfl⟩:=rx;exact SeqAt.EqAt.str_str a t' b t
  | _=>exact absurd (show false=true from fx) Bool.false_ne_true
 | _=>exact absurd (show false=true from fy) Bool.false_ne_true
def eqU (x:V) (u:Value):Bool:=match u with
 | .none=>eqV .non x
 | .bool b=>eqV (.bl b) x
 | .int i _=>eqV (.int i) x
 | .str z _=>eqV (.str z) x
 | _=>false
theorem eqU_of {x y:V} {u:Value} (r:RelV y u) (f:flatV y=true):eqU x u=eqV y x:=by
 cases y with
 | non=>cases r;rfl
 | bl b=>cases r;rfl
 | int i=>obtain ⟨t,rfl⟩:=r;rfl
 | str z=>obtain ⟨t,rfl⟩:=r;rfl
 | _=>exact absurd (show false=true from f) Bool.false_ne_true
theorem any_eqU {x:V}:∀{xs:List V} {us:List Value},Vals xs us->xs.all flatV=true->us.any (eqU x)=xs.any fun y=>eqV y x
 | _,_,.nil,_=>rfl
 | y::xs,u::us,.cons r t,f=>by
  rw [List.all_cons,Bool.and_eq_true] at f
  rw [List.any_cons,List.any_cons,eqU_of r f.1,any_eqU t f.2]
theorem mem_eqAt {A:Around} {s:Shared} {x:V} {v:Value} (rx:RelV x v) (fx:flatV x=true):∀{xs:List V} {us:List Value},Vals xs us->xs.all flatV=true->∀u∈us,SeqAt.EqAt A s u v (eqU x u)
 | _,_,.nil,_=>fun u hu=>by cases hu
 | y::xs,u::us,.cons r t,f=>fun u' hu=>by
  rw [List.all_cons,Bool.and_eq_true] at f
  rcases List.mem_cons.mp hu with rfl | hu
  ·rw [eqU_of r f.1];exact eqAt_V r rx f.1 fx
  ·exact mem_eqAt rx fx t f.2 u' hu
def inV (x:V) (xs:List V):Bool:=xs.any fun y=>eqV y x
def rIn (K:PySem.W.Frag) (neg:Bool):R2:=fun x y H Q=>∃p xs,y=.ref p/\(SqL K H p xs\/SqT K H p xs)/\flatV x=true/\xs.all flatV=true/\Q (.bl (if neg then !inV x xs else inV x xs)) H
theorem op_in_seq:OpR X (compareOp .In) (rIn X.K false):=by
 intro pins s σ H x y v u Q I rx ry h
 obtain ⟨p,xs,rfl,hq,fx,fs,q⟩:=h
 cases ry
 rcases hq with hq | hq
 ·obtain ⟨its,r,pl,hz⟩:=I.list hq
  refine SeqAt.in_listAt (eqU x) pl.isList (fun w hw=>mem_eqAt rx fx r fs w (by simpa using hw)) ⟨.bl _,H,I,rfl,?_⟩
  rw [show its.toArray.any (eqU x)=its.any (eqU x) by simp,any_eqU r fs]
  exact q
 ·obtain ⟨its,r,pl,hz⟩:=I.tuple hq
  refine SeqAt.in_tupleAt (eqU x) pl (fun w hw=>mem_eqAt rx fx r fs w (by simpa using hw)) ⟨.bl _,H,I,rfl,?_⟩
  rw [show its.toArray.any (eqU x)=its.any (eqU x) by simp,any_eqU r fs]
  exact q
theorem op_notIn_seq:OpR X (compareOp .NotIn) (rIn X.K true):=by
 intro pins s σ H x y v u Q I rx ry h
 obtain ⟨p,xs,rfl,hq,fx,fs,q⟩:=h
 cases ry
 rcases hq with hq | hq
 ·obtain ⟨its,r,pl,hz⟩:=I.list hq
  refine SeqAt.notIn_listAt (eqU x) pl.isList (fun w hw=>mem_eqAt rx fx r fs w (by simpa using hw)) ⟨.bl _,H,I,rfl,?_⟩
  rw [show its.toArray.any (eqU x)=its.any (eqU x) by simp,any_eqU r fs]
  exact q
 ·obtain ⟨its,r,pl,hz⟩:=I.tuple hq
  refine SeqAt.notIn_tupleAt (eqU x) pl (fun w hw=>mem_eqAt rx fx r fs w (by simpa using hw)) ⟨.bl _,H,I,rfl,?_⟩
  rw [show its.toArray.any (eqU x)=its.any (eqU x) by simp,any_eqU r fs]
  exact q
theorem call_len_seq:CallR X (.builtin "len") (fun xs H Q=>∃p ys,xs=[.ref p]/\(SqL X.K H p ys\/SqT X.K H p ys)/\Q (.int ys.length) H):=by
 intro pins s σ H xs us Q I r h
 obtain ⟨p,ys,rfl,hq,q⟩:=h
 obtain ⟨u,rfl,rx⟩:=vals1 r
 cases rx
 have hn:=line63
 rcases hq with hq | hq
 ·obtain ⟨its,r',pl,hz⟩:=I.list hq
  have hlen:=r'.length
  exact Calls.call_len_list pl.isList (by simp only [List.size_toArray] <;> lia) ⟨.int ys.length,H,I.tok _,⟨s.toks+1,by rw [List.size_toArray,hlen]⟩,q⟩
 ·obtain ⟨its,r',pl,hz⟩:=I.tuple hq
  have hlen:=r'.length
  exact len_tuple pl (by simp only [List.size_toArray] <;> lia) ⟨.int ys.length,H,I.tok _,⟨s.toks+1,by rw [List.size_toArray,hlen]⟩,q⟩
theorem call_len_str:CallR X (.builtin "len") (fun xs H Q=>∃z,xs=[.str z]/\z.length<=sizeLine/\Q (.int z.length) H):=by
 intro pins s σ H xs us Q I r h
 obtain ⟨z,rfl,hz,q⟩:=h
 obtain ⟨u,rfl,t,rfl⟩:=vals1 r
 have hn:=line63
 exact len_str (by lia) ⟨.int z.length,H,I.tok _,⟨_,rfl⟩,q⟩
theorem call_list_of:CallR X (.type "list") (fun xs H Q=>∃p ys,xs=[.ref p]/\(SqL X.K H p ys\/SqT X.K H p ys)/\∀l,H l=none->Q (.ref l) (upd H l (.lst ys))):=by
 intro pins s σ H xs us Q I r h
 obtain ⟨p,ys,rfl,hq,q⟩:=h
 obtain ⟨u,rfl,rx⟩:=vals1 r
 cases rx
 have fin:∀(its:List Value),Vals ys its->ys.length<=sizeLine->∀(h':Heap) (c':Nat),(∀b o',s.heap.get? b=some o'->h'.get? b=some o')->
   h'.get? s.heap.objs.size=some { cls:=.type "list",dict:=none,data:=.seq its.toArray c',slots:=#[] }->EP X pins σ Q (.ref s.heap.objs.size) { s with heap:=h' }:=fun its r' hz h' c' kp e=>
  ⟨.ref s.heap.objs.size,_,I.laid (t':=s.toks) kp (Nat.le_refl _) (show ObjOk X.prog X.w _ h' _ (.lst ys) from ⟨hz,its,c',r',e⟩),rfl,q _ (I.hok.fresh (Nat.le_refl _))⟩
 rcases hq with hq | hq
 ·obtain ⟨its,r',pl,hz⟩:=I.list hq
  have hlen:=r'.length
  obtain ⟨o,ho,hc,n,hd⟩:=pl.isList
  exact call_list_seq p (.inl rfl) ho hc hd (fun h' c' kp e=>fin its r' hz h' c' kp e) (by simp only [List.size_toArray] <;> lia)
 ·obtain ⟨its,r',pl,hz⟩:=I.tuple hq
  have hlen:=r'.length
  obtain ⟨o,ho,hc,n,hd⟩:=pl
  exact call_list_seq p (.inr rfl) ho hc hd (fun h' c' kp e=>fin its r' hz h' c' kp e) (by simp only [List.size_toArray] <;> lia)
theorem call_tuple_of:CallR X (.type "tuple") (fun xs H Q=>∃p ys,xs=[.ref p]/\((SqL X.K H p ys/\∀l,H l=none->Q (.ref l) (upd H l (.tup ys)))\/(SqT X.K H p ys/\Q (.ref p) H))):=by
 intro pins s σ H xs us Q I r h
 obtain ⟨p,ys,rfl,h⟩:=h
 obtain ⟨u,rfl,rx⟩:=vals1 r
 cases rx
 rcases h with ⟨hq,q⟩ | ⟨hq,q⟩
 ·obtain ⟨its,r',pl,hz⟩:=I.list hq
  have hlen:=r'.length
  refine call_tuple_list pl.isList (fun h' kp=>?_) (by simp only [List.size_toArray] <;> lia)
  have I1:Inv X pins σ H { s with heap:=h' }:=I.kept (t':=s.toks) kp
  have I2:Inv X pins σ (upd H h'.objs.size (.tup ys)) { s with heap:=h'.push { cls:=.type "tuple",data:=.seq its.toArray } }:=
   I1.laid (t':=s.toks) (fun b o e=>Heap.get?_push_of_some _ e) (Nat.le_refl _) (show ObjOk X.prog X.w _ _ _ (.tup ys) from ⟨hz,its,r',IsTup.new _ _⟩)
  exact ⟨.ref h'.objs.size,_,I2,rfl,q _ (I1.hok.fresh (Nat.le_refl _))⟩
 ·obtain ⟨its,r',pl,hz⟩:=I.tuple hq
  exact call_tuple_same pl ⟨.ref p,H,I,rfl,q⟩
def tyV (K:PySem.W.Frag) (T:String) (x:V) (H:Hp):Prop:=match x with
 | .str _=>T = "str"
 | .int _=>T = "int"
 | .ref p=>(T = "list"/\∃xs,SqL K H p xs)\/(T = "tuple"/\∃o,K.lookup p=some o/\o.cls=.type "tuple"/\o.dict=none)\/
   (T = "dict"/\((∃kvs,H p=some (.dK kvs))\/∃kvs,H p=some (.dT kvs)))\/(T = "set"/\∃S n,H p=some (.set S n))
 | _=>False
theorem tyV_is {pins:List (Addr×Obj)} {σ:St} {H:Hp} {s:Shared} {T:String} {x:V} {v:Value} (I:Inv X pins σ H s) (r:RelV x v) (ty:tyV X.K T x H) :
  s.TypeIs v T/\∀a,v=.ref a->∃ob,s.heap.get? a=some ob/\ob.dict=none:=by
 cases x with
 | str z=>
  obtain ⟨t,rfl⟩:=r
  cases (show T = "str" from ty)
  exact ⟨typeIs_str s z t,fun _ e=>nomatch e⟩
 | int i=>
  obtain ⟨t,rfl⟩:=r
  cases (show T = "int" from ty)
  exact ⟨typeIs_int s i t,fun _ e=>nomatch e⟩
 | ref p=>
  cases r
  rcases ty with ⟨rfl,xs,hq⟩ | ⟨rfl,o,hk,hc,hd⟩ | ⟨rfl,hk⟩ | ⟨rfl,S,n,hk⟩
  ·obtain ⟨its,_,pl,_⟩:=I.list hq
   refine ⟨pl.isList.typeIs,fun a e=>?_⟩
   cases e
   obtain ⟨o,n,e,c,hd,_⟩:=pl
   exact ⟨o,e,hd⟩
  ·refine ⟨⟨o,I.kIn p o hk,hc⟩,fun a e=>?_⟩
   cases e
   exact ⟨o,I.kIn _ o hk,hd⟩
  ·have z:∃o,s.heap.get? p=some o/\o.ExactDict:=by
    rcases hk with ⟨kvs,hk⟩ | ⟨kvs,hk⟩
    ·obtain ⟨_,_,_,_,o,_,_,e,ex,_⟩:=I.hok p _ hk
     exact ⟨o,e,ex⟩
    ·obtain ⟨_,_,_,_,o,_,_,e,ex,_⟩:=I.hok p _ hk
     exact ⟨o,e,ex⟩
   obtain ⟨o,e,ex⟩:=z
   refine ⟨⟨o,e,ex.1⟩,fun a e2=>?_⟩
   cases e2
   exact ⟨o,e,ex.2.1⟩
  ·obtain ⟨o,_,_,_,e,ex,_⟩:=I.hok p _ hk
   refine ⟨⟨o,e,ex.1⟩,fun a e2=>?_⟩
   cases e2
   exact ⟨o,e,ex.2.1⟩
 | _=>exact False.elim ty
def tBM0 (K:PySem.W.Frag) (T:String) (r:V->List V->Hp->VK->Prop) (to:TE):TE:=fun σ H Q=>to σ H fun x H1=>tyV K T x H1/\r x [] H1 Q
def tBM (K:PySem.W.Frag) (T:String) (r:V->List V->Hp->VK->Prop) (to:TE) (t:TA):TE:=fun σ H Q=>to σ H fun x H1=>tyV K T x H1/\t σ H1 fun xs H2=>r x xs H2 Q
variable {o e:Expr} {es:List Expr} {to:TE} {t:TA} {name:Str} {apos cpos:Pos} {T id:String} {r:V->List V->Hp->VK->Prop}
theorem pe_bm (pa:PlainAttrs T) (slot:Slot T name id) (hty:typeOf (.builtin id)=pure (.type "method_descriptor")) (hm:MtR X id r) (ho:PE X o to) (ha:PA X (e::es) t)
  (hbase:attributeBase o name X.env (eval o X.env)=eval o X.env:=by rfl)
  (hfew:((backTo cpos (starEach (e::es) X.env)).all (fun x=>!x.1) && (backToKw cpos (keywordEach [] X.env)).all (fun x=>x.1.isSome)
   && decide ((e::es).length+([]:List Keyword).length+(if ([]:List Keyword).isEmpty then 0 else 1) < 30))=true:=by rfl)
  (hline:(apos.endLine == cpos.line)=true:=by rfl) (hs:starEach (e::es) X.env=(false,eval e X.env)::starEach es X.env:=by rfl) (hplain:(backTo cpos (starEach es X.env)).any (·.1)=false:=by rfl) :
  PE X (.Call (.Attribute o name apos) (e::es) [] cpos) (tBM X.K T r to t):=by
 intro pins s σ H Q I h
 refine wpAny_Call_method_late hbase hfew hline rfl (thn (ho pins s σ H _ I h) fun v s1 ⟨x,H1,I1,r1,ty,q1⟩=>?_)
 obtain ⟨h1,h2⟩:=tyV_is I1 r1 ty
 refine ⟨T,id,pa,slot,hty,h1,h2,?_⟩
 have hA:=ha cpos pins s1 σ H1 _ I1 q1
 rw [hs] at hA ⊢
 refine Calls.callWith_builtin (by show (false || (backTo cpos (starEach es X.env)).any (·.1))=false;rw [hplain] <;> rfl) (Calls.evalArgs_plain ?_)
 exact thn hA fun us s2 ⟨vs,H2,I2,r2,q2⟩=>hm pins s2 σ H2 x vs v us Q I2 r1 r2 q2
end
end L2
namespace L2
open PySem PySem.Spec PyProof.Rows
def MtM (X:Cx) (id:String) (r:V->List V->Hp->VK->Prop):Prop:=
 ∀(pins:List (Addr×Obj)) (s:Shared) (σ:St) (H:Hp) (x:V) (xs:List V) (v:Value) (us:List Value) (Q:VK),Inv X pins σ H s->RelV x v->Vals xs us->r x xs H Q->
  wpAny (model X.prog X.w) X.A (call (.builtin id) (v::us)) (EP X pins σ Q) X.xe s
theorem Vals.one:∀{x:V} {us:List Value},Vals [x] us->∃u,us=[u]/\RelV x u
 | _,_,.cons r .nil=>⟨_,rfl,r⟩
theorem Vals.two:∀{x y:V} {us:List Value},Vals [x,y] us->∃u v,us=[u,v]/\RelV x u/\RelV y v
 | _,_,_,.cons r (.cons q .nil)=>⟨_,_,rfl,r,q⟩
theorem Vals.reverse {xs:List V} {us:List Value} (h:Vals xs us):Vals xs.reverse us.reverse:=by
 induction h with
 | nil=>exact .nil
 | cons r t ih=>rw [List.reverse_cons,List.reverse_cons];exact Vals.append ih (.cons r .nil)
section
variable {X:Cx} {pins:List (Addr×Obj)} {σ:St} {H:Hp} {s:Shared} {l b:Addr} {xs ys zs:List V}
theorem Inv.lset {its its':List Value} {n:Nat} {f:Array Value->Array Value} {t':Nat} (I:Inv X pins σ H s) (hH:H l=some (.lst xs))
  (e:s.heap.get? l=some { cls:=.type "list",data:=.seq its.toArray n }) (hf:f its.toArray=its'.toArray) (hv:Vals ys its') (hz:ys.length<=sizeLine) :
  Inv X pins σ (upd H l (.lst ys)) { s with heap:=s.heap.update l (Obj.mapSeq f),toks:=t' }:=by
 have q:=PySem.IsL.update e f
 rw [hf] at q
 refine I.write (x:=l) (e:=l) (by rw [hH];exact trivial) (.inl rfl) (fun b' u hb hu=>(Heap.get?_update_other s.heap (Obj.mapSeq f) (Ne.symm hb)).trans hu) ⟨_,q⟩ ?_
 exact ⟨hz,its',_,hv,q⟩
theorem Inv.lnew {its:List Value} {t':Nat} (I:Inv X pins σ H s) (hv:Vals ys its) (hz:ys.length<=sizeLine) :
  Inv X pins σ (upd H s.heap.objs.size (.lst ys)) { s with heap:=s.heap.push { cls:=.type "list",data:=.seq its.toArray },toks:=t' }:=
 I.laid (fun _ _ q=>Heap.get?_push_of_some _ q) (Nat.le_refl _) ⟨hz,its,0,hv,Heap.get?_push_size _ rfl⟩
theorem Inv.fresh (I:Inv X pins σ H s):H s.heap.objs.size=none:=I.hok.fresh (Nat.le_refl _)
theorem Inv.lstM (I:Inv X pins σ H s) (hH:H l=some (.lst xs)):xs.length<=sizeLine/\∃(its:List Value) (n:Nat),Vals xs its/\xs.length=its.length/\s.heap.get? l=some { cls:=.type "list",data:=.seq its.toArray n }:=by
 obtain ⟨z,its,n,r,e⟩:=I.hok l _ hH
 exact ⟨z,its,n,r,r.length,e⟩
end
section
variable {X:Cx}
def rAppend:V->List V->Hp->VK->Prop:=fun x vs H Q=>∃l xs y,x=.ref l/\vs=[y]/\H l=some (.lst xs)/\xs.length < sizeLine/\Q .non (upd H l (.lst (xs++[y])))
theorem mt_append:MtM X "list.append" rAppend:=by
 intro pins s σ H x vs v us Q I rx rv h
 obtain ⟨l,xs,y,rfl,rfl,hH,hz,q⟩:=h
 cases rx
 obtain ⟨u,rfl,ru⟩:=rv.one
 obtain ⟨z,its,n,r,hl,e⟩:=I.lstM hH
 refine call_meets F.slot_list_append ⟨_,e,rfl⟩ F.entry_list_append (F.args_list_append_2 _ _) (PySem.list_append l its.toArray n u (by rw [List.size_toArray];lia)) ⟨e,?_⟩
 refine ⟨.non,_,I.lset (its':=its++[u]) hH e (by simp) (r.append (.cons ru .nil)) ?_,rfl,q⟩
 rw [List.length_append,List.length_singleton]
 lia
def rExtend:V->List V->Hp->VK->Prop:=fun x vs H Q=>∃l b xs zs,x=.ref l/\vs=[.ref b]/\H l=some (.lst xs)/\H b=some (.lst zs)/\xs.length+zs.length<=sizeLine/\Q .non (upd H l (.lst (xs++zs)))
def rClear:V->List V->Hp->VK->Prop:=fun x vs H Q=>∃l xs,x=.ref l/\vs=[]/\H l=some (.lst xs)/\Q .non (upd H l (.lst []))
def rCat:R2:=fun x y H Q=>∃l b xs zs,x=.ref l/\y=.ref b/\H l=some (.lst xs)/\H b=some (.lst zs)/\xs.length+zs.length<=sizeLine/\∀p,H p=none->Q (.ref p) (upd H p (.lst (xs++zs)))
theorem op_cat:OpR X (binaryOp .Add) rCat:=by
 intro pins s σ H x y v u Q I rx ry h
 obtain ⟨l,b,xs,zs,rfl,rfl,hH,hB,hz,q⟩:=h
 cases rx
 cases ry
 obtain ⟨z,its,n,r,hl,e⟩:=I.lstM hH
 obtain ⟨z2,its2,n2,r2,hl2,e2⟩:=I.lstM hB
 refine PySem.P.add_list e e2 ?_ (by rw [List.size_toArray,List.size_toArray];lia)
 have ea:its.toArray++its2.toArray=(its++its2).toArray:=by simp
 rw [ea]
 exact ⟨.ref _,_,I.lnew (t':=s.toks) (r.append r2) (by rw [List.length_append];lia),rfl,q _ I.fresh⟩
end
section
variable {prog:Program} {w:World} {A:Around} {E:Value->Shared->Prop} {s:Shared}
end
section
variable {X:Cx}
end
end L2
namespace L2
open PySem PySem.Spec PyProof.Rows
section
variable {κ:Type} [DecidableEq κ]
def valV (kvs:List (κ×V)) (k:κ):Option V:=(kvs.find? fun kv=>decide (kv.1=k)).map (·.2)
end
section
variable {P:Program} {w:World} {H:Hp} {h:Heap} {a:Addr}
end
section
variable {X:Cx} {pins:List (Addr×Obj)} {σ:St} {H:Hp} {s:Shared} {a:Addr} {y v:V} {u r:Value} {o:Option V} {A:Around} {E:Value->Shared->Prop}
theorem Inv.big (I:Inv X pins σ H s):sysModules < s.heap.objs.size:=by
 have h:mainGlobals < s.heap.objs.size:=(I.mod.glob.keeps I.bk).lt
 exact Nat.lt_trans (by decide) h
theorem d_write {h':Heap} {t':Nat} {ob:HO} (I:Inv X pins σ H s) (mu:Mut (H a)) (hs:Heap.SameBut a s.heap h') (he:∃q,h'.get? a=some q) (new:ObjOk X.prog X.w (upd H a ob) h' a ob) :
  Inv X pins σ (upd H a ob) { s with heap:=h',toks:=t' }:=
 I.write (x:=a) (e:=a) mu (.inl rfl) (fun b q hb z=>(hs.2 b hb).trans z) he new
end
section
variable {X:Cx} {pins:List (Addr×Obj)} {σ:St} {H:Hp} {s:Shared} {a:Addr} {kvs:List (Key×V)} {k:Key} {u:Value} {A:Around} {E:Value->Shared->Prop}
end
section
variable {X:Cx} {o i e value:Expr} {pos pos' tpos:Pos} {td ty tv:TE}
end
theorem dk_empty {P:Program} {w:World} {H:Hp} (h:Heap) (hb:sysModules < h.objs.size):ObjOk P w H (h.push { cls:=.type "dict",data:=.dict #[] }) h.objs.size (.dK []):=
 ⟨Nat.zero_le _,beq_eq_false_iff_ne.mpr (Ne.symm (Nat.ne_of_lt hb)),[],.nil,Heap.DictOf.new h⟩
def tDNewK:TE:=fun _ H Q=>∀p,H p=none->Q (.ref p) (upd H p (.dK []))
section
variable {X:Cx} {pos:Pos}
theorem pe_dnewK:PE X (.Dict [] [] pos) tDNewK:=fun pins s σ H Q I h=>
 wpAny_Dict_empty ⟨.ref s.heap.objs.size,_,I.laid (a:=s.heap.objs.size) (o:=.dK []) (t':=s.toks) (fun _ _ q=>Heap.get?_push_of_some _ q) (Nat.le_refl _) (dk_empty s.heap I.big),rfl,h _ (I.hok.fresh (Nat.le_refl _))⟩
end
section
variable {X:Cx} {pins:List (Addr×Obj)} {σ:St} {H:Hp} {s:Shared} {a:Addr} {y d:V} {u r:Value} {o:Option V} {A:Around} {E:Value->Shared->Prop}
end
section
variable {X:Cx} {o e f:Expr} {apos cpos:Pos} {td ty tx:TE}
end
section
variable {X:Cx} {pins:List (Addr×Obj)} {σ:St} {H:Hp} {s:Shared} {a:Addr} {kvs:List (Key×V)} {A:Around} {E:Value->Shared->Prop}
end
section
variable {X:Cx} {pins:List (Addr×Obj)} {σ:St} {H:Hp} {s:Shared} {a:Addr} {y:V} {u:Value} {A:Around} {E:Value->Shared->Prop}
end
end L2
namespace Att
open PySem PySem.W PySem.Calls PyProof.Rows
theorem ints_of_wellAll {P:Params} {h:Heap}:∀(ns:List Int) (vs:List Value),WellAll P h vs (ns.map WData.int)->IntsAre vs ns:=by
 intro ns
 induction ns with
 | nil=>
  intro vs w
  rw [List.map_nil] at w
  cases w
  exact .nil
 | cons n ns ih=>
  intro vs w
  rw [List.map_cons] at w
  cases w with
  | cons a b=>
   cases a
   exact .cons _ _ (ih _ b)
theorem script_of {l:OpenLaw} {n:Nat} (hn:l.most=some n) {P:Params} {h:Heap} {args:List WData} {vals:List Value}
  (hpre:l.row.toRowW.claim.pre args=true) (hwl:WellAll P h vals args) :
  ∃a vs ns,vals=[Value.ref a]/\args=[WData.list (ns.map WData.int)]/\h.get? a=some { cls:=.type "list",data:=.seq vs.toArray }/\IntsAre vs ns/\ns.length<=n:=by
 have hsh:WShape.hasAll [] args [.list .int]=true:=(pre_splitW hpre).1
 have hc:l.pre.holds [] { args:=args }=true:=(pre_splitW hpre).2
 obtain ⟨d,r,rfl,h1,h2⟩:=hasAllW_cons hsh
 obtain rfl:=hasAllW_nil h2
 obtain ⟨xs,rfl,h3⟩:=hasW_list h1
 obtain ⟨ns,rfl⟩:=items_int h3
 have hlen:ns.length<=n:=by
  unfold OpenLaw.pre at hc
  have h4:(WTm.not (.lt (.lit (.int (n:Int))) (.len (.arg 0)))).holds [] { args:=[.list (ns.map .int)] }=true:=by
   have h4:=(holds_andW hc).1
   rw [hn] at h4
   exact h4
  have h5:=condW_of h4 (w_not (w_lt w_lit (w_len_list (w_arg rfl))))
  rw [List.length_map] at h5
  refine Nat.le_of_not_lt fun q=>?_
  have q':(n:Int) < ((ns.length:Nat):Int):=by lia
  first
   | (rw [decide_eq_true q'] at h5;exact absurd h5 (by decide))
   | (simp at h5;lia)
 cases hwl with
 | cons w1 w2=>
  cases w2
  cases w1 with
  | list ho hall=>exact ⟨_,_,ns,rfl,rfl,ho,ints_of_wellAll ns _ hall,hlen⟩
theorem post_true (l:OpenLaw) (args:List WData):l.row.toRowW.claim.post args (.bool true) args=true:=
 postW_of (r:=l.row.toRowW) (X:=(true == true))
  (show WShape.has [] (.bool true) .bool=true by first | rfl | decide | simp [WShape.has,WShape.arms,WShape.armsAll])
  (show (WTm.eq .res (.lit (.bool true))).value [] { args:=args,res:=some (.bool true),after:=args }=some (.bool (true == true)) from w_eq_bool (w_res rfl) w_lit) rfl
theorem attach_call {l:OpenLaw} {n:Nat} {q:Program} {loose:List Str} {XP:(Str->Option Value)->Heap->Prop} {YP:World->Heap->Prop} {d:DefRec}
  (hn:l.most=some n) (hdf:d.params.defaults=[])
  (call:∀(w:World) (s₀ s₁:Shared) (mg mb:Str->Option Value) (fa:Addr) (o:Obj) (pm cd doc:Value) (a:Addr) (vs:List Value) (ns:List Int),
   Ground q loose [] XP w s₀ mg mb s₁.heap->YP w s₁.heap->
   s₁.heap.get? fa=some o->o.data=.func (docDef d.name d.params d.body d.scope pm cd doc)->s₁.heap.CodeRec cd d.name->mg d.name=some (.ref fa)->
   s₁.heap.get? a=some { cls:=.type "list",data:=.seq vs.toArray }->IntsAre vs ns->ns.length<=n->s₁.gens = #[]->
   codeAny (model l.prog w) callerA (.call (.ref fa) ⟨[.ref a],[]⟩) (fun r s'=>r=.ok (.ret (.bool true))/\OldK s₁.heap s'.heap/\s'.os=s₁.os/\AllBare s'.gens) s₁) :
  WalkO q loose XP YP l.row.toRowW d [] (fun f vs=>PySem.call f vs):=by
 intro w s₀ s₁ mg mb G Y fa o pm cd doc dV kV ho hd hcd hD hmg hg args vals as hpre hlay hrd hwl hlo
 obtain rfl:dV=.none:=Dflts.none hD hdf
 obtain rfl:kV=.none:=Dflts.noKw hD
 obtain ⟨a,vs,ns,rfl,rfl,hobj,hints,hlen⟩:=script_of hn hpre hwl
 refine enter_call (codeAny_mono (call w s₀ s₁ mg mb fa o pm cd doc a vs ns G Y ho (fd_plain hd) hcd hmg hobj hints hlen hg) fun r s' hq=>?_)
 obtain ⟨rfl,h2,h3,h4⟩:=hq
 exact ⟨.inl ⟨.bool true,.bool true,[],rfl,fun _=>rfl,.bool true,post_true l _,fun _=>⟨List.Pairwise.nil,fun _ hm=>(nomatch hm)⟩⟩,h2,h3,h4⟩
section
variable {prog:Program} {w:World} {A:Around} {E:Value->Shared->Prop} {s:Shared} {K:Frag}
end
end Att
namespace L2
open PySem PySem.Spec PyProof.Rows
theorem vals_ints:∀{vs:List Value} {ns:List Int},IntsAre vs ns->Vals (ns.map V.int) vs
 | _,_,.nil=>.nil
 | _,_,.cons n t h=>.cons ⟨t,rfl⟩ (vals_ints h)
def Only (H:Hp):Prop:=∀b,H b=none\/∃o xs,H b=some (.frz o (.lst xs))
theorem law_call {P:Program} {w:World} {K:PySem.W.Frag} {mg mb:Str->Option Value} {CX:CXT} {k:Nat} {fa a:Addr} {fd:FuncData} {x:Str} {sp:Sp} {s₁:Shared} {vs:List Value} {ns:List Int}
  (KX:K.In s₁.heap) (hns:s₁.heap.Ns mainGlobals mg) (hb:s₁.heap.Ns builtinsNs mb) (hbb:∀x:Str,x≠"__name__"->mb x=bootBuiltins x) (hlim:s₁.heap.NoLimit) (hg:s₁.gens = #[])
  (ha:s₁.heap.get? a=some { cls:=.type "list",data:=.seq vs.toArray }) (hi:IntsAre vs ns) (hl:ns.length<=sizeLine) (hr:Room k callerA)
  (F:∀base:Heap,K.In base->base.Ns mainGlobals mg->FnOk P w K mg base CX k fa fd [x] sp) (hbind:∀(s:Shared) (u:Value),BindsTo s fd ⟨[u],[]⟩ [(x,u)])
  (hsp:∀H:Hp,Only H->SqL K H a (ns.map V.int)->sp [.ref a] H (fun v _=>v=.bl true) fun _ _ _=>False)
  (hCX:∀H e s',CX [] H s₁ (fun _ _ _=>False) e s'->False) :
  codeAny (model P w) callerA (.call (.ref fa) ⟨[.ref a],[]⟩) (fun r s'=>r=.ok (.ret (.bool true))/\OldK s₁.heap s'.heap/\s'.os=s₁.os/\AllBare s'.gens) s₁:=by
 have rv:=vals_ints hi
 have lenV:=hi.length
 have core:∀H:Hp,Only H->SqL K H a (ns.map V.int)->HOk P w H s₁.heap->(∀b,H b≠none->b=a)->(H a≠none->K.lookup a=none)->
   codeAny (model P w) callerA (.call (.ref fa) ⟨[.ref a],[]⟩) (fun r s'=>r=.ok (.ret (.bool true))/\OldK s₁.heap s'.heap/\s'.os=s₁.os/\AllBare s'.gens) s₁:=by
  intro H hO hS hok hA hK
  have base_of:∀{b:Addr} {o:Obj},s₁.heap.get? b=some o->H b=none->(hidT s₁.heap H).get? b=some o:=fun e n=>hidT_get e n
  have noA:∀{b:Addr} {o:Obj} {es:Array DictEntry} {ep:Nat},s₁.heap.get? b=some o->o.data=.dict es ep->H b=none:=fun {b o es ep} e d=>by
   cases q:H b with
   | none=>rfl
   | some u=>
    have e':b=a:=hA b (by rw [q];simp)
    subst e'
    rw [ha] at e;cases e
    have d':Data.seq vs.toArray _=Data.dict es ep:=d
    cases d'
  have nsK:∀{b:Addr} {m:Str->Option Value},s₁.heap.Ns b m->(hidT s₁.heap H).Ns b m:=fun {b m} ⟨o,es,ep,e,d,r⟩=>⟨o,es,ep,base_of e (noA e d),d,r⟩
  have hKb:K.In (hidT s₁.heap H):=fun b o e=>base_of (KX b o e) (by
   cases q:H b with
   | none=>rfl
   | some u=>
    have e':b=a:=hA b (by rw [q];simp)
    subst e'
    rw [hK (by rw [q];simp)] at e;cases e)
  have hM:Mod K mg (hidT s₁.heap H):=⟨hKb,nsK hns,⟨mb,nsK hb,hbb⟩,let ⟨mc,h1,h2⟩:=hlim;⟨mc,nsK h1,h2⟩⟩
  have e0:Env0 P w K mg (hidT s₁.heap H) callerA [] s₁ H:=⟨rfl,hM,fun b o e=>of_hidT e,Nat.le_of_eq (hidT_size _ _),trivial,fun b hb=>absurd (show b∈([]:List Addr) from hb) (by simp),hok,.of_eq hg⟩
  refine codeAny_mono ((F _ hKb (nsK hns)).run callerA [] s₁ H ⟨[.ref a],[]⟩ [.ref a] [.ref a] _ _ hr e0 (hbind s₁ (.ref a)) (.cons rfl .nil) (hsp H hO hS)) fun r s' h=>?_
  cases r with
  | error e=>exact (hCX H e s' h).elim
  | ok fl=>
   cases fl with
   | next=>exact False.elim h
   | brk=>exact False.elim h
   | cont=>exact False.elim h
   | ret u=>
    obtain ⟨v,H',os,bare,un,hok',r',q⟩:=h
    have q':v=.bl true:=q
    subst q'
    obtain rfl:u=Value.bool true:=r'
    refine ⟨rfl,OldK.of_keep fun b o e=>?_,os,bare⟩
    cases q:H b with
    | none=>exact un.keep b o e q (by intro z;exact absurd (show b∈([]:List Addr) from z) (by simp)) (by simp)
    | some u=>
     rcases hO b with z | ⟨ob,xs,z⟩
     ·rw [q] at z;cases z
     ·have z2:=un.frzs b ob _ z
      obtain ⟨e1,_⟩:=hok b _ z
      obtain ⟨e2,_⟩:=hok' b _ z2
      rw [e] at e1;cases e1
      exact e2
 cases hk:K.lookup a with
 | some o=>
  have e:=KX a o hk
  rw [ha] at e
  cases e
  refine core (fun _=>none) (fun _=>.inl rfl) (.inr ⟨_,vs.toArray,_,hk,rfl,rfl,rfl,by rw [List.size_toArray,lenV];exact hl,by simpa using rv⟩) (fun b u z=>by have z':(none:Option HO)=some u:=z;cases z') (fun b z=>absurd rfl z) fun z=>absurd rfl z
 | none=>
  refine core (fun b=>if b=a then some (.frz { cls:=.type "list",data:=.seq vs.toArray } (.lst (ns.map V.int))) else none) (fun b=>?_) (.inl (.inr ⟨{ cls:=.type "list",data:=.seq vs.toArray },if_pos rfl⟩)) (fun b u z=>?_) (fun b z=>?_) fun _=>hk
  ·by_cases hb:b=a
   ·exact .inr ⟨_,_,if_pos hb⟩
   ·exact .inl (if_neg hb)
  ·by_cases hb:b=a
   ·have z':=(if_pos hb).symm.trans z
    cases z'
    subst hb
    exact ⟨ha,by rw [List.length_map];exact hl,vs,_,rv,ha⟩
   ·have z':=(if_neg hb).symm.trans z
    cases z'
  ·by_cases hb:b=a
   ·exact hb
   ·exact absurd (if_neg hb) z
end L2
namespace L2
open PySem PySem.Spec PyProof.Rows
theorem walk_of {l:PySem.W.OpenLaw} {n k:Nat} {q:Program} {loose:List Str} {XP:(Str->Option Value)->Heap->Prop} {YP:World->Heap->Prop} {d:DefRec} {K:Params->PySem.W.Frag} {CX:World->CXT} {sp:World->Sp} {x:Str}
  (hn:l.most=some n) (hn2:n<=sizeLine) (hdf:d.params.defaults=[]) (hr:Room k callerA)
  (hY:∀(w:World) (h:Heap),YP w h->(K w.params).In h)
  (F:∀(w:World) (mg:Str->Option Value) (fa:Addr) (h:Heap),(K w.params).In h->h.Ns mainGlobals mg->mg d.name=some (.ref fa)->
   ∃fd:FuncData,(∀(s:Shared) (u:Value),BindsTo s fd ⟨[u],[]⟩ [(x,u)])/\
    ∀base:Heap,(K w.params).In base->base.Ns mainGlobals mg->FnOk l.prog w (K w.params) mg base (CX w) k fa fd [x] (sp w))
  (hsp:∀(w:World) (H:Hp) (a:Addr) (ns:List Int),ns.length<=n->Only H->SqL (K w.params) H a (ns.map V.int)->sp w [.ref a] H (fun v _=>v=.bl true) fun _ _ _=>False)
  (hCX:∀(w:World) (H:Hp) (s:Shared) (e:Value) (s':Shared),CX w [] H s (fun _ _ _=>False) e s'->False) :
  PySem.W.WalkO q loose XP YP l.row.toRowW d [] (fun f vs=>PySem.call f vs):=by
 refine Att.attach_call hn hdf fun w s₀ s₁ mg mb fa o pm cd doc a vs ns G Y ho hd hcd hmg hobj hints hlen hg=>?_
 have KX:=hY w _ Y
 obtain ⟨fd,hb,hF⟩:=F w mg fa _ KX G.T.g hmg
 exact law_call KX G.T.g G.T.b G.T.builtins G.T.nolimit hg hobj hints (Nat.le_trans hlen hn2) hr hF hb (fun H hO hS=>hsp w H a ns hlen hO hS) fun H e s'=>hCX w H s₁ e s'
end L2
namespace L2
open PySem PySem.Spec PyProof.Rows
def defArgs (s:Stmt):Arguments:=match s with
 | .FunctionDef _ a _ _ _ _ _ _ _ _=>a
 | _=>{ posonlyargs:=[],args:=[],vararg:=none,kwonlyargs:=[],kw_defaults:=[],kwarg:=none,defaults:=[] }
def defBody (s:Stmt):List Stmt:=match s with
 | .FunctionDef _ _ b _ _ _ _ _ _ _=>b
 | _=>[]
def defScope (s:Stmt):Scope:=match s with
 | .FunctionDef _ _ _ _ _ _ sc _ _ _=>sc
 | _=>{ kind:=.function,names:=[],isGenerator:=false,isCoroutine:=false }
abbrev CX0:CXT:=fun _ _ _ _ _ _=>False
abbrev E0:XK:=fun _ _ _=>False
theorem pass0 {X:Cx}:Passes CX0 X E0:=fun _ _ _ _ _ _ _ h=>h.elim
structure Fun (K:PySem.W.Frag) (x qual:Str) (st:Stmt) (f:Addr) (fd:FuncData):Prop where
 ex:∃(oc:Value) (od:Option Addr) (kV doc pm:Value) (an:Option Addr) (cdv ct:Value) (osl:Array (Option Value)),
  fd=PySem.W.fnOf x qual (defArgs st) (defBody st) (defScope st) .none kV doc pm an cdv ct/\K.lookup f=some ⟨oc,od,.func fd,osl⟩/\PySem.W.codeIn K cdv qual=true
 kp:PySem.W.keepIn K (.ref f)=true
section
variable {P:Program} {w:World} {K:PySem.W.Frag} {mg:Str->Option Value} {base:Heap}
theorem Fun.ok {x qual:Str} {st:Stmt} {f:Addr} {fd:FuncData} {N ps:List Str} {k:Nat} {sp:Sp} (F:Fun K x qual st f fd) (S:FnScope N ps (defScope st)) (len:∀vs H Q E,sp vs H Q E->vs.length=ps.length)
  (hbody:∀(cdv:Value) (A:Around) (outer:List Env) (s:Shared) (H:Hp) (vs:List V) (Q:VK) (E:XK),Room k (A.deeper (envOfC qual (defScope st) s.heap.objs.size f cdv))->sp vs H Q E->
   ∃t,PSs (cxOf CX0 P w K mg base N qual (defScope st) f cdv A outer s H E).nox (defBody st) t/\t { nx:=fun _ H'=>Q .non H',rt:=Q } (start N vs) H):FnOk P w K mg base CX0 (k+1) f fd ps sp:=by
 obtain ⟨oc,od,kV,doc,pm,an,cdv,ct,osl,rfl,lk,hcd⟩:=F.ex
 refine fn_of lk hcd S len fun A outer s H vs Q E hr hsp=>?_
 obtain ⟨t,h,q⟩:=hbody cdv A outer s H vs Q E hr hsp
 exact ⟨t,h.nox,q⟩
theorem Fun.binds {x qual:Str} {st:Stmt} {f:Addr} {fd:FuncData} {ps:List Str} (F:Fun K x qual st f fd)
  (h:∀(kV doc pm:Value) (an:Option Addr) (cdv ct:Value) (us:List Value),us.length=ps.length->bindArgs (PySem.W.fnOf x qual (defArgs st) (defBody st) (defScope st) .none kV doc pm an cdv ct) ⟨us,[]⟩=pure (ps.zip us)):Binds K fd ps []:=by
 obtain ⟨oc,od,kV,doc,pm,an,cdv,ct,osl,rfl,lk,hcd⟩:=F.ex
 exact .all (h kV doc pm an cdv ct)
theorem fun_mk {x qual:Str} {st:Stmt} {f:Addr} {oc:Value} {od an:Option Addr} {osl:Array (Option Value)} {kV doc pm cdv ct:Value} (l:K.lookup f=some ⟨oc,od,.func (PySem.W.fnOf x qual (defArgs st) (defBody st) (defScope st) .none kV doc pm an cdv ct),osl⟩)
  (c:PySem.W.codeIn K cdv qual=true) (k:PySem.W.keepIn K (.ref f)=true):Fun K x qual st f (PySem.W.fnOf x qual (defArgs st) (defBody st) (defScope st) .none kV doc pm an cdv ct):=⟨⟨oc,od,kV,doc,pm,an,cdv,ct,osl,rfl,l,c⟩,k⟩
end
theorem hu_of {A:Around} {k:Nat} (hr:Room k A):A.units+1 < cLine:=Nat.lt_of_le_of_lt (Nat.add_le_add_left (by decide:1<=64) _) hr.units
theorem small1000 {n:Nat} (h:n<=1000):n < sizeLine:=Nat.lt_of_le_of_lt h (by decide)
section
variable {X:Cx}
theorem pv (i:Nat) {x:Str} {pos:Pos} (hN:X.N[i]? = some x:=by rfl) (hv:Vis X.env.scope x:=by first | exact Or.inl rfl | exact Or.inr (Or.inl rfl) | exact Or.inr (Or.inr rfl)) (hd:(x == ("__debug__" : Str))=false:=by decide)
  (hcd:(x == ("__classdict__" : Str))=false:=by decide):PE X (.Name x pos) (tVar i):=pe_var hN hv hd hcd
end
def Same (H H':Hp):Prop:=∀b o,H b=some o->H' b=some o
theorem Same.refl (H:Hp):Same H H:=fun _ _ h=>h
theorem Same.trans {H H1 H2:Hp} (a:Same H H1) (b:Same H1 H2):Same H H2:=fun c o h=>b c o (a c o h)
theorem Same.free {H H':Hp} (e:Same H H') {l:Addr} (h:H' l=Option.none):H l=Option.none:=by
 cases q:H l with
 | none=>rfl
 | some o=>
  rw [e l o q] at h
  cases h
section
variable {κ:Type} [DecidableEq κ]
end
end L2
end
section
theorem L2.hide {p:Prop} (h:∀q:Prop,(p->q)->q):p:=h p id
end
section
namespace L2
open PySem PySem.Spec PyProof.Rows
theorem forIn_pureX {α β:Type} {f:α->β->Sem (ForInStep β)} (g:α->β->β):∀(l:List α) (b:β),(∀x∈l,∀c,f x c=pure (.yield (g x c)))->forIn l b f=pure (l.foldl (fun c x=>g x c) b)
 | [],b,_=>rfl
 | x::l,b,h=>by
  rw [List.forIn_cons,h x List.mem_cons_self,pure_bind]
  exact forIn_pureX g l (g x b) fun y hy=>h y (List.mem_cons_of_mem _ hy)
def closL (env:Env) (names:List (Str×NameKind)) (cs:List (Str×Addr)):List (Str×Addr):=
 names.foldl (fun c y=>if y.2 == NameKind.free then (y.1,(env.cells.lookup y.1).getD 0)::c else c) cs
theorem closureFor_closL {scope:Scope} {env:Env} (h:∀y∈scope.names,y.2=.free->∃c,env.cells.lookup y.1=some c):closureFor scope env=pure (closL env scope.names []):=by
 simp only [closureFor]
 rw [forIn_pureX (fun y c=>if y.2 == NameKind.free then (y.1,(env.cells.lookup y.1).getD 0)::c else c) scope.names [] (fun x hx c=>by
  obtain ⟨n,kind⟩:=x
  dsimp only
  by_cases hk:kind=.free
  ·subst hk
   obtain ⟨a,e⟩:=h (n,.free) hx rfl
   have e':env.cells.lookup n=some a:=e
   have:cellOf env n=pure a:=by unfold cellOf;rw [e']
   rw [this,e']
   rfl
  ·have hb:(kind == NameKind.free)=false:=by simpa using hk
   rw [hb];rfl)]
 simp only [pure_bind]
 rfl
theorem closL_mem {env:Env}:∀(names:List (Str×NameKind)) (cs:List (Str×Addr)),(∀y∈names,y.2=.free->∃c,env.cells.lookup y.1=some c)->(∀p∈cs,env.cells.lookup p.1=some p.2)->
  ∀p∈closL env names cs,env.cells.lookup p.1=some p.2
 | [],cs,_,hc=>hc
 | y::r,cs,h,hc=>by
  unfold closL
  rw [List.foldl_cons]
  refine closL_mem r _ (fun z hz=>h z (List.mem_cons_of_mem _ hz)) fun p hp=>?_
  by_cases hk:y.2=.free
  ·have hb:(y.2 == NameKind.free)=true:=by simpa using hk
   rw [if_pos hb] at hp
   rcases List.mem_cons.mp hp with e | hp
   ·obtain ⟨c,e1⟩:=h y List.mem_cons_self hk
    rw [e];dsimp only;rw [e1];rfl
   ·exact hc p hp
  ·have hb:¬(y.2 == NameKind.free)=true:=by simpa using hk
   rw [if_neg hb] at hp
   exact hc p hp
theorem closL_keeps {env:Env} {p:Str×Addr}:∀(names:List (Str×NameKind)) (cs:List (Str×Addr)),p∈cs->p∈closL env names cs
 | [],_,h=>h
 | y::r,cs,h=>by
  unfold closL
  rw [List.foldl_cons]
  refine closL_keeps r _ ?_
  split
  ·exact List.mem_cons_of_mem _ h
  ·exact h
theorem closL_has {env:Env} {x:Str}:∀(names:List (Str×NameKind)) (cs:List (Str×Addr)),(x,NameKind.free)∈names->∃c,(x,c)∈closL env names cs
 | y::r,cs,h=>by
  rcases List.mem_cons.mp h with e | h
  ·subst e
   exact ⟨_,by
    unfold closL;rw [List.foldl_cons]
    refine closL_keeps r _ ?_
    rw [if_pos (by rfl)]
    exact List.mem_cons_self⟩
  ·obtain ⟨c,hc⟩:=closL_has r (if y.2 == NameKind.free then (y.1,(env.cells.lookup y.1).getD 0)::cs else cs) h
   exact ⟨c,by unfold closL;rw [List.foldl_cons];exact hc⟩
theorem lookup_of_all {f:Str->Option Addr} {x:Str}:∀{cs:List (Str×Addr)},(∀p∈cs,f p.1=some p.2)->(∃c,(x,c)∈cs)->cs.lookup x=f x
 | [],_,⟨_,h⟩=>nomatch h
 | (n,a)::r,hc,⟨c,h⟩=>by
  rw [List.lookup_cons]
  by_cases e:x=n
  ·subst e
   rw [beq_self_eq_true]
   exact (hc (x,a) List.mem_cons_self).symm
  ·have hb:(x == n)=false:=by simpa using e
   rw [hb]
   refine lookup_of_all (fun p hp=>hc p (List.mem_cons_of_mem _ hp)) ⟨c,?_⟩
   rcases List.mem_cons.mp h with q | q
   ·exact absurd (congrArg Prod.fst q) e
   ·exact q
theorem relabel_free {env : Env} {y : Str} : ∀ {names : List (Str × NameKind)}, (∀ z ∈ names, z.2 ≠ .cell) →
    ((names.map fun (n, k) => if (k == NameKind.free && env.scope.kind == .function && env.kindOf n == some .cell) then (n, NameKind.cell) else (n, k)).lookup y = some .cell ∨
     (names.map fun (n, k) => if (k == NameKind.free && env.scope.kind == .function && env.kindOf n == some .cell) then (n, NameKind.cell) else (n, k)).lookup y = some .free) → names.lookup y = some .free
  | [], _, h => by rcases h with h | h <;> cases h
  | (n, k) :: r, hc, h => by
    have ih := @relabel_free env y r fun z hz => hc z (List.mem_cons_of_mem _ hz)
    rw [List.map_cons] at h
    rw [List.lookup_cons]
    by_cases e : y = n
    · subst e
      rw [beq_self_eq_true]
      by_cases hb : (k == NameKind.free && env.scope.kind == .function && env.kindOf y == some .cell) = true
      · have hk : k = .free := by
          rw [Bool.and_eq_true, Bool.and_eq_true] at hb
          simpa using hb.1.1
        rw [hk]
      · dsimp only at h
        rw [if_neg hb, List.lookup_cons, beq_self_eq_true] at h
        dsimp only at h
        rcases h with h | h
        · exact absurd (Option.some.inj h) (hc (y, k) List.mem_cons_self)
        · exact h
    · have hn : (y == n) = false := by simpa using e
      rw [hn]
      dsimp only at h ⊢
      apply ih
      by_cases hb : (k == NameKind.free && env.scope.kind == .function && env.kindOf n == some .cell) = true
      · rw [if_pos hb, List.lookup_cons, hn] at h
        exact h
      · rw [if_neg hb, List.lookup_cons, hn] at h
        exact h
structure CB where
 C:Addr
 cl:List (Str×Addr)
 s2:Shared
 H2:Hp
 ex:List Addr
@[reducible] def cxC (X:Cx) (scope:Scope) (N:List Str) (c:CB):Cx:=
 { prog:=X.prog,w:=X.w,K:=X.K,mg:=X.mg,base:=X.base,A:=X.A,N:=N,s₀:=c.s2,H₀:=c.H2,env:=compEnvC scope c.cl c.C X.env,outer:=X.stack,stack:=X.stack,ex:=c.ex,fn:=fun _=>false,calm:=X.calm,pn:=[],xe:=fun _ _=>False }
def subS (σ:St) (idx:List Nat):St:=idx.map fun i=>(σ[i]?).join
def subN (N:List Str) (idx:List Nat):List Str:=idx.map fun i=>N.getD i ""
def PIfs (X:Cx) (ifs:List Expr) (t:TT):Prop:=
 ∀(pins:List (Addr×Obj)) (s:Shared) (σ:St) (H:Hp) (Q:Bool->Hp->Prop),Inv X pins σ H s->t σ H Q->
  wpAny (model X.prog X.w) X.A (forIn ifs true fun c r=>if r=true then do let ok <-isTrue c X.env (eval c X.env);pure (ForInStep.yield ok) else pure (ForInStep.yield r)) (TP X pins σ Q) X.xe s
def tYes:TT:=fun _ H Q=>Q true H
theorem pifs_nil {X:Cx}:PIfs X [] tYes:=fun _ _ _ H _ I h=>wpAny_tests_nil ⟨H,I,h⟩
theorem pifs_one {X:Cx} {e:Expr} {t:TT} (h:PT X e t):PIfs X [e] t:=fun pins s σ H Q I q=>wpAny_tests_one (h pins s σ H Q I q)
def tComp (wi:TI) (k:Nat) (idx:List Nat) (g:CB->TG) (tt:CB->TT) (te:CB->TE):TE:=fun σ H Q=>wi σ H fun J H1=>∀D,H1 D=none->∃W:Nat->Nat->List V->Hp->Prop,(∃m,W 0 m [] (upd H1 D (.lst [])))/\
 ∀i m ys H',W i m ys H'->(J.stop i H'/\Q (.ref D) H')\/(J.go i H'/\∃N:List V->Hp->Prop,(∀ys' H'',N ys' H''->∃m',m' < m/\W (i+1) m' ys' H'')/\∀(c:CB) (own:St),own.length=k->∀x H2,J.yld i H' x H2->g c x (own++subS σ idx) H2 fun σ3 H3=>
  (∃own',own'.length=k/\σ3=own'++subS σ idx)/\tt c σ3 H3 fun b H4=>if b=true then te c σ3 H4 fun y H5=>H5 D=some (.lst ys)/\ys.length < sizeLine/\N (ys++[y]) (upd H5 D (.lst (ys++[y]))) else N ys H4)
structure CScope (X:Cx) (scope:Scope) (xs:List Str) (idx:List Nat):Prop where
 kind:scope.kind=.function
 nocell:∀y∈scope.names,y.2≠.cell
 loc:∀y∈scope.names,y.2=.local->scope.names.lookup y.1=some .local
 free:∀y∈scope.names,y.2=.free->scope.names.lookup y.1=some .free/\(X.env.kindOf y.1=some .cell\/X.env.kindOf y.1=some .free)
 ix:∀i∈idx,∃y,X.N[i]? = some y/\scope.names.lookup y=some .free
section
variable {prog:Program} {w:World} {A:Around} {R:Result->Shared->Prop} {s:Shared}
theorem codeAny_compLoop_any {elt target iter:Expr} {ifs:List Expr} {scope:Scope} {pos:Pos} {it acc:Value} {env:Env} (I:Nat->Shared->Prop)
  (turn:∀n s,I n s->wpAny (model prog w) A (pyNext it) (fun r s₁=>match r with
   | none=>R (.ok .next) s₁
   | some v=>wpAny (model prog w) A (letOwnedTupleGo target it v) (fun _ s₁'=>wpAny (model prog w) A (assign target env v) (fun _ s₂=>
     wpAny (model prog w) A (forIn ifs true fun c r=>if r=true then do let ok <-isTrue c env (eval c env);pure (ForInStep.yield ok) else pure (ForInStep.yield r)) (fun ok s₃=>
      if ok=true then wpAny (model prog w) A (eval elt env) (fun x s₄=>
       wpAny (model prog w) A (call (.builtin "list.append") [acc,x]) (fun _ s₅=>∃m,m < n/\I m s₅) (fun _ _=>False) s₄) (fun _ _=>False) s₃
      else ∃m,m < n/\I m s₃) (fun _ _=>False) s₂) (fun _ _=>False) s₁') (fun _ _=>False) s₁) (fun _ _=>False) s)
  (n:Nat) (h:I n s) :
  codeAny (model prog w) A (.compLoop (.ListComp elt [⟨target,iter,ifs,0⟩] scope pos) 0 it acc env) R s:=by
 refine codeAny_loop rfl I (fun n s hI=>?_) n h
 show wpAny _ A ((compTurn (.ListComp elt [⟨target,iter,ifs,0⟩] scope pos) 0 it acc env).onRaise (fun x=>do noteFrame x env;theTreesLotGoes x)) _ _ s
 refine wpAny_noted ?_
 rw [compTurn_list]
 refine wpAny_bind (wpAny_standAt (wpAny_bind (wpAny_mono (turn n s hI) (fun r s₁ h₁=>?_) fun _ _ h'=>False.elim h')))
 cases r with
 | none=>exact wpAny_pure h₁
 | some v=>
  refine wpAny_bind (wpAny_mono h₁ (fun _ s₁' h₁'=>?_) fun _ _ h'=>False.elim h')
  refine wpAny_bind (wpAny_mono h₁' (fun _ s₂ h₂=>wpAny_bind (wpAny_mono h₂ (fun ok s₃ h₃=>?_) fun _ _ h'=>False.elim h')) fun _ _ h'=>False.elim h')
  cases ok with
  | false=>exact wpAny_pure ⟨rfl,h₃⟩
  | true=>
   exact wpAny_bind (wpAny_bind (wpAny_mono h₃ (fun x s₄ h₄=>wpAny_bind (wpAny_mono h₄ (fun _ s₅ h₅=>wpAny_pure (wpAny_pure ⟨rfl,h₅⟩)) fun _ _ h'=>False.elim h')) fun _ _ h'=>False.elim h'))
end
section
variable {X:Cx} {pins:List (Addr×Obj)} {σ:St} {H:Hp} {s:Shared}
theorem HOk.but {P:Program} {w:World} {h h':Heap} {C:Addr} (x:HOk P w H h) (hn:H C=none) (hs:Heap.SameBut C h h'):HOk P w H h':=fun b ob e=>by
 refine (x b ob e).stay (fun c w' hc q=>(hs.2 c ?_).trans q) (fun _ q=>q) fun _ _ q=>q
 rintro rfl
 rcases hc with rfl | hc
 ·rw [hn] at e;cases e
 ·rw [hn] at hc;cases hc
theorem Un.but {fs ex:List Addr} {H':Hp} {h h1 h2:Heap} {C:Addr} (u:Un fs ex H H' h h1) (hC:h.get? C=none) (hs:Heap.SameBut C h1 h2):Un fs ex H H' h h2:=by
 have ne:∀b o,h.get? b=some o->b≠C:=fun b o e z=>by rw [z,hC] at e;cases e
 exact ⟨fun b o e n h1 h2=>(hs.2 b (ne b o e)).trans (u.keep b o e n h1 h2),fun b o e n h1 h2=>by
   obtain ⟨sl,q⟩:=u.slot b o e n h1 h2
   exact ⟨sl,(hs.2 b (ne b o e)).trans q⟩,u.free,fun b o e h2=>by
   obtain ⟨o',q⟩:=u.there b o e h2
   exact ⟨o',(hs.2 b (ne b o e)).trans q⟩,u.tups,u.frzs,u.tbls⟩
theorem subS_get {idx:List Nat} {j:Nat} {v:V} (h:(subS σ idx)[j]? = some (some v)):∃i,idx[j]? = some i/\σ[i]? = some (some v):=by
 unfold subS at h
 rw [List.getElem?_map] at h
 cases e:idx[j]? with
 | none=>rw [e] at h;cases h
 | some i=>
  rw [e] at h
  refine ⟨i,rfl,?_⟩
  have h':(σ[i]?).join=some v:=Option.some.inj h
  cases q:σ[i]? with
  | none=>rw [q] at h';cases h'
  | some o=>rw [q] at h';cases o with
   | none=>cases h'
   | some z=>cases h';rfl
theorem subN_get {N:List Str} {idx:List Nat} {j i:Nat} {y:Str} (h:idx[j]? = some i) (e:N[i]? = some y):(subN N idx)[j]? = some y:=by
 unfold subN
 rw [List.getElem?_map,h]
 show some (N.getD i "")=some y
 rw [List.getD_eq_getElem?_getD,e];rfl
theorem Inv.block {scope:Scope} {xs:List Str} {idx:List Nat} {fp:List Addr} {C:Addr} {h':Heap} {t':Nat} {H1:Hp} {D:Addr} {m0:Str->Option Value} (I:Inv X pins σ H s) (S:CScope X scope xs idx)
  (hfp:∀b∈fp,FpOk X pins H b) (hfo:∀b∈fp,∃o,s.heap.get? b=some o) (hC:s.heap.objs.size<=C) (hDC:D≠C) (hD:s.heap.objs.size<=D) (hn:h'.Ns C m0) (hk:∀b o,s.heap.get? b=some o->h'.get? b=some o)
  (hl:∃n,h'.get? D=some { cls:=.type "list",data:=.seq #[] n }) :
  Inv (cxC X scope (xs++subN X.N idx) ⟨C,closL X.env scope.names [],s,H,fp⟩) [] (List.replicate xs.length none++subS σ idx) (upd H D (.lst [])) { s with heap:=h',toks:=t' }:=by
 have hfree:∀y∈scope.names,y.2=.free->∃c,X.env.cells.lookup y.1=some c:=fun y hy e=>I.ok.has y.1 (S.free y hy e).2
 have hall:=closL_mem (env:=X.env) scope.names [] hfree (fun p hp=>(nomatch hp))
 have hcell:∀y c,(closL X.env scope.names []).lookup y=some c->X.env.cells.lookup y=some c:=fun y c e=>hall (y,c) (PySem.mem_of_lookup e)
 have hhas:∀y,scope.names.lookup y=some .free->(closL X.env scope.names []).lookup y=X.env.cells.lookup y:=fun y e=>lookup_of_all (f:=fun n=>X.env.cells.lookup n) hall (closL_has scope.names [] (PySem.mem_of_lookup e))
 have lt:∀b,(∃o,s.heap.get? b=some o)->b < s.heap.objs.size:=fun b ⟨o,e⟩=>Heap.lt_size e
 have hDn:H D=none:=I.hok.fresh hD
 refine ⟨⟨I.ok.mod,S.kind,I.ok.glob,I.ok.blt,hC,fun x y c h1 h2=>I.ok.inj x y c (hcell x c h1) (hcell y c h2),fun y hy=>?_,fun _ _ e=>(nomatch e),I.ok.hd,I.ok.frames,.inl rfl,fun b hb=>⟨?_,fun x c e=>(hfp b hb).2.2.2.2.1 x c (hcell x c e)⟩,I.bs,Nat.le_trans I.ok.bsz I.sz,fun b o e hb=>?_,fun b hb z=>?_,I.stack,I.stkFree⟩,
  rfl,I.bare,?_,⟨m0,hn,fun i y v e1 e2 hv=>?_⟩,fun x c e=>?_,?_,fun x c e=>?_,fun p hp=>(nomatch hp),?_,?_⟩
 ·
  have q:scope.names.lookup y=some .free:=relabel_free S.nocell hy
  have q2:=PySem.mem_of_lookup q
  obtain ⟨c,e⟩:=hfree _ q2 rfl
  exact ⟨c,(hhas y q).trans e⟩
 ·
  exact Nat.ne_of_lt (Nat.lt_of_lt_of_le (lt b (hfo b hb)) hC)
 ·
  rcases (hfp b hb).2.2.2.1 with z | z
  ·exact I.ok.noex b o e z
  ·exact absurd (Nat.lt_of_lt_of_le (Heap.lt_size e) (Nat.le_trans I.ok.bsz z)) (Nat.lt_irrefl _)
 ·
  rcases List.mem_cons.mp (I.stkSub b z) with q | q
  ·exact (hfp b hb).2.1 q
  ·exact (hfp b hb).2.2.1 q
 ·
  exact Un.laid hk hD hDn
 ·
  by_cases hi:i < xs.length
  ·rw [List.getElem?_append_left (by simpa using hi)] at e2
   rw [List.getElem?_replicate] at e2
   split at e2 <;> cases e2
  ·have hi':xs.length<=i:=Nat.le_of_not_lt hi
   rw [List.getElem?_append_right (by simpa using hi'),List.length_replicate] at e2
   obtain ⟨i0,ei,es⟩:=subS_get e2
   obtain ⟨y',ey,ef⟩:=S.ix i0 (List.mem_of_getElem? ei)
   have e1':(xs++subN X.N idx)[i]? = some y:=e1
   rw [List.getElem?_append_right hi',subN_get ei ey] at e1'
   cases e1'
   obtain ⟨m,hm,hl'⟩:=I.loc
   have ef2:=S.free (y,.free) (PySem.mem_of_lookup ef) rfl
   have vis:Vis X.env.scope y:=.inr ef2.2
   obtain ⟨u,ru,lk⟩:=hl' i0 y v ey es vis
   refine ⟨u,ru,?_⟩
   rcases lk with ⟨k1,_⟩ | ⟨_,c,ec,hc⟩
   ·rcases ef2.2 with z | z
    ·have z':X.env.kindOf y=some .cell:=z
     rw [k1] at z';cases z'
    ·have z':X.env.kindOf y=some .free:=z
     rw [k1] at z';cases z'
   ·refine .inr ⟨?_,c,(hhas y ef).trans ec,hc.keeps hk⟩
    rcases hv with z | z | z
    ·exfalso
     have z':(relabel scope X.env).names.lookup y=some .local:=z
     have:∀(names:List (Str×NameKind)),names.lookup y=some .free->(names.map fun (n,k)=>if (k == NameKind.free && X.env.scope.kind == .function && X.env.kindOf n == some .cell) then (n,NameKind.cell) else (n,k)).lookup y≠some .local:=by
      intro names
      induction names with
      | nil=>intro h;cases h
      | cons p r ih=>
       obtain ⟨n,k⟩:=p
       intro h
       rw [List.map_cons]
       by_cases e:y=n
       ·subst e
        rw [List.lookup_cons,beq_self_eq_true] at h
        cases h
        dsimp only
        split
        ·rw [List.lookup_cons,beq_self_eq_true];exact fun q=>nomatch q
        ·rw [List.lookup_cons,beq_self_eq_true];exact fun q=>nomatch q
       ·have hn:(y == n)=false:=by simpa using e
        rw [List.lookup_cons,hn] at h
        dsimp only
        split
        ·rw [List.lookup_cons,hn];exact ih h
        ·rw [List.lookup_cons,hn];exact ih h
     exact this scope.names ef z'
    ·exact .inl z
    ·exact .inr z
 ·
  obtain ⟨v,q⟩:=I.cell x c (hcell x c e)
  exact ⟨v,q.keeps hk⟩
 ·
  show upd H D (.lst []) C=none
  rw [upd_ne (Ne.symm hDC)]
  exact I.hok.fresh hC
 ·
  have e':=hcell x c e
  obtain ⟨v,q⟩:=I.cell x c e'
  rw [upd_ne (Nat.ne_of_lt (Nat.lt_of_lt_of_le q.lt hD))]
  exact I.freeC x c e'
 ·
  obtain ⟨n,e⟩:=hl
  exact I.hok.laid hk hD ⟨Nat.zero_le _,[],n,.nil,e⟩
 ·show (List.replicate xs.length none++subS σ idx).length=(xs++subN X.N idx).length
  rw [List.length_append,List.length_append,List.length_replicate]
  unfold subS subN
  rw [List.length_map,List.length_map]
end
section
variable {X:Cx} {elt target iter:Expr} {ifs:List Expr} {scope:Scope} {pos:Pos} {xs:List Str} {idx:List Nat} {wi:TI} {g:CB->TG} {tt:CB->TT} {te:CB->TE}
theorem comp_run {pins:List (Addr×Obj)} {σ:St} {H2:Hp} {s2:Shared} {fp:List Addr} {it:Addr} {tn:Nat->Heap->Prop} {J:It} {Q:V->Hp->Prop} {RR:Value->Addr->Result->Shared->Prop} {E:Value->Shared->Prop} (hc:X.calm=true) (S:CScope X scope xs idx)
  (hg:∀c,PG (cxC X scope (xs++subN X.N idx) c) target (g c)) (ht:∀c,PIfs (cxC X scope (xs++subN X.N idx) c) ifs (tt c)) (he:∀c,PE (cxC X scope (xs++subN X.N idx) c) elt (te c))
  (I2:Inv X pins σ H2 s2) (T:Turn X.prog X.w X.K target J fp it tn) (st2:tn 0 s2.heap) (f2:∀b∈fp,FpOk X pins H2 b)
  (h:∀D,H2 D=none->∃W:Nat->Nat->List V->Hp->Prop,(∃m,W 0 m [] (upd H2 D (.lst [])))/\
   ∀i m ys H',W i m ys H'->(J.stop i H'/\Q (.ref D) H')\/(J.go i H'/\∃N:List V->Hp->Prop,(∀ys' H'',N ys' H''->∃m',m' < m/\W (i+1) m' ys' H'')/\∀(c:CB) (own:St),own.length=xs.length->∀x H2,J.yld i H' x H2->g c x (own++subS σ idx) H2 fun σ3 H3=>
    (∃own',own'.length=xs.length/\σ3=own'++subS σ idx)/\tt c σ3 H3 fun b H4=>if b=true then te c σ3 H4 fun y H5=>H5 D=some (.lst ys)/\ys.length < sizeLine/\N (ys++[y]) (upd H5 D (.lst (ys++[y]))) else N ys H4))
  (hRR:∀D C σ' H' s',s2.heap.objs.size<=C->Inv (cxC X scope (xs++subN X.N idx) ⟨C,closL X.env scope.names [],s2,H2,fp⟩) [] σ' H' s'->Q (.ref D) H'->RR (.ref D) C (.ok .next) s') :
  wpAny (model X.prog X.w) X.A (newList []) (fun acc s₃=>wpAny (model X.prog X.w) X.A (newFunctionEnv scope X.env.globals (closL X.env scope.names []) [] X.env.qual none .none (some X.env)) (fun cenv s₄=>
   codeAny (model X.prog X.w) X.A (.compStart (.ListComp elt [⟨target,iter,ifs,0⟩] scope pos) 0 (.ref it) acc { cenv with scope:=relabel scope X.env }) (RR acc cenv.locals) s₄) E s₃) E s2:=by
 refine wpAny_newObj_type (wpAny_newFunctionEnv S.nocell (by intro y hy;simp at hy) (fun h₁ hns₁ hsb₁=>?_) S.kind)
 dsimp only at hns₁ hsb₁ ⊢
 generalize hH2:s2.heap.push { cls:=.type "list",dict:=none,data:=.seq ([]:List Value).toArray }=HH at hns₁ hsb₁ ⊢
 have hCs:HH.objs.size=s2.heap.objs.size+1:=by rw [<-hH2,Heap.size_push]
 have hDC:s2.heap.objs.size≠HH.objs.size:=by rw [hCs];exact Nat.ne_of_lt (Nat.lt_succ_self _)
 have hCle:s2.heap.objs.size<=HH.objs.size:=by rw [hCs];exact Nat.le_succ _
 have old:∀b o,s2.heap.get? b=some o->h₁.get? b=some o:=fun b o e=>hsb₁.extBut b o (by rw [hCs];exact Nat.ne_of_lt (Nat.lt_succ_of_lt (Heap.lt_size e))) (Heap.get?_push_of_some _ (hH2 ▸ Heap.get?_push_of_some _ e))
 have hacc:∃n,h₁.get? s2.heap.objs.size=some { cls:=.type "list",data:=.seq #[] n }:=⟨_,hsb₁.extBut _ _ hDC (Heap.get?_push_of_some _ (hH2 ▸ Heap.get?_push_size _ rfl))⟩
 have st1:tn 0 h₁:=T.keep _ _ _ st2 fun b _ o e=>old b o e
 obtain ⟨W,⟨m0,w0⟩,turn⟩:=h s2.heap.objs.size I2.fresh
 have loop:∀s₃:Shared,s₃={ s2 with heap:=h₁,toks:=s2.toks+([]:List (Str×Value)).length }->
   codeAny (model X.prog X.w) X.A (.compLoop (.ListComp elt [⟨target,iter,ifs,0⟩] scope pos) 0 (.ref it) (.ref s2.heap.objs.size) (compEnvC scope (closL X.env scope.names []) HH.objs.size X.env)) (RR (.ref s2.heap.objs.size) HH.objs.size) s₃:=by
  rintro s₃ rfl
  have I3:=I2.block (t':=s2.toks+([]:List (Str×Value)).length) (H1:=H2) S f2 (fun b hb=>let ⟨o,e,_⟩:=T.obj _ _ st2 b hb;⟨o,e⟩) hCle hDC (Nat.le_refl _) hns₁ old hacc
  generalize hY:cxC X scope (xs++subN X.N idx) ⟨HH.objs.size,closL X.env scope.names [],s2,H2,fp⟩=Y at I3
  have eY:Y=cxC X scope (xs++subN X.N idx) ⟨HH.objs.size,closL X.env scope.names [],s2,H2,fp⟩:=hY.symm
  have nof:∀b∈fp,b∉Y.fs:=fun b hb z=>by
   rw [eY] at z
   rcases List.mem_cons.mp (I2.stkSub b z) with q | q
   ·exact (f2 b hb).2.1 q
   ·exact (f2 b hb).2.2.1 q
  have stat:∀{H':Hp},(∀b∈fp,H' b=none)->∀b∈fp,FpOk Y [] H' b:=fun {H'} hn b hb=>by
   have lt:b < s2.heap.objs.size:=let ⟨o,e,_⟩:=T.obj _ _ st2 b hb;Heap.lt_size e
   refine ⟨hn b hb,?_,nof b hb,.inl (by rw [eY];exact hb),fun x c e=>?_,fun p hp=>?_⟩
   ·rw [eY];exact Nat.ne_of_lt (Nat.lt_of_lt_of_le lt hCle)
   ·rw [eY] at e
    have hall:=closL_mem (env:=X.env) scope.names [] (fun y hy e=>I2.ok.has y.1 (S.free y hy e).2) (fun p hp=>nomatch hp)
    exact (f2 b hb).2.2.2.2.1 x c (hall (x,c) (PySem.mem_of_lookup e))
   ·rw [eY] at hp;exact nomatch hp
  have T':Turn Y.prog Y.w Y.K target J fp it tn:=by rw [eY];exact T
  have hg':PG Y target (g ⟨HH.objs.size,closL X.env scope.names [],s2,H2,fp⟩):=by rw [eY];exact hg _
  have ht':PIfs Y ifs (tt ⟨HH.objs.size,closL X.env scope.names [],s2,H2,fp⟩):=by rw [eY];exact ht _
  have he':PE Y elt (te ⟨HH.objs.size,closL X.env scope.names [],s2,H2,fp⟩):=by rw [eY];exact he _
  have hcY:Y.calm=true:=by rw [eY];exact hc
  have eA:Y.A=X.A:=by rw [eY]
  have eP:Y.prog=X.prog:=by rw [eY]
  have eW:Y.w=X.w:=by rw [eY]
  have eE:Y.env=compEnvC scope (closL X.env scope.names []) HH.objs.size X.env:=by rw [eY]
  have eX:Y.xe=fun _ _=>False:=by rw [eY]
  have fin:∀σ' H' s',Inv Y [] σ' H' s'->Q (.ref s2.heap.objs.size) H'->RR (.ref s2.heap.objs.size) HH.objs.size (.ok .next) s':=fun σ' H' s' I' q=>hRR _ _ σ' H' s' hCle (by rw [<-eY];exact I') q
  rw [<-eE,<-eA,<-eP,<-eW]
  have fr0:∀b∈fp,(upd H2 s2.heap.objs.size (.lst [])) b=none:=fun b hb=>by
   have lt:b < s2.heap.objs.size:=let ⟨o,e,_⟩:=T.obj _ _ st2 b hb;Heap.lt_size e
   rw [upd_ne (Nat.ne_of_lt lt)];exact (f2 b hb).1
  refine codeAny_compLoop_any (fun n s'=>∃i ys own H',own.length=xs.length/\Inv Y [] (own++subS σ idx) H' s'/\tn i s'.heap/\(∀b∈fp,H' b=none)/\W i n ys H') ?_ m0
   ⟨0,[],_,_,List.length_replicate,I3,st1,fr0,w0⟩
  rintro n s4 ⟨i,ys,own,H4,hown,I4,st4,fr4,w4⟩
  rcases turn i n ys H4 w4 with ⟨stop,qn⟩ | ⟨go,NN,hNN,step⟩
  ·exact thn (T'.done Y rfl rfl rfl hcY i [] s4 _ H4 _ I4 (stat fr4) st4 stop) fun r s5 ⟨hr,I5⟩=>by subst hr;exact fin _ _ _ I5 qn
  ·refine thn (T'.item Y rfl rfl rfl hcY i [] s4 _ H4 _ I4 (stat fr4) st4 go) fun r s5 ⟨u,hr,h5⟩=>?_
   subst hr
   refine thn h5 fun _ s6 ⟨x,H6,I6,r6,y6,st6,fr6⟩=>?_
   have I6':=I6.pinned (stat fr6) (T'.obj _ _ st6)
   have step':=step ⟨HH.objs.size,closL X.env scope.names [],s2,H2,fp⟩ own hown x H6 y6
   refine wpAny_mono (hg' _ s6 _ H6 x u _ I6' r6 step') (fun _ s7 ⟨σ7,H7,I7,q7⟩=>?_) (fun _ _ z=>by rw [eX] at z;exact z)
   obtain ⟨⟨own7,ho7,e7⟩,q7⟩:=q7
   refine wpAny_mono (ht' _ s7 σ7 H7 _ I7 q7) (fun b s8 ⟨H8,I8,q8⟩=>?_) (fun _ _ z=>by rw [eX] at z;exact z)
   have again:∀{H9:Hp} {s9:Shared} {ys':List V},Inv Y ([]++pinsAt fp s6.heap) σ7 H9 s9->NN ys' H9->∃m,m < n/\∃i ys own H',own.length=xs.length/\Inv Y [] (own++subS σ idx) H' s9/\tn i s9.heap/\(∀b∈fp,H' b=none)/\W i m ys H':=fun {H9 s9 ys'} I9 n9=>by
    obtain ⟨m',hm,w9⟩:=hNN _ _ n9
    rw [e7] at I9
    refine ⟨m',hm,i+1,ys',own7,H9,ho7,I9.unpinned,T'.keep _ _ _ st6 fun b hb o e=>(I9.pin (b,o) (List.mem_append_right _ (List.mem_append_right _ (mem_pinsAt hb e)))).1,fun b hb=>?_,w9⟩
    obtain ⟨o,e,d⟩:=T'.obj _ _ st6 b hb
    exact (I9.pin (b,o) (List.mem_append_right _ (List.mem_append_right _ (mem_pinsAt hb e)))).2.1
   cases b with
   | false=>exact again I8 q8
   | true=>
    refine wpAny_mono (he' _ s8 σ7 H8 _ I8 q8) (fun u9 s9 ⟨y,H9,I9,r9,hy,hz,q9⟩=>?_) (fun _ _ z=>by rw [eX] at z;exact z)
    have ap:=mt_append (X:=Y) _ s9 σ7 H9 (.ref s2.heap.objs.size) [y] (.ref s2.heap.objs.size) [u9] (fun _ H10=>NN (ys++[y]) H10) I9 rfl (.cons r9 .nil) ⟨_,ys,y,rfl,rfl,hy,hz,q9⟩
    refine wpAny_mono ap (fun _ s10 ⟨_,H10,I10,_,q10⟩=>again I10 q10) (fun _ _ z=>by rw [eX] at z;exact z)
 exact codeAny_compStart_list (loop _ rfl) (T.self _ 0 _ _ _ st1 (loop _ rfl))
theorem pe_comp (hc:X.calm=true) (S:CScope X scope xs idx) (hi:PI X target iter wi)
  (hg:∀c,PG (cxC X scope (xs++subN X.N idx) c) target (g c)) (ht:∀c,PIfs (cxC X scope (xs++subN X.N idx) c) ifs (tt c)) (he:∀c,PE (cxC X scope (xs++subN X.N idx) c) elt (te c))
  (hs:∀x,foldedSetIterable iter X.env x=pure x:=by intro _;rfl):PE X (.ListComp elt [⟨target,iter,ifs,0⟩] scope pos) (tComp wi xs.length idx g tt te):=by
 intro pins s σ H Q I h
 rw [eval_ListComp]
 have hclos:closureFor scope X.env=pure (closL X.env scope.names []):=closureFor_closL fun y hy e=>I.ok.has y.1 (S.free y hy e).2
 refine wpAny_comprehension_free (use:=none) rfl hs hclos S.kind S.loc (thn (hi pins s σ H _ I h) fun xv s₁ h₁=>thn h₁ fun itv s₂ h₂=>?_)
 obtain ⟨it,fp,tn,J,H2,e,I2,T,st2,f2,hW⟩:=h₂
 subst e
 refine comp_run (Q:=Q) (RR:=fun acc C=>compPost (model X.prog X.w) X.A X.xe none (EP X pins σ Q) acc C) hc S hg ht he I2 T st2 f2 hW ?_
 intro D C σ' H' s' hC I' q
 obtain ⟨m',hn,_⟩:=I'.loc
 refine ⟨m',hn,fun h'' hs''=>?_⟩
 obtain ⟨hh,gg,d,t,os⟩:=s'
 obtain rfl:os=s₂.os:=I'.os
 have Cn:s₂.heap.get? C=none:=Heap.get?_none_of_le hC
 refine ⟨.ref D,H',I2.call (s:=s₂) (h':=h'') (g':=gg) (d':=d) (t':=t) (ch:=fp) (I'.base.but Cn hs'') (I'.hok.but I'.free hs'') I'.bare (fun b hb=>?_),rfl,q⟩
 obtain ⟨_,f1,_,f3,f4,f5⟩:=f2 b hb
 exact ⟨f3,f1,f4,f5⟩
end
theorem comp_range {lo:Int} {n k:Nat} {idx:List Nat} {g:CB->TG} {tt:CB->TT} {te:CB->TE} {σ:St} {Q:VK} {H1:Hp} {D:Addr} (Pv:Nat->List V->Hp->Prop) (h0:Pv 0 [] (upd H1 D (.lst [])))
  (hs:∀i ys H,i < n->Pv i ys H->∀(c:CB) (own:St),own.length=k->g c (.int (lo+i)) (own++subS σ idx) H fun σ3 H3=>
   (∃own',own'.length=k/\σ3=own'++subS σ idx)/\tt c σ3 H3 fun b H4=>if b=true then te c σ3 H4 fun y H5=>H5 D=some (.lst ys)/\ys.length < sizeLine/\Pv (i+1) (ys++[y]) (upd H5 D (.lst (ys++[y]))) else Pv (i+1) ys H4)
  (hd:∀ys H,Pv n ys H->Q (.ref D) H) :
  ∃W:Nat->Nat->List V->Hp->Prop,(∃m,W 0 m [] (upd H1 D (.lst [])))/\
   ∀i m ys H',W i m ys H'->((Itr lo n).stop i H'/\Q (.ref D) H')\/((Itr lo n).go i H'/\∃N:List V->Hp->Prop,(∀ys' H'',N ys' H''->∃m',m' < m/\W (i+1) m' ys' H'')/\∀(c:CB) (own:St),own.length=k->∀x H2,(Itr lo n).yld i H' x H2->g c x (own++subS σ idx) H2 fun σ3 H3=>
    (∃own',own'.length=k/\σ3=own'++subS σ idx)/\tt c σ3 H3 fun b H4=>if b=true then te c σ3 H4 fun y H5=>H5 D=some (.lst ys)/\ys.length < sizeLine/\N (ys++[y]) (upd H5 D (.lst (ys++[y]))) else N ys H4):=by
 refine ⟨fun i m ys H=>m=n - i/\i<=n/\Pv i ys H,⟨n,by simp,Nat.zero_le _,h0⟩,?_⟩
 rintro i m ys H ⟨rfl,hi,p⟩
 by_cases hlt:i < n
 ·refine .inr ⟨hlt,Pv (i+1),fun ys' H' p'=>⟨n - (i+1),by omega,rfl,hlt,p'⟩,fun c own ho x H' y=>?_⟩
  obtain ⟨e,y⟩:=y
  subst e y
  exact hs i ys _ hlt p c own ho
 ·have e:i=n:=by omega
  subst e
  exact .inl ⟨Nat.le_refl _,hd ys H p⟩
theorem comp_list {K:PySem.W.Frag} {a:Addr} {zs:List V} {k:Nat} {idx:List Nat} {g:CB->TG} {tt:CB->TT} {te:CB->TE} {σ:St} {Q:VK} {H1:Hp} {D:Addr} (Pv:Nat->List V->Hp->Prop) (h0:Pv 0 [] (upd H1 D (.lst [])))
  (hl:∀i ys H,i<=zs.length->Pv i ys H->SqL K H a zs)
  (hs:∀i x ys H,zs[i]? = some x->Pv i ys H->∀(c:CB) (own:St),own.length=k->g c x (own++subS σ idx) H fun σ3 H3=>
   (∃own',own'.length=k/\σ3=own'++subS σ idx)/\tt c σ3 H3 fun b H4=>if b=true then te c σ3 H4 fun y H5=>H5 D=some (.lst ys)/\ys.length < sizeLine/\Pv (i+1) (ys++[y]) (upd H5 D (.lst (ys++[y]))) else Pv (i+1) ys H4)
  (hd:∀ys H,Pv zs.length ys H->Q (.ref D) H) :
  ∃W:Nat->Nat->List V->Hp->Prop,(∃m,W 0 m [] (upd H1 D (.lst [])))/\
   ∀i m ys H',W i m ys H'->((Itl K a).stop i H'/\Q (.ref D) H')\/((Itl K a).go i H'/\∃N:List V->Hp->Prop,(∀ys' H'',N ys' H''->∃m',m' < m/\W (i+1) m' ys' H'')/\∀(c:CB) (own:St),own.length=k->∀x H2,(Itl K a).yld i H' x H2->g c x (own++subS σ idx) H2 fun σ3 H3=>
    (∃own',own'.length=k/\σ3=own'++subS σ idx)/\tt c σ3 H3 fun b H4=>if b=true then te c σ3 H4 fun y H5=>H5 D=some (.lst ys)/\ys.length < sizeLine/\N (ys++[y]) (upd H5 D (.lst (ys++[y]))) else N ys H4):=by
 refine ⟨fun i m ys H=>m=zs.length - i/\i<=zs.length/\Pv i ys H,⟨zs.length,by simp,Nat.zero_le _,h0⟩,?_⟩
 rintro i m ys H ⟨rfl,hi,p⟩
 have q:=hl i ys H hi p
 by_cases hlt:i < zs.length
 ·refine .inr ⟨⟨zs,zs[i],q,by simp [hlt]⟩,Pv (i+1),fun ys' H' p'=>⟨zs.length - (i+1),by omega,rfl,hlt,p'⟩,fun c own ho x H' y=>?_⟩
  obtain ⟨e,y⟩:=y
  subst e
  exact hs i x ys _ (y zs q) p c own ho
 ·have e:i=zs.length:=by omega
  subst e
  exact .inl ⟨⟨zs,q,Nat.le_refl _⟩,hd ys H p⟩
theorem own1 {own:St} {k:St} {x:V} (h:own.length=1):(own++k).set 0 (some x)=[some x]++k:=by
 match own,h with
 | [_],_=>rfl
theorem comp_range1 {lo:Int} {n:Nat} {idx:List Nat} {tt:CB->TT} {te:CB->TE} {σ:St} {Q:VK} {H1:Hp} {D:Addr} (Pv:Nat->List V->Hp->Prop) (h0:Pv 0 [] (upd H1 D (.lst [])))
  (hs:∀i ys H,i < n->Pv i ys H->∀(c:CB),tt c (some (.int (lo+i))::subS σ idx) H fun b H4=>if b=true then te c (some (.int (lo+i))::subS σ idx) H4 fun y H5=>H5 D=some (.lst ys)/\ys.length < sizeLine/\Pv (i+1) (ys++[y]) (upd H5 D (.lst (ys++[y]))) else Pv (i+1) ys H4)
  (hd:∀ys H,Pv n ys H->Q (.ref D) H) :
  ∃W:Nat->Nat->List V->Hp->Prop,(∃m,W 0 m [] (upd H1 D (.lst [])))/\
   ∀i m ys H',W i m ys H'->((Itr lo n).stop i H'/\Q (.ref D) H')\/((Itr lo n).go i H'/\∃N:List V->Hp->Prop,(∀ys' H'',N ys' H''->∃m',m' < m/\W (i+1) m' ys' H'')/\∀(c:CB) (own:St),own.length=1->∀x H2,(Itr lo n).yld i H' x H2->gName 0 x (own++subS σ idx) H2 fun σ3 H3=>
    (∃own',own'.length=1/\σ3=own'++subS σ idx)/\tt c σ3 H3 fun b H4=>if b=true then te c σ3 H4 fun y H5=>H5 D=some (.lst ys)/\ys.length < sizeLine/\N (ys++[y]) (upd H5 D (.lst (ys++[y]))) else N ys H4):=
 comp_range (g:=fun _=>gName 0) Pv h0 (fun i ys H hi p c own ho=>by
  show (∃own',own'.length=1/\(own++subS σ idx).set 0 _=own'++subS σ idx)/\tt c ((own++subS σ idx).set 0 _) H _
  rw [own1 ho]
  exact ⟨⟨[_],rfl,rfl⟩,hs i ys H hi p c⟩) hd
theorem comp_list1 {K:PySem.W.Frag} {a:Addr} {zs:List V} {idx:List Nat} {tt:CB->TT} {te:CB->TE} {σ:St} {Q:VK} {H1:Hp} {D:Addr} (Pv:Nat->List V->Hp->Prop) (h0:Pv 0 [] (upd H1 D (.lst [])))
  (hl:∀i ys H,i<=zs.length->Pv i ys H->SqL K H a zs)
  (hs:∀i x ys H,zs[i]? = some x->Pv i ys H->∀(c:CB),tt c (some x::subS σ idx) H fun b H4=>if b=true then te c (some x::subS σ idx) H4 fun y H5=>H5 D=some (.lst ys)/\ys.length < sizeLine/\Pv (i+1) (ys++[y]) (upd H5 D (.lst (ys++[y]))) else Pv (i+1) ys H4)
  (hd:∀ys H,Pv zs.length ys H->Q (.ref D) H) :
  ∃W:Nat->Nat->List V->Hp->Prop,(∃m,W 0 m [] (upd H1 D (.lst [])))/\
   ∀i m ys H',W i m ys H'->((Itl K a).stop i H'/\Q (.ref D) H')\/((Itl K a).go i H'/\∃N:List V->Hp->Prop,(∀ys' H'',N ys' H''->∃m',m' < m/\W (i+1) m' ys' H'')/\∀(c:CB) (own:St),own.length=1->∀x H2,(Itl K a).yld i H' x H2->gName 0 x (own++subS σ idx) H2 fun σ3 H3=>
    (∃own',own'.length=1/\σ3=own'++subS σ idx)/\tt c σ3 H3 fun b H4=>if b=true then te c σ3 H4 fun y H5=>H5 D=some (.lst ys)/\ys.length < sizeLine/\N (ys++[y]) (upd H5 D (.lst (ys++[y]))) else N ys H4):=
 comp_list (g:=fun _=>gName 0) Pv h0 hl (fun i x ys H hi p c own ho=>by
  show (∃own',own'.length=1/\(own++subS σ idx).set 0 _=own'++subS σ idx)/\tt c ((own++subS σ idx).set 0 _) H _
  rw [own1 ho]
  exact ⟨⟨[_],rfl,rfl⟩,hs i x ys H hi p c⟩) hd
end L2
end
section
namespace L2
open PySem PySem.Spec PyProof.Rows
def cutS (z:Str) (lo hi:Option Int):Str:=⟨((z.cps.toList.drop (HT.sIx z.length 0 lo)).take (HT.sIx z.length z.length hi - HT.sIx z.length 0 lo)).toArray⟩
theorem strIdx_one (lo hi:Option Int) (n:Nat):Builtin.Str.strSliceIndices lo hi 1 n=sliceRange ((HT.sIx n 0 lo:Nat):Int) ((HT.sIx n n hi:Nat):Int) 1:=by
 obtain ⟨h1,h2,h3⟩:=slice_bounds lo hi n
 rw [<-h1,<-h2]
 cases lo <;> cases hi <;> simp [Builtin.Str.strSliceIndices,sliceBounds]
theorem str_ext {a b:Str} (h:a.cps.toList=b.cps.toList):a=b:=by
 obtain ⟨x⟩:=a;obtain ⟨y⟩:=b
 have:x=y:=Array.toList_inj.mp h
 rw [this]
theorem Txt_slice_cut (x:Str) (lo hi:Option Int):Txt.slice x lo hi=cutS x lo hi:=by
 have hl:x.cps.toList.length=x.length:=by simp [Str.length]
 have e:(Builtin.Str.strSliceIndices lo hi 1 x.length).filterMap (x.cps[·]?)=(x.cps.toList.drop (HT.sIx x.length 0 lo)).take (HT.sIx x.length x.length hi - HT.sIx x.length 0 lo):=by
  rw [strIdx_one,sliceRange_one,pick_run]
 have el:(Builtin.Str.strSliceIndices lo hi 1 x.length).length=HT.sIx x.length x.length hi - HT.sIx x.length 0 lo:=by
  rw [strIdx_one,sliceRange_one,List.length_map,List.length_range]
 unfold Txt.slice
 rw [e,el]
 have hj:HT.sIx x.length x.length hi<=x.length:=HT.sIx_le _ _ (Nat.le_refl _) hi
 by_cases h:HT.sIx x.length x.length hi - HT.sIx x.length 0 lo=x.length
 ·have hb:((1:Int) == 1 && HT.sIx x.length x.length hi - HT.sIx x.length 0 lo == x.length)=true:=by rw [h];simp
  rw [if_pos hb]
  refine str_ext ?_
  unfold cutS
  by_cases hx:x.length=0
  ·have e0:x.cps.toList=[]:=List.eq_nil_of_length_eq_zero (by lia)
   rw [e0];simp
  ·have h0:HT.sIx x.length 0 lo=0:=by lia
   rw [h,h0,List.drop_zero,<-hl,List.take_length]
 ·have hb:¬((1:Int) == 1 && HT.sIx x.length x.length hi - HT.sIx x.length 0 lo == x.length)=true:=by simpa using h
  rw [if_neg hb]
  rfl
theorem isPart_val {v:Value} {o:Option Int} (h:IsPart v o):∃p:Option (Int×Tok),v=partValue p/\p.map (·.1)=o:=by
 cases h with
 | none=>exact ⟨none,rfl,rfl⟩
 | int i t=>exact ⟨some (i,t),rfl,rfl⟩
theorem small1000' {n:Nat} (h:n<=1000):n<=sizeLine:=Nat.le_of_lt (Nat.lt_of_le_of_lt h (by decide))
section
variable {X:Cx}
def rSlS:V->Option Int->Option Int->Hp->VK->Prop:=fun x lo hi H Q=>∃z,x=.str z/\z.length<=sizeLine/\Q (.str (cutS z lo hi)) H
theorem sl_str:SlR X rSlS:=by
 intro pins s σ H x v vl vu lo hi sl Q I rx hs pl pu h
 obtain ⟨z,rfl,hz,q⟩:=h
 obtain ⟨t,rfl⟩:=rx
 obtain ⟨pl',rfl,el⟩:=isPart_val pl
 obtain ⟨pu',rfl,eu⟩:=isPart_val pu
 refine ⟨"str",_,F.slot_str_getitem.lookup,typeIs_str _ _ _,wpAny_getItem_str_slice (l:=pl') (u:=pu') (st:=none) hs rfl ?_⟩
 unfold sliceMade slicePicked
 rw [el,eu]
 refine post_val_or_str ⟨?_,fun t' k=>?_⟩
 ·exact Nat.le_trans (Txt.slice_le z lo hi) hz
 ·exact ⟨.str (cutS z lo hi),H,I.tok _,⟨t',by rw [<-Txt_slice_cut];rfl⟩,q⟩
theorem slicePick_rev (its:List Value):slicePick its.toArray none none (some (-1))=its.reverse.toArray:=by
 unfold slicePick
 have h1:(sliceBounds none none (some (-1)) its.toArray.size).1=(its.length:Int) - 1:=by simp [sliceBounds]
 have h2:(sliceBounds none none (some (-1)) its.toArray.size).2.1 = -1:=by simp [sliceBounds]
 have h3:(sliceBounds none none (some (-1)) its.toArray.size).2.2 = -1:=by simp [sliceBounds]
 rw [h1,h2,h3]
 have e:sliceRange ((its.length:Int) - 1) (-1) (-1)=(List.range its.length).map fun k=>its.length - 1 - k:=by
  unfold sliceRange
  have hn:¬((-1:Int) > 0):=by decide
  rw [if_neg hn]
  have hc:(if (its.length:Int) - 1 > -1 then ((its.length:Int) - 1 - -1 - -1 - 1) / (- -1) else 0)=(its.length:Int):=by
   by_cases h0:(its.length:Int) - 1 > -1
   ·rw [if_pos h0]
    have : - (-1:Int)=1:=by decide
    rw [this,Int.ediv_one];lia
   ·rw [if_neg h0];lia
  rw [hc]
  show (List.range (((its.length:Nat):Int).toNat)).map _=_
  rw [Int.toNat_natCast]
  refine List.map_congr_left fun k hk=>?_
  have:=List.mem_range.mp hk
  lia
 rw [e]
 congr 1
 refine List.ext_getElem? fun i=>?_
 have:((List.range its.length).map fun k=>its.length - 1 - k).filterMap (its.toArray[·]?)=its.reverse:=by
  rw [List.filterMap_map]
  have:∀k∈List.range its.length,((fun x=>its.toArray[x]?) ∘ fun k=>its.length - 1 - k) k=some (its.reverse.getD k .none):=by
   intro k hk
   have hk':=List.mem_range.mp hk
   show its.toArray[its.length - 1 - k]? = _
   rw [List.getElem?_toArray,List.getD_eq_getElem?_getD,List.getElem?_reverse hk']
   rw [List.getElem?_eq_getElem (by lia)];rfl
  have fm:∀(l:List Nat),(∀k∈l,((fun x=>its.toArray[x]?) ∘ fun k=>its.length - 1 - k) k=some (its.reverse.getD k .none))->l.filterMap ((fun x=>its.toArray[x]?) ∘ fun k=>its.length - 1 - k)=l.map fun k=>its.reverse.getD k .none:=by
   intro l
   induction l with
   | nil=>intro _;rfl
   | cons k r ih=>
    intro h
    rw [List.filterMap_cons,h k List.mem_cons_self,List.map_cons,ih fun j hj=>h j (List.mem_cons_of_mem _ hj)]
  rw [fm _ this]
  refine List.ext_getElem? fun j=>?_
  rw [List.getElem?_map]
  by_cases hj:j < its.length
  ·rw [List.getElem?_range hj]
   show some (its.reverse.getD j .none)=_
   rw [List.getD_eq_getElem?_getD,List.getElem?_eq_getElem (by simpa using hj)];rfl
  ·rw [List.getElem?_eq_none (by simpa using hj),List.getElem?_eq_none (by simpa using hj)];rfl
 rw [this]
def tRev (K:PySem.W.Frag) (te ts:TE):TE:=fun σ H Q=>te σ H fun x H1=>ts σ H1 fun y H2=>∃a xs,x=.ref a/\y=.int (-1)/\SqL K H2 a xs/\∀p,H2 p=none->Q (.ref p) (upd H2 p (.lst xs.reverse))
theorem pe_rev {e st:Expr} {te ts:TE} {pos p2:Pos} (he:PE X e te) (hst:PE X st ts):PE X (.Subscript e (.Slice none none (some st) p2) pos) (tRev X.K te ts):=by
 intro pins s σ H Q I h
 refine Subscript_ (thn (he pins s σ H _ I h) fun v s1 ⟨x,H1,I1,r1,q1⟩=>?_)
 refine wpAny_Slice ?_
 rw [evalPart_none]
 refine wpAny_pure (wpAny_pure ?_)
 rw [evalPart_some]
 refine thn (hst pins s1 σ H1 _ I1 q1) fun w s2 ⟨y,H2,I2,r2,q2⟩=>?_
 obtain ⟨a,xs,rfl,rfl,hx,q⟩:=q2
 cases r1
 obtain ⟨t,rfl⟩:=r2
 have I4:Inv X pins σ H2 { s2 with heap:=s2.heap.push { cls:=.type "slice",data:=.fields #[.none,.none,.int (-1) t] } }:=I2.kept (t':=s2.toks) fun b ob q=>Heap.get?_push_of_some _ q
 obtain ⟨its,r,ht,hz⟩:=I4.list hx
 have hlen:=r.length
 show wpAny (model X.prog X.w) X.A (subscriptTail e (.Slice none none (some st) p2) (.ref a) (.ref s2.heap.objs.size)) (EP X pins σ Q) X.xe { s2 with heap:=s2.heap.push { cls:=.type "slice",data:=.fields #[.none,.none,.int (-1) t] } }
 refine tail_any (ops:=[.ref a,.ref s2.heap.objs.size]) ht.isList.typeIs slot_list_getitem.lookup ?_ (by with_unfolding_all rfl)
 refine wpAny_getItem_list_slice (s:={ s2 with heap:=s2.heap.push { cls:=.type "slice",data:=.fields #[.none,.none,.int (-1) t] } }) ht.isList (Heap.IsSliceOf.new ..) .none .none (.int (-1) t) (by decide) ?_ (by rw [List.size_toArray] <;> lia)
 rw [slicePick_rev]
 refine ⟨.ref _,_,I4.laid (t':=s2.toks) (o:=.lst xs.reverse) (fun b ob q=>Heap.get?_push_of_some _ q) (Nat.le_refl _) ?_,rfl,q _ (I4.hok.fresh (Nat.le_refl _))⟩
 exact ⟨by rw [List.length_reverse];exact hz,_,0,r.reverse,Heap.get?_push_size _ rfl⟩
theorem strVals {ss:List Str}:∀{us:List Value},Vals (ss.map V.str) us->∃l:List (Str×Tok),us=strValues l/\l.map (·.1)=ss:=by
 induction ss with
 | nil=>intro us r;cases r;exact ⟨[],rfl,rfl⟩
 | cons z ss ih=>
  intro us r
  rw [List.map_cons] at r
  cases r with
  | cons r1 r2=>
   obtain ⟨t,rfl⟩:=r1
   obtain ⟨l,rfl,e⟩:=ih r2
   exact ⟨(z,t)::l,rfl,by rw [List.map_cons,e]⟩
def rJoin (K:PySem.W.Frag):V->List V->Hp->VK->Prop:=fun x vs H Q=>∃sep a ss,x=.str sep/\vs=[.ref a]/\SqL K H a (ss.map V.str)/\JoinOk sep ss=true/\Q (.str (Txt.join sep ss)) H
theorem mt_join:MtR X "str.join" (rJoin X.K):=by
 intro pins s σ H x vs v us Q I rx rv h
 obtain ⟨sep,a,ss,rfl,rfl,hq,hok,q⟩:=h
 obtain ⟨t,rfl⟩:=rx
 obtain ⟨u,rfl,ru⟩:=rv.one
 cases ru
 obtain ⟨its,r,pl,hz⟩:=I.list hq
 obtain ⟨l,rfl,e⟩:=strVals r
 exact SC.join pl.isList e hok fun t' k=>⟨.str (Txt.join sep ss),H,I.tok _,⟨t',rfl⟩,q⟩
theorem strsAre_of {ss:List Str}:∀{us:List Value},Vals (ss.map V.str) us->StrsAre us ss:=by
 induction ss with
 | nil=>intro us r;cases r;exact .nil
 | cons z ss ih=>
  intro us r
  rw [List.map_cons] at r
  cases r with
  | cons r1 r2=>obtain ⟨t,rfl⟩:=r1;exact .cons z t (ih r2)
theorem vals_strs:∀{us:List Value} {ss:List Str},StrsAre us ss->Vals (ss.map V.str) us
 | _,_,.nil=>.nil
 | _,_,.cons x t r=>.cons ⟨t,rfl⟩ (vals_strs r)
def rSorted (K:PySem.W.Frag):List V->Hp->VK->Prop:=fun vs H Q=>∃a ss,vs=[.ref a]/\SqL K H a (ss.map V.str)/\ss.length < 64/\
 ∀ss':List Str,ss'.Perm ss->sortedS ss'=true->∀p,H p=none->Q (.ref p) (upd H p (.lst (ss'.map V.str)))
theorem call_sorted:CallR X (.builtin "sorted") (rSorted X.K):=by
 intro pins s σ H vs us Q I rv h
 obtain ⟨a,ss,rfl,hq,h64,q⟩:=h
 obtain ⟨u,rfl,ru⟩:=vals1 rv
 cases ru
 obtain ⟨its,r,pl,hz⟩:=I.list hq
 have hl:=r.length
 rw [List.length_map] at hl
 refine sorted_strs pl.isList (strsAre_of r) (by lia) fun out ss' h1 h2 h3=>?_
 obtain ⟨c,hc⟩:=sortedAll_at s.heap its out
 have hc':(sortedAll s.heap its out).get? (s.heap.objs.size+1)=some { cls:=.type "list",data:=.seq out.toList.toArray c }:=hc
 have hn:H (s.heap.objs.size+1)=none:=I.hok.fresh (Nat.le_succ _)
 refine ⟨.ref (s.heap.objs.size+1),_,I.laid (t':=s.toks) (o:=.lst (ss'.map V.str)) (fun b ob e=>sortedAll_old e) (Nat.le_succ _) ?_,rfl,q ss' h2 h3 _ hn⟩
 have hlen:ss'.length=ss.length:=h2.length_eq
 exact ⟨by rw [List.length_map,hlen];exact small1000' (by lia),out.toList,c,vals_strs h1,hc'⟩
def eqVs (xs ys:List V):Bool:=xs.length == ys.length && (List.range xs.length).all fun j=>eqV (xs.getD j .non) (ys.getD j .non)
end
section
variable {X:Cx} {elt target iter:Expr} {ifs:List Expr} {scope:Scope} {pos spos py:Pos} {xs:List Str} {idx:List Nat} {wi:TI} {g:CB->TG} {tt:CB->TT} {te:CB->TE}
end
end L2
end
section
namespace L2
open PySem PySem.Spec PyProof.Rows
def csOk (osc:Scope) (N:List Str) (scope:Scope) (idx:List Nat):Bool:=
 scope.kind == .function && scope.names.all (fun y=>y.2 != .cell) && scope.names.all (fun y=>y.2 != .local || scope.names.lookup y.1 == some .local) &&
 scope.names.all (fun y=>y.2 != .free || (scope.names.lookup y.1 == some .free && (osc.names.lookup y.1 == some .cell || osc.names.lookup y.1 == some .free))) &&
 idx.all (fun i=>match N[i]? with | some y=>scope.names.lookup y == some .free | none=>false)
theorem cscope_of {X:Cx} {scope:Scope} {xs:List Str} {idx:List Nat} {osc:Scope} {N:List Str} (h:csOk osc N scope idx=true) (e1:X.env.scope=osc:=by rfl) (e2:X.N=N:=by rfl):CScope X scope xs idx:=by
 unfold csOk at h
 simp only [Bool.and_eq_true] at h
 refine hide fun gG hG=>?_
 obtain ⟨⟨⟨⟨h1,h2⟩,h3⟩,h4⟩,h5⟩:=h
 refine hG ?_
 refine ⟨by simpa using h1,fun y hy e=>?_,fun y hy e=>?_,fun y hy e=>?_,fun i hi=>?_⟩
 ·have:=List.all_eq_true.mp h2 y hy
  rw [e] at this;exact absurd this (by decide)
 ·have:=List.all_eq_true.mp h3 y hy
  rw [e] at this;simpa using this
 ·have:=List.all_eq_true.mp h4 y hy
  rw [e] at this
  have t:(scope.names.lookup y.1 == some NameKind.free && (osc.names.lookup y.1 == some .cell || osc.names.lookup y.1 == some .free))=true:=by simpa using this
  rw [Bool.and_eq_true,Bool.or_eq_true] at t
  refine ⟨by simpa using t.1,?_⟩
  show X.env.scope.names.lookup y.1=_\/X.env.scope.names.lookup y.1=_
  rw [e1]
  exact t.2.imp (by simp) (by simp)
 ·have:=List.all_eq_true.mp h5 i hi
  rw [e2]
  cases e:N[i]? with
  | none=>rw [e] at this;cases this
  | some y=>rw [e] at this;exact ⟨y,rfl,by simpa using this⟩
theorem atI_0 {α:Type} (a:α) (xs:List α):atI (a::xs) 0=some a:=atI_nat (j:=0) rfl
theorem atI_1 {α:Type} (a b:α) (xs:List α):atI (a::b::xs) 1=some b:=atI_nat (j:=1) rfl
theorem atI_2 {α:Type} (a b c:α) (xs:List α):atI (a::b::c::xs) 2=some c:=atI_nat (j:=2) rfl
theorem atI_3 {α:Type} (a b c d:α) (xs:List α):atI (a::b::c::d::xs) 3=some d:=atI_nat (j:=3) rfl
theorem atI_4 {α:Type} (a b c d e:α) (xs:List α):atI (a::b::c::d::e::xs) 4=some e:=atI_nat (j:=4) rfl
theorem atI_5 {α:Type} (a b c d e f:α) (xs:List α):atI (a::b::c::d::e::f::xs) 5=some f:=atI_nat (j:=5) rfl
theorem ixN6_1:ixN 6 1=some 1:=rfl
theorem ixN6_2:ixN 6 2=some 2:=rfl
theorem ixN6_3:ixN 6 3=some 3:=rfl
theorem ixN6_4:ixN 6 4=some 4:=rfl
theorem ixN6_5:ixN 6 5=some 5:=rfl
theorem cmulR (i:Int):CMul i 48271/\CMul i 40693/\CMul i 3/\CMul i 4294967296:=⟨.inr ⟨by decide,by decide⟩,.inr ⟨by decide,by decide⟩,.inr ⟨by decide,by decide⟩,.inr ⟨by decide,by decide⟩⟩
theorem cmul1 (i:Int):CMul i 48271:=(cmulR i).1
theorem cmul2 (i:Int):CMul i 40693:=(cmulR i).2.1
theorem cmul3 (i:Int):CMul i 3:=(cmulR i).2.2.1
theorem cmul4 (i:Int):CMul i 4294967296:=(cmulR i).2.2.2
theorem cmul5 (i:Int):CMul 5 i/\CMul 3 i/\CMul 7 i/\CMul 10 i:=⟨.inl ⟨by decide,by decide⟩,.inl ⟨by decide,by decide⟩,.inl ⟨by decide,by decide⟩,.inl ⟨by decide,by decide⟩⟩
theorem cmul5a (i:Int):CMul 5 i:=(cmul5 i).1
theorem cmul5b (i:Int):CMul 3 i:=(cmul5 i).2.1
theorem cmul5c (i:Int):CMul 7 i:=(cmul5 i).2.2.1
theorem cmul5d (i:Int):CMul 10 i:=(cmul5 i).2.2.2
theorem cpow18:CPow 10 18:=⟨by decide,by decide,by decide⟩
def tCut (t u:TS):TS:=fun D σ H=>∃N:St->Hp->Prop,t { D with nx:=N } σ H/\∀σ' H',N σ' H'->u D σ' H'
theorem pss_cut {X:Cx} {st:Stmt} {rest:List Stmt} {t u:TS} (h1:PS X st t) (h2:PSs X rest u):PSs X (st::rest) (tCut t u):=by
 intro pins s σ H D I ⟨N,hn,hu⟩
 refine wpAny_execs_cons (thn (h1 pins s σ H { D with nx:=N } I hn) fun f s1 q=>?_)
 cases f with
 | next=>
  refine hide fun gG hG=>?_
  obtain ⟨σ',H',I',q⟩:=q
  refine hG ?_
  exact h2 pins s1 σ' H' D I' (hu σ' H' q)
 | ret v=>exact q
 | brk=>exact q
 | cont=>exact q
theorem atI_ints {ns:List Int} {k:Int} (h0:0<=k) (h:k < (ns.length:Int)):∃v:Int,atI (ns.map V.int) k=some (.int v):=by
 have hk:k.toNat < ns.length:=by lia
 have ek:k=((k.toNat:Nat):Int):=by lia
 have q:atI (ns.map V.int) ((k.toNat:Nat):Int)=some (.int ns[k.toNat]):=atI_nat (by rw [List.getElem?_map,List.getElem?_eq_getElem hk] <;> rfl)
 rw [<-ek] at q
 exact ⟨_,q⟩
theorem atI_of {α:Type} {xs:List α} {k:Int} (h0:0<=k) (h:k < (xs.length:Int)):∃v,atI xs k=some v/\xs[k.toNat]? = some v:=by
 have hk:k.toNat < xs.length:=by lia
 have ek:k=((k.toNat:Nat):Int):=by lia
 have q:atI xs ((k.toNat:Nat):Int)=some xs[k.toNat]:=atI_nat (List.getElem?_eq_getElem hk)
 rw [<-ek] at q
 exact ⟨_,q,List.getElem?_eq_getElem hk⟩
section
variable {X:Cx}
theorem OpR.imp {f:Value->Value->Sem Value} {r r':R2} (h:OpR X f r) (i:∀x y H Q,r' x y H Q->r x y H Q):OpR X f r':=fun pins s σ H x y v u Q I rx ry q=>h pins s σ H x y v u Q I rx ry (i _ _ _ _ q)
theorem IxR.imp {r r':R2} (h:IxR X r) (i:∀x y H Q,r' x y H Q->r x y H Q):IxR X r':=fun value slice pins s σ H x y v u Q I rx ry q hs=>h value slice pins s σ H x y v u Q I rx ry (i _ _ _ _ q) hs
theorem CallR.imp {f:Value} {r r':List V->Hp->VK->Prop} (h:CallR X f r) (i:∀x H Q,r' x H Q->r x H Q):CallR X f r':=fun pins s σ H vs us Q I rv q=>h pins s σ H vs us Q I rv (i _ _ _ q)
theorem MtR.imp {id:String} {r r':V->List V->Hp->VK->Prop} (h:MtR X id r) (i:∀x xs H Q,r' x xs H Q->r x xs H Q):MtR X id r':=fun pins s σ H x xs v us Q I rx rv q=>h pins s σ H x xs v us Q I rx rv (i _ _ _ _ q)
theorem SlR.imp {r r':V->Option Int->Option Int->Hp->VK->Prop} (h:SlR X r) (i:∀x lo hi H Q,r' x lo hi H Q->r x lo hi H Q):SlR X r':=fun pins s σ H x v vl vu lo hi sl Q I rx hs pl pu q=>h pins s σ H x v vl vu lo hi sl Q I rx hs pl pu (i _ _ _ _ _ q)
theorem sqL_of {K:PySem.W.Frag} {H:Hp} {a:Addr} {xs:List V} (h:H a=some (.lst xs)):SqL K H a xs:=SqL.of h
theorem sqT_of {K:PySem.W.Frag} {H:Hp} {a:Addr} {xs:List V} (h:H a=some (.tup xs)):SqT K H a xs:=SqT.of h
def qIxL:R2:=fun x y H Q=>∃p i,x=.ref p/\y=.int i/\∃xs,H p=some (.lst xs)/\∃v,atI xs i=some v/\Q v H
theorem ix_l:IxR X qIxL:=ix_list.imp fun x y H Q ⟨p,i,e1,e2,xs,h,v,e3,q⟩=>⟨p,xs,i,v,e1,e2,sqL_of h,e3,q⟩
def qIxT:R2:=fun x y H Q=>∃p i,x=.ref p/\y=.int i/\∃xs,H p=some (.tup xs)/\∃v,atI xs i=some v/\Q v H
theorem ix_t:IxR X qIxT:=ix_tup.imp fun x y H Q ⟨p,i,e1,e2,xs,h,v,e3,q⟩=>⟨p,xs,i,v,e1,e2,sqT_of h,e3,q⟩
def qIxS:R2:=fun x y H Q=>∃z i,x=.str z/\y=.int i/\z.length<=sizeLine/\∃c,atI z.cps.toList i=some c/\Q (.str ⟨#[c]⟩) H
theorem ix_s:IxR X qIxS:=ix_str.imp fun x y H Q ⟨z,i,e1,e2,hz,c,e3,q⟩=>⟨z,i,c,e1,e2,hz,e3,q⟩
def qSlL:V->Option Int->Option Int->Hp->VK->Prop:=fun x lo hi H Q=>∃a,x=.ref a/\∃xs,H a=some (.lst xs)/\∀p,H p=none->Q (.ref p) (upd H p (.lst (cutV xs lo hi)))
theorem sl_l:SlR X qSlL:=sl_list.imp fun x lo hi H Q ⟨a,e,xs,h,q⟩=>⟨a,xs,e,sqL_of h,q⟩
def qSlT:V->Option Int->Option Int->Hp->VK->Prop:=fun x lo hi H Q=>∃a,x=.ref a/\∃xs,H a=some (.tup xs)/\¬(HT.sIx xs.length 0 lo=0/\HT.sIx xs.length xs.length hi=xs.length)/\∀p,H p=none->Q (.ref p) (upd H p (.tup (cutV xs lo hi)))
theorem sl_t:SlR X qSlT:=sl_tup.imp fun x lo hi H Q ⟨a,e,xs,h,n,q⟩=>⟨a,xs,e,sqT_of h,n,q⟩
def qLenL:List V->Hp->VK->Prop:=fun vs H Q=>∃p,vs=[.ref p]/\∃xs,H p=some (.lst xs)/\Q (.int xs.length) H
theorem call_lenL:CallR X (.builtin "len") qLenL:=call_len_seq.imp fun x H Q ⟨p,e,xs,h,q⟩=>⟨p,xs,e,.inl (sqL_of h),q⟩
def qLenT:List V->Hp->VK->Prop:=fun vs H Q=>∃p,vs=[.ref p]/\∃xs,H p=some (.tup xs)/\Q (.int xs.length) H
theorem call_lenT:CallR X (.builtin "len") qLenT:=call_len_seq.imp fun x H Q ⟨p,e,xs,h,q⟩=>⟨p,xs,e,.inr (sqT_of h),q⟩
def qListL:List V->Hp->VK->Prop:=fun vs H Q=>∃p,vs=[.ref p]/\∃xs,H p=some (.lst xs)/\∀l,H l=none->Q (.ref l) (upd H l (.lst xs))
theorem call_listL:CallR X (.type "list") qListL:=call_list_of.imp fun x H Q ⟨p,e,xs,h,q⟩=>⟨p,xs,e,.inl (sqL_of h),q⟩
def qListT:List V->Hp->VK->Prop:=fun vs H Q=>∃p,vs=[.ref p]/\∃xs,H p=some (.tup xs)/\∀l,H l=none->Q (.ref l) (upd H l (.lst xs))
theorem call_listT:CallR X (.type "list") qListT:=call_list_of.imp fun x H Q ⟨p,e,xs,h,q⟩=>⟨p,xs,e,.inr (sqT_of h),q⟩
def qTupleL:List V->Hp->VK->Prop:=fun vs H Q=>∃p,vs=[.ref p]/\∃xs,H p=some (.lst xs)/\∀l,H l=none->Q (.ref l) (upd H l (.tup xs))
theorem call_tupleL:CallR X (.type "tuple") qTupleL:=call_tuple_of.imp fun x H Q ⟨p,e,xs,h,q⟩=>⟨p,xs,e,.inl ⟨sqL_of h,q⟩⟩
def qListD:List V->Hp->VK->Prop:=fun vs H Q=>∃a,vs=[.ref a]/\∃kvs,H a=some (.dK kvs)/\∀p,H p=none->Q (.ref p) (upd H p (.lst (kvs.map fun kv=>kV kv.1)))
def qDictD:List V->Hp->VK->Prop:=fun vs H Q=>∃a,vs=[.ref a]/\∃kvs,H a=some (.dK kvs)/\∀p,H p=none->Q (.ref p) (upd H p (.dK kvs))
def qSorted:List V->Hp->VK->Prop:=fun vs H Q=>∃a,vs=[.ref a]/\∃ss:List Str,H a=some (.lst (ss.map V.str))/\ss.length < 64/\
 ∀ss':List Str,ss'.Perm ss->sortedS ss'=true->∀p,H p=none->Q (.ref p) (upd H p (.lst (ss'.map V.str)))
theorem call_sortedS:CallR X (.builtin "sorted") qSorted:=call_sorted.imp fun x H Q ⟨p,e,ss,h,n,q⟩=>⟨p,ss,e,sqL_of h,n,q⟩
def qJoin:V->List V->Hp->VK->Prop:=fun x vs H Q=>∃sep a,x=.str sep/\vs=[.ref a]/\∃ss:List Str,H a=some (.lst (ss.map V.str))/\JoinOk sep ss=true/\Q (.str (Txt.join sep ss)) H
theorem mt_joinS:MtR X "str.join" qJoin:=mt_join.imp fun x vs H Q ⟨sep,a,e1,e2,ss,h,n,q⟩=>⟨sep,a,ss,e1,e2,sqL_of h,n,q⟩
def qInL (neg:Bool):R2:=fun x y H Q=>∃p,y=.ref p/\∃xs,H p=some (.lst xs)/\flatV x=true/\xs.all flatV=true/\Q (.bl (if neg then !inV x xs else inV x xs)) H
theorem op_inL:OpR X (compareOp .In) (qInL false):=op_in_seq.imp fun x y H Q ⟨p,e,xs,h,f1,f2,q⟩=>⟨p,xs,e,.inl (sqL_of h),f1,f2,q⟩
theorem op_notInL:OpR X (compareOp .NotIn) (qInL true):=op_notIn_seq.imp fun x y H Q ⟨p,e,xs,h,f1,f2,q⟩=>⟨p,xs,e,.inl (sqL_of h),f1,f2,q⟩
def qInT (neg:Bool):R2:=fun x y H Q=>∃p,y=.ref p/\∃xs,H p=some (.tup xs)/\flatV x=true/\xs.all flatV=true/\Q (.bl (if neg then !inV x xs else inV x xs)) H
def qEqL (neg:Bool):R2:=fun x y H Q=>∃a b,x=.ref a/\y=.ref b/\∃xs,H a=some (.lst xs)/\∃ys,H b=some (.lst ys)/\xs.all flatV=true/\ys.all flatV=true/\Q (.bl (if neg then !eqVs xs ys else eqVs xs ys)) H
def qIsi (K:PySem.W.Frag):List V->Hp->VK->Prop:=fun vs H Q=>∃x n,vs=[x,.ty n]/\∃t,TyOf K H x t/\∃b,PySem.W.kitOne K t (.type n)=some b/\Q (.bl b) H
def qSet:V->V->V->Hp->(Hp->Prop)->Prop:=fun o i v H Q=>∃p k,o=.ref p/\i=.int k/\∃xs,H p=some (.lst xs)/\∃j,ixN xs.length k=some j/\Q (upd H p (.lst (xs.set j v)))
theorem set_l:PSet X qSet:=fun pins s σ H o i v ov iv u Q I ro ri rv ⟨p,k,e1,e2,xs,h,j,hj,q⟩=>set_list pins s σ H o i v ov iv u Q I ro ri rv ⟨p,xs,k,j,e1,e2,h,hj,q⟩
theorem get_l:PGet X (fun o i H Q=>qIxL o i H Q):=by
 intro pins s σ H o i ov iv Q I ro ri h
 refine hide fun gG hG=>?_
 obtain ⟨p,i,rfl,rfl,xs,hp,z,he,q⟩:=h
 refine hG ?_
 cases ro
 refine hide fun gG hG=>?_
 obtain ⟨t,rfl⟩:=ri
 obtain ⟨its,r,pl,hz⟩:=I.list (sqL_of hp)
 obtain ⟨j,h1,h2,h3,h4,h5⟩:=atI_get he
 obtain ⟨w,ew,rw'⟩:=r.get h2
 refine hG ?_
 have hl:=r.length
 have hn:=line63
 have fin:EP X pins σ Q w s:=⟨z,H,I,rw',q⟩
 by_cases h0:0<=i
 ·have hj:i.toNat=j:=by
   rw [seqIndex_of h0 h5] at h1
   exact Option.some.inj h1
  exact wpAny_getItem_list pl.isList h0 (by lia) (by rw [hj];simpa using ew) fin
 ·have hj:(i+(its.toArray.size:Int)).toNat=j:=by
   rw [seqIndex_neg (by lia) h4] at h1
   rw [List.size_toArray,<-hl]
   exact Option.some.inj h1
  exact wpAny_getItem_list_neg pl.isList (by lia) (by rw [List.size_toArray] <;> lia) (by lia) (by rw [hj];simpa using ew) fin
end
end L2
namespace L2
open PySem PySem.Spec PyProof.Rows
def txtOf:Expr->Option Str
 | .Constant (.str x) _ _=>some x
 | _=>none
def txtsOf (es:List Expr):List Str:=es.filterMap txtOf
def tTxts (es:List Expr):TA:=fun _ H Q=>Q ((txtsOf es).map V.str) H
theorem txt_is {e:Expr} (h:(txtOf e).isSome=true):∃x j p,e=.Constant (.str x) j p:=by
 cases e with
 | Constant v j p=>
  cases v with
  | str x=>exact ⟨x,j,p,rfl⟩
  | _=>exact Bool.noConfusion h
 | _=>exact Bool.noConfusion h
theorem of1 {α:Type} {C:List α->Prop} (h:∀a,C [a]):∀us:List α,us.length=1->C us
 | [a],_=>h a
theorem of2 {α:Type} {C:List α->Prop} (h:∀a b,C [a,b]):∀us:List α,us.length=2->C us
 | [a,b],_=>h a b
theorem pa_txts {X:Cx}:∀{es:List Expr},(es.all fun e=>(txtOf e).isSome)=true->PA X es (tTxts es)
 | [],_=>fun pos pins s σ H Q I h=>pa_nil pos pins s σ H Q I h
 | e::es,h=>by
  rw [List.all_cons,Bool.and_eq_true] at h
  have ih:=pa_txts (X:=X) h.2
  refine hide fun gG hG=>?_
  obtain ⟨x,j,p,rfl⟩:=txt_is h.1
  refine hG ?_
  have c:=pa_cons (X:=X) (e:=.Constant (.str x) j p) (te:=tC (.str x)) pe_str ih rfl
  exact fun pos pins s σ H Q I q=>c pos pins s σ H Q I q
end L2
end
section
namespace L2
open PySem PySem.Spec PyProof.Rows
structure HC (X:Cx) (N:List Str) (sc:Scope):Prop where
 n:X.N=N
 s:X.env.scope=sc
def okV (N:List Str) (sc:Scope) (i:Nat) (x:Str):Bool:=
 N[i]? == some x && (sc.names.lookup x == some .local || sc.names.lookup x == some .cell || sc.names.lookup x == some .free) && !(x == ("__debug__" : Str)) && !(x == ("__classdict__" : Str))
def okL (N:List Str) (sc:Scope) (i:Nat) (x:Str):Bool:=N[i]? == some x && (sc.names.lookup x == some .local || sc.names.lookup x == some .cell)
def okL1 (N:List Str) (sc:Scope) (i:Nat) (x:Str):Bool:=N[i]? == some x && sc.names.lookup x == some .local
def okG (sc:Scope) (x:Str):Bool:=sc.names.lookup x == some .globalImplicit
section
variable {X:Cx} {N:List Str} {sc:Scope} {x:Str} {pos:Pos}
theorem pvk (hc:HC X N sc) (i:Nat) (h:okV N sc i x=true):PE X (.Name x pos) (tVar i):=by
 unfold okV at h
 simp only [Bool.and_eq_true,Bool.or_eq_true,beq_iff_eq,Bool.not_eq_true'] at h
 obtain ⟨⟨⟨h1,h2⟩,h3⟩,h4⟩:=h
 refine pe_var (by rw [hc.n];exact h1) ?_ h3 h4
 unfold Vis
 rw [hc.s]
 rcases h2 with (h2 | h2) | h2
 ·exact .inl h2
 ·exact .inr (.inl h2)
 ·exact .inr (.inr h2)
theorem glk (hc:HC X N sc) (h:okG sc x=true):Gl X x:=by
 show X.env.scope.names.lookup x=some .globalImplicit
 rw [hc.s];simpa [okG] using h
theorem okL_loc (hc:HC X N sc) {i:Nat} (h:okL N sc i x=true):X.N[i]? = some x/\Loc X.env.scope x:=by
 unfold okL at h
 simp only [Bool.and_eq_true,Bool.or_eq_true,beq_iff_eq] at h
 refine ⟨by rw [hc.n];exact h.1,?_⟩
 unfold Loc;rw [hc.s];exact h.2
theorem okL1_loc (hc:HC X N sc) {i:Nat} (h:okL1 N sc i x=true):X.N[i]? = some x/\X.env.scope.names.lookup x=some .local:=by
 unfold okL1 at h
 simp only [Bool.and_eq_true,beq_iff_eq] at h
 exact ⟨by rw [hc.n];exact h.1,by rw [hc.s];exact h.2⟩
theorem pgk (hc:HC X N sc) (nd:N.Nodup) (hf:∀x,X.fn x=true) (i:Nat) (h:okL N sc i x=true):PG X (.Name x pos) (gName i):=
 pg_name (by rw [hc.n];exact nd) (okL_loc hc h).1 (okL_loc hc h).2 (.inl (hf x))
theorem pgb (hc:HC X N sc) (nd:N.Nodup) (i:Nat) (h:okL1 N sc i x=true):PG X (.Name x pos) (gName i):=
 pg_name (by rw [hc.n];exact nd) (okL1_loc hc h).1 (.inl (okL1_loc hc h).2) (.inr (okL1_loc hc h).2)
theorem psk_set {e:Expr} {te:TE} {pos':Pos} (hc:HC X N sc) (nd:N.Nodup) (hf:∀x,X.fn x=true) (i:Nat) (h:okL N sc i x=true) (he:PE X e te) (hs:swapsWith e (some (.Name x pos')) pos.line X.env=pure false:=by rfl) :
  PS X (.Assign [.Name x pos'] e pos) (tAsg te (gName i)):=
 ps_set (by rw [hc.n];exact nd) (okL_loc hc h).1 (okL_loc hc h).2 he hs (.inl (hf x))
end
def relabelS (scope osc:Scope):Scope:=
 { scope with names:=scope.names.map fun (n,k)=>if (k == .free && osc.kind == .function && osc.names.lookup n == some .cell) then (n,.cell) else (n,k) }
theorem relabelS_eq {scope osc:Scope} {env:Env} (h:env.scope=osc):relabel scope env=relabelS scope osc:=by
 subst h;rfl
theorem hc_block {X:Cx} {N:List Str} {osc scope:Scope} {xs:List Str} {idx:List Nat} (hc:HC X N osc) (c:CB):HC (cxC X scope (xs++subN X.N idx) c) (xs++subN N idx) (relabelS scope osc):=
 ⟨by show xs++subN X.N idx=_;rw [hc.n],relabelS_eq hc.s⟩
section
variable {X:Cx} {N:List Str} {osc:Scope} {elt target iter:Expr} {ifs:List Expr} {scope:Scope} {pos spos py:Pos} {xs:List Str} {idx:List Nat} {wi:TI} {g:CB->TG} {tt:CB->TT} {te:CB->TE}
theorem pek_comp (hc:HC X N osc) (xs:List Str) (idx:List Nat) (hcalm:X.calm=true) (S:csOk osc N scope idx=true) (hi:PI X target iter wi)
  (hg:∀c,HC (cxC X scope (xs++subN X.N idx) c) (xs++subN N idx) (relabelS scope osc)->PG (cxC X scope (xs++subN X.N idx) c) target (g c))
  (ht:∀c,HC (cxC X scope (xs++subN X.N idx) c) (xs++subN N idx) (relabelS scope osc)->PIfs (cxC X scope (xs++subN X.N idx) c) ifs (tt c))
  (he:∀c,HC (cxC X scope (xs++subN X.N idx) c) (xs++subN N idx) (relabelS scope osc)->PE (cxC X scope (xs++subN X.N idx) c) elt (te c))
  (hs:∀x,foldedSetIterable iter X.env x=pure x:=by intro _;rfl):PE X (.ListComp elt [⟨target,iter,ifs,0⟩] scope pos) (tComp wi xs.length idx g tt te):=
 pe_comp hcalm (cscope_of S hc.s hc.n) hi (fun c=>hg c (hc_block hc c)) (fun c=>ht c (hc_block hc c)) (fun c=>he c (hc_block hc c)) hs
end
end L2
namespace L2
open PySem PySem.Spec PyProof.Rows
@[irreducible] def QSs (X:Cx) (st:List Stmt) (t:TS):Prop:=PSs X st t
theorem QSs.to {X:Cx} {st:List Stmt} {t:TS} (h:QSs X st t):PSs X st t:=by unfold QSs at h;exact h
theorem QSs.of {X:Cx} {st:List Stmt} {t:TS} (h:PSs X st t):QSs X st t:=by unfold QSs;exact h
section
variable {X:Cx} {st:Stmt} {rest:List Stmt} {t u:TS} {pos:Pos}
theorem qss_nil:QSs X [] tNext:=.of pss_nil
theorem qss_one (h1:PS X st t):QSs X [st] t:=.of (pss_one h1)
theorem qss_cons (h1:PS X st t) (h2:QSs X rest u):QSs X (st::rest) (tSeq t u):=.of (pss_cons h1 h2.to)
theorem qss_cut (h1:PS X st t) (h2:QSs X rest u):QSs X (st::rest) (tCut t u):=.of (pss_cut h1 h2.to)
theorem qs_if {c:Expr} {a b:List Stmt} {tc:TT} (hc:PT X c tc) (ha:QSs X a t) (hb:QSs X b u):PS X (.If c a b pos) (tIfS tc t u):=ps_if hc ha.to hb.to
theorem qs_while {c:Expr} {body:List Stmt} {tc:TT} {tb:TS} (hp:PassesOwn (model X.prog X.w) X.A X.env X.xe) (hc:PT X c tc) (hb:QSs X body tb):PS X (.While c body [] pos) (tWhile tc tb):=ps_while hp hc hb.to
theorem qs_for {tg iter:Expr} {body:List Stmt} {wi:TI} {g:TG} {tb:TS} (hp:PassesOwn (model X.prog X.w) X.A X.env X.xe) (hc:X.calm=true) (hi:PI X tg iter wi) (hg:PG X tg g) (hb:QSs X body tb)
  (hs:∀x,foldedSetIterable iter X.env x=pure x:=by intro _;rfl):PS X (.For tg iter body [] pos) (tFor wi g tb):=ps_for hp hc hi hg hb.to hs
end
theorem Fun.okK {P:Program} {w:World} {K:PySem.W.Frag} {mg:Str->Option Value} {base:Heap} {x qual:Str} {st:Stmt} {f:Addr} {fd:FuncData} {N ps:List Str} {k:Nat} {sp:Sp} (F:Fun K x qual st f fd) (S:FnScope N ps (defScope st)) (len:∀vs H Q E,sp vs H Q E->vs.length=ps.length)
  (hbody:∀(cdv:Value) (A:Around) (outer:List Env) (s:Shared) (H:Hp) (vs:List V) (Q:VK) (E:XK),Room k (A.deeper (envOfC qual (defScope st) s.heap.objs.size f cdv))->sp vs H Q E->
   HC (cxOf CX0 P w K mg base N qual (defScope st) f cdv A outer s H E).nox N (defScope st)->(∀x,(cxOf CX0 P w K mg base N qual (defScope st) f cdv A outer s H E).nox.fn x=true)->
   ∃t,QSs (cxOf CX0 P w K mg base N qual (defScope st) f cdv A outer s H E).nox (defBody st) t/\t { nx:=fun _ H'=>Q .non H',rt:=Q } (start N vs) H):FnOk P w K mg base CX0 (k+1) f fd ps sp:=
 F.ok S len fun cdv A outer s H vs Q E hr h=>let ⟨t,h1,h2⟩:=hbody cdv A outer s H vs Q E hr h ⟨rfl,rfl⟩ fun _=>rfl;⟨t,h1.to,h2⟩
end L2
namespace L2
open PySem PySem.Spec PyProof.Rows
def ForAll (J:It) (g:TG) (tb:TS) (D:Ends) (σ:St) (H:Hp):Prop:=∃W:Nat->Nat->St->Hp->Prop,(∃m,W 0 m σ H)/\∀i m σ H,W i m σ H->
 (J.stop i H/\D.nx σ H)\/(J.go i H/\∃N:St->Hp->Prop,(∀σ' H',N σ' H'->∃m',m' < m/\W (i+1) m' σ' H')/\∀x H',J.yld i H x H'->g x σ H' fun σ2 H2=>tb { D with nx:=N,ct:=N,bk:=D.nx } σ2 H2)
theorem tFor_eq {wi:TI} {g:TG} {tb:TS} {D:Ends} {σ:St} {H:Hp}:tFor wi g tb D σ H=wi σ H (fun J H1=>ForAll J g tb D σ H1):=rfl
def CompAll (J:It) (k:Nat) (idx:List Nat) (g:CB->TG) (tt:CB->TT) (te:CB->TE) (σ:St) (Q:VK) (H1:Hp):Prop:=∀D,H1 D=none->∃W:Nat->Nat->List V->Hp->Prop,(∃m,W 0 m [] (upd H1 D (.lst [])))/\
 ∀i m ys H',W i m ys H'->(J.stop i H'/\Q (.ref D) H')\/(J.go i H'/\∃N:List V->Hp->Prop,(∀ys' H'',N ys' H''->∃m',m' < m/\W (i+1) m' ys' H'')/\∀(c:CB) (own:St),own.length=k->∀x H2,J.yld i H' x H2->g c x (own++subS σ idx) H2 fun σ3 H3=>
  (∃own',own'.length=k/\σ3=own'++subS σ idx)/\tt c σ3 H3 fun b H4=>if b=true then te c σ3 H4 fun y H5=>H5 D=some (.lst ys)/\ys.length < sizeLine/\N (ys++[y]) (upd H5 D (.lst (ys++[y]))) else N ys H4)
theorem tComp_eq {wi:TI} {k:Nat} {idx:List Nat} {g:CB->TG} {tt:CB->TT} {te:CB->TE} {σ:St} {H:Hp} {Q:VK}:tComp wi k idx g tt te σ H Q=wi σ H (fun J H1=>CompAll J k idx g tt te σ Q H1):=rfl
theorem forAll_rng {lo:Int} {n:Nat} {g:TG} {tb:TS} {D:Ends} {σ:St} {H:Hp} (Pv:Nat->St->Hp->Prop) (h0:Pv 0 σ H)
  (hs:∀i σ H,i < n->Pv i σ H->g (.int (lo+i)) σ H fun σ2 H2=>tb { D with nx:=Pv (i+1),ct:=Pv (i+1),bk:=D.nx } σ2 H2) (hd:∀σ H,Pv n σ H->D.nx σ H):ForAll (Itr lo n) g tb D σ H:=for_range Pv h0 hs hd
theorem forAll_list {K:PySem.W.Frag} {a:Addr} {xs:List V} {g:TG} {tb:TS} {D:Ends} {σ:St} {H:Hp} (Pv:Nat->St->Hp->Prop) (h0:Pv 0 σ H) (hl:∀i σ H,i<=xs.length->Pv i σ H->H a=some (.lst xs))
  (hs:∀i x σ H,xs[i]? = some x->Pv i σ H->g x σ H fun σ2 H2=>tb { D with nx:=Pv (i+1),ct:=Pv (i+1),bk:=D.nx } σ2 H2) (hd:∀σ H,Pv xs.length σ H->D.nx σ H):ForAll (Itl K a) g tb D σ H:=
 for_list Pv h0 (fun i σ H hi p=>sqL_of (hl i σ H hi p)) hs hd
theorem compAll_rng {lo:Int} {n:Nat} {idx:List Nat} {tt:CB->TT} {te:CB->TE} {σ:St} {Q:VK} {H1:Hp} (Pv:Addr->Nat->List V->Hp->Prop) (h0:∀D,H1 D=none->Pv D 0 [] (upd H1 D (.lst [])))
  (hs:∀D,H1 D=none->∀i ys H,i < n->Pv D i ys H->∀(c:CB),tt c (some (.int (lo+i))::subS σ idx) H fun b H4=>if b=true then te c (some (.int (lo+i))::subS σ idx) H4 fun y H5=>H5 D=some (.lst ys)/\ys.length < sizeLine/\Pv D (i+1) (ys++[y]) (upd H5 D (.lst (ys++[y]))) else Pv D (i+1) ys H4)
  (hd:∀D,H1 D=none->∀ys H,Pv D n ys H->Q (.ref D) H):CompAll (Itr lo n) 1 idx (fun _=>gName 0) tt te σ Q H1:=
 fun D hD=>comp_range1 (Pv D) (h0 D hD) (hs D hD) (hd D hD)
theorem compAll_list {K:PySem.W.Frag} {a:Addr} {zs:List V} {idx:List Nat} {tt:CB->TT} {te:CB->TE} {σ:St} {Q:VK} {H1:Hp} (Pv:Addr->Nat->List V->Hp->Prop) (h0:∀D,H1 D=none->Pv D 0 [] (upd H1 D (.lst [])))
  (hl:∀D,H1 D=none->∀i ys H,i<=zs.length->Pv D i ys H->H a=some (.lst zs))
  (hs:∀D,H1 D=none->∀i x ys H,zs[i]? = some x->Pv D i ys H->∀(c:CB),tt c (some x::subS σ idx) H fun b H4=>if b=true then te c (some x::subS σ idx) H4 fun y H5=>H5 D=some (.lst ys)/\ys.length < sizeLine/\Pv D (i+1) (ys++[y]) (upd H5 D (.lst (ys++[y]))) else Pv D (i+1) ys H4)
  (hd:∀D,H1 D=none->∀ys H,Pv D zs.length ys H->Q (.ref D) H):CompAll (Itl K a) 1 idx (fun _=>gName 0) tt te σ Q H1:=
 fun D hD=>comp_list1 (Pv D) (h0 D hD) (fun i ys H hi p=>sqL_of (hl D hD i ys H hi p)) (hs D hD) (hd D hD)
end L2
namespace L2
open PySem PySem.Spec PyProof.Rows
def tTxtsL (ss:List Str):TA:=fun _ H Q=>Q (List.map V.str ss) H
theorem txts_all:∀{es:List Expr} {ss:List Str},(es.map txtOf == ss.map some)=true->(es.all fun e=>(txtOf e).isSome)=true/\txtsOf es=ss
 | [],[],_=>⟨rfl,rfl⟩
 | [],_::_,h=>by cases h
 | _::_,[],h=>by cases h
 | e::es,x::ss,h=>by
  have h':(txtOf e == some x && (es.map txtOf == ss.map some))=true:=h
  rw [Bool.and_eq_true] at h'
  have e1:txtOf e=some x:=by simpa using h'.1
  have ih:=txts_all h'.2
  refine ⟨by rw [List.all_cons,e1,ih.1];rfl,?_⟩
  show (e::es).filterMap txtOf=_
  rw [List.filterMap_cons,e1]
  show x::txtsOf es=_
  rw [ih.2]
theorem pa_txtsL {X:Cx} {es:List Expr} (ss:List Str) (h:(es.map txtOf == ss.map some)=true):PA X es (tTxtsL ss):=by
 have c:=pa_txts (X:=X) (txts_all h).1
 rw [show tTxts es=tTxtsL ss by unfold tTxts tTxtsL;rw [(txts_all h).2]] at c
 exact c
end L2
end
section
namespace L2
open PySem PySem.Spec PyProof.Rows
structure ZE (X:Cx) (e:Expr) (t:TE):Prop where
 to:PE X e t
structure ZT (X:Cx) (e:Expr) (t:TT):Prop where
 to:PT X e t
structure ZW (X:Cx) (e:Expr) (t:TT):Prop where
 to:PW X e t
structure ZA (X:Cx) (e:List Expr) (t:TA):Prop where
 to:PA X e t
structure ZS (X:Cx) (e:Stmt) (t:TS):Prop where
 to:PS X e t
structure ZSs (X:Cx) (e:List Stmt) (t:TS):Prop where
 to:PSs X e t
structure ZG (X:Cx) (e:Expr) (t:TG):Prop where
 to:PG X e t
structure ZGs (X:Cx) (e:List Expr) (t:TGs):Prop where
 to:PGs X e t
structure ZIfs (X:Cx) (e:List Expr) (t:TT):Prop where
 to:PIfs X e t
structure ZO (X:Cx) (e:Option Expr) (t:TO):Prop where
 to:PO X e t
structure ZI (X:Cx) (tg iter:Expr) (t:TI):Prop where
 to:PI X tg iter t
theorem zpe_bl {X:Cx} {b:Bool} {j:Nat} {pos:Pos}:ZE X (Expr.Constant (Const.bool b) j pos) (tC (V.bl b)):=⟨pe_bl⟩
theorem zpe_int {X:Cx} {i:Int} {j:Nat} {pos:Pos}:ZE X (Expr.Constant (Const.int i) j pos) (tC (V.int i)):=⟨pe_int⟩
theorem zpe_str {X:Cx} {x:Str} {j:Nat} {pos:Pos}:ZE X (Expr.Constant (Const.str x) j pos) (tC (V.str x)):=⟨pe_str⟩
theorem zpe_non {X:Cx} {j:Nat} {pos:Pos}:ZE X (Expr.Constant Const.none j pos) (tC V.non):=⟨pe_non⟩
theorem zpvk {X:Cx} {N:List Str} {sc:Scope} {x:Str} {pos:Pos} (h1:HC X N sc) (i:Nat) (h2:okV N sc i x=true):ZE X (Expr.Name x pos) (tVar i):=⟨pvk h1 i h2⟩
theorem zpe_bltn {X:Cx} {x:Str} {v:V} {u:Value} {pos:Pos} (h1:Gl X x) (h2:Cx.mg X x=none) (h3:bootBuiltins x=some u) (h4:RelV v u) (h5:autoParam (x≠Str.ofString "__name__") pe_bltn._auto_1) (h6:autoParam ((x == Str.ofString "__debug__")=false) pe_bltn._auto_2):ZE X (Expr.Name x pos) (tC v):=⟨pe_bltn h1 h2 h3 h4 h5 h6⟩
theorem zpe_lst {X:Cx} {es:List Expr} {t:TA} {pos:Pos} (h1:ZA X es t):ZE X (Expr.List es pos) (tLst t):=⟨pe_lst h1.to⟩
theorem zpe_tup {X:Cx} {es:List Expr} {t:TA} {pos:Pos} {x1:Nat} (h1:ZA X es t):ZE X (Expr.Tuple es x1 pos) (tTup t):=⟨pe_tup h1.to⟩
theorem zpe_dnewK {X:Cx} {pos:Pos}:ZE X (Expr.Dict [] [] pos) tDNewK:=⟨pe_dnewK⟩
theorem zpe_op {X:Cx} {a b:Expr} {ta tb:TE} {pos:Pos} {op:Operator} {r:R2} (h1:OpR X (binaryOp op) r) (h2:ZE X a ta) (h3:ZE X b tb):ZE X (Expr.BinOp a op b pos) (tOp r ta tb):=⟨pe_op h1 h2.to h3.to⟩
theorem zpe_not {X:Cx} {a:Expr} {ta:TE} {pos:Pos} (h1:ZE X a ta):ZE X (Expr.UnaryOp UnaryOp.Not a pos) (tNotV ta):=⟨pe_not h1.to⟩
theorem zpe_un {X:Cx} {a:Expr} {ta:TE} {pos:Pos} {op:UnaryOp} {r:V->Hp->VK->Prop} (h1:UnR X (unaryOp op) r) (h2:ZE X a ta):ZE X (Expr.UnaryOp op a pos) (tUn r ta):=⟨pe_un h1 h2.to⟩
theorem zpe_chain {X:Cx} {a b c:Expr} {ta tb tc:TE} {pos:Pos} {op op':CmpOp} {r r':R2} (h1:OpR X (compareOp op) r) (h2:OpR X (compareOp op') r') (h3:ZE X a ta) (h4:ZE X b tb) (h5:ZE X c tc) (h6:autoParam (lastMarks [op,op'] [b,c]=false) pe_chain._auto_1):ZE X (Expr.Compare a [op,op'] [b,c] pos) (tChain r r' ta tb tc):=⟨pe_chain h1 h2 h3.to h4.to h5.to h6⟩
theorem zpe_cmpR {X:Cx} {a b:Expr} {ta tb:TE} {pos:Pos} {op:CmpOp} {r:R2} (h1:OpR X (compareOp op) r) (h2:ZE X a ta) (h3:ZE X b tb) (h4:behindInMarks op b=false):ZE X (Expr.Compare a [op] [b] pos) (tOp r ta tb):=⟨pe_cmpR h1 h2.to h3.to h4⟩
theorem zpe_one {X:Cx} {a:Expr} {pos:Pos} {op:BoolOp} {t:TE} (h1:ZE X a t):ZE X (Expr.BoolOp op [a] pos) t:=⟨pe_one h1.to⟩
theorem zpe_and {X:Cx} {a b:Expr} {ta tb:TE} {pos:Pos} {rest:List Expr} (h1:ZE X a ta) (h2:ZE X (Expr.BoolOp BoolOp.And (b::rest) pos) tb):ZE X (Expr.BoolOp BoolOp.And (a::b::rest) pos) (tAndV ta tb):=⟨pe_and h1.to h2.to⟩
theorem zpe_rev {X:Cx} {e st:Expr} {te ts:TE} {pos p2:Pos} (h1:ZE X e te) (h2:ZE X st ts):ZE X (Expr.Subscript e (Expr.Slice none none (some st) p2) pos) (tRev (Cx.K X) te ts):=⟨pe_rev h1.to h2.to⟩
theorem zpo_none {X:Cx}:ZO X none tNoPart:=⟨po_none⟩
theorem zpo_some {X:Cx} {e:Expr} {te:TE} (h1:ZE X e te):ZO X (some e) (tPart te):=⟨po_some h1.to⟩
theorem zpe_slice {X:Cx} {e:Expr} {te:TE} {lo hi:Option Expr} {tl th:TO} {pos p2:Pos} {r:V->Option Int->Option Int->Hp->VK->Prop} (h1:SlR X r) (h2:ZE X e te) (h3:ZO X lo tl) (h4:ZO X hi th):ZE X (Expr.Subscript e (Expr.Slice lo hi none p2) pos) (tSl r te tl th):=⟨pe_slice h1 h2.to h3.to h4.to⟩
theorem zpe_ix {X:Cx} {a b:Expr} {ta tb:TE} {pos:Pos} {r:R2} (h1:IxR X r) (h2:ZE X a ta) (h3:ZE X b tb) (h4:PlainIx b):ZE X (Expr.Subscript a b pos) (tOp r ta tb):=⟨pe_ix h1 h2.to h3.to h4⟩
theorem zpek_comp {X : Cx} {N : List Str} {osc : Scope} {elt target iter : Expr} {ifs : List Expr} {scope : Scope} {pos : Pos} {wi : TI} {g : CB → TG} {tt : CB → TT} {te : CB → TE} (h1 : HC X N osc) (xs : List Str) (idx : List Nat) (h2 : Cx.calm X = true) (h3 : csOk osc N scope idx = true) (h4 : ZI X target iter wi) (h5 : (∀ (c : CB),
                HC (cxC X scope (xs ++ subN (Cx.N X) idx) c) (xs ++ subN N idx) (relabelS scope osc) →
                  ZG (cxC X scope (xs ++ subN (Cx.N X) idx) c) target (g c))) (h6 : (∀ (c : CB),
                  HC (cxC X scope (xs ++ subN (Cx.N X) idx) c) (xs ++ subN N idx) (relabelS scope osc) →
                    ZIfs (cxC X scope (xs ++ subN (Cx.N X) idx) c) ifs (tt c))) (h7 : (∀ (c : CB),
                    HC (cxC X scope (xs ++ subN (Cx.N X) idx) c) (xs ++ subN N idx) (relabelS scope osc) →
                      ZE (cxC X scope (xs ++ subN (Cx.N X) idx) c) elt (te c))) (h8 : autoParam (∀ (x : Value), foldedSetIterable iter (Cx.env X) x = pure x) pek_comp._auto_1) : ZE X (Expr.ListComp elt [{ target := target, iter := iter, ifs := ifs, is_async := 0 }] scope pos)
                      (tComp wi (List.length xs) idx g tt te) := ⟨pek_comp h1 xs idx h2 h3 h4.to (fun c z => (h5 c z).to) (fun c z => (h6 c z).to) (fun c z => (h7 c z).to) h8⟩
theorem zpa_txtsL {X:Cx} {es:List Expr} (ss:List Str) (h1:(List.map txtOf es == List.map some ss)=true):ZA X es (tTxtsL ss):=⟨pa_txtsL ss h1⟩
theorem zpa_nil {X:Cx}:ZA X [] tNil:=⟨pa_nil⟩
theorem zpa_cons {X:Cx} {e:Expr} {es:List Expr} {te:TE} {t:TA} (h1:ZE X e te) (h2:ZA X es t) (h3:autoParam (starEach (e::es) (Cx.env X)=(false,eval e (Cx.env X))::starEach es (Cx.env X)) pa_cons._auto_1):ZA X (e::es) (tCons te t):=⟨pa_cons h1.to h2.to h3⟩
theorem zpg_tup {X : Cx} {pos : Pos} {es : List Expr} {k : Nat} {t : TGs} {n : Nat} (h1 : Cx.calm X = true) (h2 : ZGs X es t) (h3 : autoParam (List.length (assignEach es (Cx.env X)) = n) pg_tup._auto_1) (h4 : autoParam (List.findIdx? (fun (x : Bool × (Value → Sem Unit)) => Prod.fst x) (assignEach es (Cx.env X)) = none)
            pg_tup._auto_2) : ZG X (Expr.Tuple es k pos) (gTup (Cx.K X) n t) := ⟨pg_tup h1 h2.to h3 h4⟩
theorem zpgb {X:Cx} {N:List Str} {sc:Scope} {x:Str} {pos:Pos} (h1:HC X N sc) (h2:List.Nodup N) (i:Nat) (h3:okL1 N sc i x=true):ZG X (Expr.Name x pos) (gName i):=⟨pgb h1 h2 i h3⟩
theorem zpifs_nil {X:Cx}:ZIfs X [] tYes:=⟨pifs_nil⟩
theorem zpifs_one {X:Cx} {e:Expr} {t:TT} (h1:ZT X e t):ZIfs X [e] t:=⟨pifs_one h1.to⟩
theorem zpgs_nil {X:Cx}:ZGs X [] gNil:=⟨pgs_nil⟩
theorem zpgs_cons {X : Cx} {e : Expr} {es : List Expr} {t : TG} {u : TGs} (h1 : ZG X e t) (h2 : ZGs X es u) (h3 : autoParam
          (List.map (fun (x : Bool × (Value → Sem Unit)) => Prod.snd x) (assignEach (e :: es) (Cx.env X)) =
            assign e (Cx.env X) ::
              List.map (fun (x : Bool × (Value → Sem Unit)) => Prod.snd x) (assignEach es (Cx.env X)))
          pgs_cons._auto_1) : ZGs X (e :: es) (gCons t u) := ⟨pgs_cons h1.to h2.to h3⟩
theorem zpi_range1 {X:Cx} {tg a:Expr} {ta:TA} {p pos:Pos} (h1:Gl X (Str.ofString "range")) (h2:Cx.mg X (Str.ofString "range")=none) (h3:ZA X [a] ta) (h4:autoParam (starEach [a] (Cx.env X)=[(false,eval a (Cx.env X))]) pi_range1._auto_1):ZI X tg (Expr.Call (Expr.Name (Str.ofString "range") p) [a] [] pos) (iRng1 ta):=⟨pi_range1 h1 h2 h3.to h4⟩
theorem zpi_range2 {X : Cx} {tg a b : Expr} {ta : TA} {p pos : Pos} (h1 : Gl X (Str.ofString "range")) (h2 : Cx.mg X (Str.ofString "range") = none) (h3 : ZA X [a, b] ta) (h4 : autoParam (starEach [a, b] (Cx.env X) = [(false, eval a (Cx.env X)), (false, eval b (Cx.env X))])
            pi_range2._auto_1) (h5 : autoParam (starEach [b] (Cx.env X) = [(false, eval b (Cx.env X))]) pi_range2._auto_2) : ZI X tg (Expr.Call (Expr.Name (Str.ofString "range") p) [a, b] [] pos) (iRng2 ta) := ⟨pi_range2 h1 h2 h3.to h4 h5⟩
theorem zpi_list {X:Cx} {tg l:Expr} {tl:TE} (h1:ZE X l tl):ZI X tg l (iList (Cx.K X) tl):=⟨pi_list h1.to⟩
theorem zpi_tup {X:Cx} {tg l:Expr} {tl:TE} (h1:ZE X l tl):ZI X tg l (iTup (Cx.K X) tl):=⟨pi_tup h1.to⟩
theorem zpt_chain {X:Cx} {a b c:Expr} {ta tb tc:TE} {pos:Pos} {op op':CmpOp} {r r':R2} (h1:OpR X (compareOp op) r) (h2:OpR X (compareOp op') r') (h3:ZE X a ta) (h4:ZE X b tb) (h5:ZE X c tc) (h6:autoParam (lastMarks [op,op'] [b,c]=false) pt_chain._auto_1):ZT X (Expr.Compare a [op,op'] [b,c] pos) (tTest (tChain r r' ta tb tc)):=⟨pt_chain h1 h2 h3.to h4.to h5.to h6⟩
theorem zpt_cmpR {X:Cx} {a b:Expr} {ta tb:TE} {pos:Pos} {op:CmpOp} {r:R2} (h1:OpR X (compareOp op) r) (h2:ZE X a ta) (h3:ZE X b tb) (h4:behindInMarks op b=false):ZT X (Expr.Compare a [op] [b] pos) (tTest (tOp r ta tb)):=⟨pt_cmpR h1 h2.to h3.to h4⟩
theorem zpt_not {X:Cx} {a:Expr} {pos:Pos} {tA:TT} (h1:ZT X a tA):ZT X (Expr.UnaryOp UnaryOp.Not a pos) (tNot tA):=⟨pt_not h1.to⟩
theorem zPWpt {X:Cx} {e:Expr} {t:TT} (h1:ZW X e t):ZT X e t:=⟨PW.pt h1.to⟩
theorem zpt_val {X:Cx} {e:Expr} {t:TE} (h1:ZE X e t) (h2:autoParam
    (∀(whole:Sem Value),
     PySem.isTrue e (Cx.env X) whole=do
      let v <-whole
      standAt (Expr.pos e)
      holding [v] (truthy v))
    pt_val._auto_1):ZT X e (tB t):=⟨pt_val h1.to h2⟩
theorem zpw_and1 {X:Cx} {a:Expr} {pos:Pos} {tA:TT} (h1:ZT X a tA):ZW X (Expr.BoolOp BoolOp.And [a] pos) tA:=⟨pw_and1 h1.to⟩
theorem zpw_or1 {X:Cx} {a:Expr} {pos:Pos} {tA:TT} (h1:ZT X a tA):ZW X (Expr.BoolOp BoolOp.Or [a] pos) tA:=⟨pw_or1 h1.to⟩
theorem zpw_and {X:Cx} {a b:Expr} {pos:Pos} {tA tB':TT} {rest:List Expr} (h1:ZT X a tA) (h2:ZW X (Expr.BoolOp BoolOp.And (b::rest) pos) tB'):ZW X (Expr.BoolOp BoolOp.And (a::b::rest) pos) (tAnd tA tB'):=⟨pw_and h1.to h2.to⟩
theorem zpw_or {X:Cx} {a b:Expr} {pos:Pos} {tA tB':TT} {rest:List Expr} (h1:ZT X a tA) (h2:ZW X (Expr.BoolOp BoolOp.Or (b::rest) pos) tB'):ZW X (Expr.BoolOp BoolOp.Or (a::b::rest) pos) (tOr tA tB'):=⟨pw_or h1.to h2.to⟩
theorem zpe_call {X : Cx} {CX : CXT} {k : Nat} {f : Addr} {fd : FuncData} {ps : List Str} {sp : Sp} {dvs : List V} {ds : List Value} {E : XK} {x : Str} {p pos : Pos} {e : Expr} {es : List Expr} {t : TA} (h1 : FnOk (Cx.prog X) (Cx.w X) (Cx.K X) (Cx.mg X) (Cx.base X) CX k f fd ps sp) (h2 : Room k (Cx.A X)) (h3 : Gl X x) (h4 : Cx.mg X x = some (Value.ref f)) (h5 : W.keepIn (Cx.K X) (Value.ref f) = true) (h6 : Binds (Cx.K X) fd ps ds) (h7 : Vals dvs ds) (h8 : Passes CX X E) (h9 : ZA X (e :: es) t) (h10 : autoParam ((x == Str.ofString "__debug__") = false) pe_call._auto_1) (h11 : autoParam (starEach (e :: es) (Cx.env X) = (false, eval e (Cx.env X)) :: starEach es (Cx.env X))
                          pe_call._auto_2) (h12 : autoParam
                            ((List.any (backTo pos (starEach es (Cx.env X))) fun (x : Bool × Sem Value) => Prod.fst x) =
                              false)
                            pe_call._auto_3) : ZE X (Expr.Call (Expr.Name x p) (e :: es) [] pos) (tCall sp dvs E t) := ⟨pe_call h1 h2 h3 h4 h5 h6 h7 h8 h9.to h10 h11 h12⟩
theorem zpe_callTy {X : Cx} {x : Str} {p pos : Pos} {e : Expr} {es : List Expr} {t : TA} {T : String} {r : List V → Hp → VK → Prop} (h1 : CallR X (Value.type T) r) (h2 : Gl X x) (h3 : Cx.mg X x = none) (h4 : bootBuiltins x = some (Value.type T)) (h5 : ZA X (e :: es) t) (h6 : autoParam (x ≠ Str.ofString "__name__") pe_callTy._auto_1) (h7 : autoParam ((x == Str.ofString "__debug__") = false) pe_callTy._auto_2) (h8 : autoParam (starEach (e :: es) (Cx.env X) = (false, eval e (Cx.env X)) :: starEach es (Cx.env X))
                    pe_callTy._auto_3) (h9 : autoParam
                      ((List.any (backTo pos (starEach es (Cx.env X))) fun (x : Bool × Sem Value) => Prod.fst x) =
                        false)
                      pe_callTy._auto_4) : ZE X (Expr.Call (Expr.Name x p) (e :: es) [] pos) (tCB r t) := ⟨pe_callTy h1 h2 h3 h4 h5.to h6 h7 h8 h9⟩
theorem zpe_callB {X : Cx} {x : Str} {p pos : Pos} {e : Expr} {es : List Expr} {t : TA} {id : String} {r : List V → Hp → VK → Prop} (h1 : CallR X (Value.builtin id) r) (h2 : Gl X x) (h3 : Cx.mg X x = none) (h4 : bootBuiltins x = some (Value.builtin id)) (h5 : ZA X (e :: es) t) (h6 : autoParam (x ≠ Str.ofString "__name__") pe_callB._auto_1) (h7 : autoParam ((x == Str.ofString "__debug__") = false) pe_callB._auto_2) (h8 : autoParam (starEach (e :: es) (Cx.env X) = (false, eval e (Cx.env X)) :: starEach es (Cx.env X))
                    pe_callB._auto_3) (h9 : autoParam
                      ((List.any (backTo pos (starEach es (Cx.env X))) fun (x : Bool × Sem Value) => Prod.fst x) =
                        false)
                      pe_callB._auto_4) : ZE X (Expr.Call (Expr.Name x p) (e :: es) [] pos) (tCB r t) := ⟨pe_callB h1 h2 h3 h4 h5.to h6 h7 h8 h9⟩
theorem zpe_bm {X : Cx} {o e : Expr} {es : List Expr} {to : TE} {t : TA} {name : Str} {apos cpos : Pos} {T id : String} {r : V → List V → Hp → VK → Prop} (h1 : PlainAttrs T) (h2 : Slot T name id) (h3 : typeOf (Value.builtin id) = pure (Value.type "method_descriptor")) (h4 : MtR X id r) (h5 : ZE X o to) (h6 : ZA X (e :: es) t) (h7 : autoParam (attributeBase o name (Cx.env X) (eval o (Cx.env X)) = eval o (Cx.env X)) pe_bm._auto_1) (h8 : autoParam
                    ((((List.all (backTo cpos (starEach (e :: es) (Cx.env X))) fun (x : Bool × Sem Value) =>
                            !Prod.fst x) &&
                          List.all (backToKw cpos (keywordEach [] (Cx.env X))) fun (x : Option Str × Sem Value) =>
                            Option.isSome (Prod.fst x)) &&
                        decide
                          ((List.length (e :: es) + List.length ([] : List Keyword) + if List.isEmpty ([] : List Keyword) = true then 0 else 1) < 30)) =
                      true)
                    pe_bm._auto_2) (h9 : autoParam ((Pos.endLine apos == Pos.line cpos) = true) pe_bm._auto_3) (h10 : autoParam (starEach (e :: es) (Cx.env X) = (false, eval e (Cx.env X)) :: starEach es (Cx.env X))
                        pe_bm._auto_4) (h11 : autoParam
                          ((List.any (backTo cpos (starEach es (Cx.env X))) fun (x : Bool × Sem Value) => Prod.fst x) =
                            false)
                          pe_bm._auto_5) : ZE X (Expr.Call (Expr.Attribute o name apos) (e :: es) [] cpos) (tBM (Cx.K X) T r to t) := ⟨pe_bm h1 h2 h3 h4 h5.to h6.to h7 h8 h9 h10 h11⟩
theorem zps_ret {X:Cx} {e:Expr} {te:TE} {pos:Pos} (h1:ZE X e te):ZS X (Stmt.Return (some e) pos) (tRet te):=⟨ps_ret h1.to⟩
theorem zps_expr {X:Cx} {e:Expr} {te:TE} {pos:Pos} (h1:ZE X e te) (h2:autoParam (swapsWith e none (Pos.line pos) (Cx.env X)=pure false) ps_expr._auto_1):ZS X (Stmt.Expr e pos) (tDrop te):=⟨ps_expr h1.to h2⟩
theorem zpsk_set {X:Cx} {N:List Str} {sc:Scope} {x:Str} {pos:Pos} {e:Expr} {te:TE} {pos':Pos} (h1:HC X N sc) (h2:List.Nodup N) (h3:(∀(x:Str),Cx.fn X x=true)) (i:Nat) (h4:okL N sc i x=true) (h5:ZE X e te) (h6:autoParam (swapsWith e (some (Expr.Name x pos')) (Pos.line pos) (Cx.env X)=pure false) psk_set._auto_1):ZS X (Stmt.Assign [Expr.Name x pos'] e pos) (tAsg te (gName i)):=⟨psk_set h1 h2 h3 i h4 h5.to h6⟩
theorem zps_asg {X : Cx} {pos : Pos} {tg e : Expr} {te : TE} {g : TG} (h1 : ZE X e te) (h2 : ZG X tg g) (h3 : autoParam (swapsWithSole [tg] e (Pos.line pos) (Cx.env X) = pure false) ps_asg._auto_1) (h4 : autoParam (swappedStores [tg] e (Cx.env X) = pure none) ps_asg._auto_2) (h5 : autoParam
              (List.map (fun (x : Bool × (Value → Sem Unit)) => Prod.snd x) (assignEach [tg] (Cx.env X)) =
                [assign tg (Cx.env X)])
              ps_asg._auto_3) : ZS X (Stmt.Assign [tg] e pos) (tAsg te g) := ⟨ps_asg h1.to h2.to h3 h4 h5⟩
theorem zpg_sub {X : Cx} {pos : Pos} {o i : Expr} {to ti : TE} {t : TSet} (h1 : ZE X o to) (h2 : ZE X i ti) (h3 : PSet X t) (h4 : autoParam
            (∀ (v : Value),
              assign (Expr.Subscript o i pos) (Cx.env X) v = do
                let ov ← holding [v] (eval o (Cx.env X))
                let iv ← holding [v, ov] (eval i (Cx.env X))
                standAt pos
                holding [v, ov, iv] (setItem ov iv v)
                release [v, ov, iv] [])
            pg_sub._auto_1) : ZG X (Expr.Subscript o i pos) (gSub to ti t) := ⟨pg_sub h1.to h2.to h3 h4⟩
theorem zps_augS {X : Cx} {pos : Pos} {o i e : Expr} {to ti te : TE} {tget : V → V → Hp → VK → Prop} {tip : TIp} {tset : TSet} {op : Operator} {tpos : Pos} (h1 : ZE X o to) (h2 : ZE X i ti) (h3 : PGet X tget) (h4 : ZE X e te) (h5 : PIp X op tip) (h6 : PSet X tset) (h7 : autoParam
                  (∀ (ov iv new : Value),
                    augStore i ov iv new = do
                      holding [new, ov, iv] (setItem ov iv new)
                      release [new, ov, iv] []
                      pure Flow.next)
                  ps_augS._auto_1) : ZS X (Stmt.AugAssign (Expr.Subscript o i tpos) op e pos) (tAugS to ti te tget tip tset) := ⟨ps_augS h1.to h2.to h3 h4.to h5 h6 h7⟩
theorem zqs_if {X:Cx} {t u:TS} {pos:Pos} {c:Expr} {a b:List Stmt} {tc:TT} (h1:ZT X c tc) (h2:ZSs X a t) (h3:ZSs X b u):ZS X (Stmt.If c a b pos) (tIfS tc t u):=⟨qs_if h1.to (.of h2.to) (.of h3.to)⟩
theorem zqs_while {X:Cx} {pos:Pos} {c:Expr} {body:List Stmt} {tc:TT} {tb:TS} (h1:PassesOwn (model (Cx.prog X) (Cx.w X)) (Cx.A X) (Cx.env X) (Cx.xe X)) (h2:ZT X c tc) (h3:ZSs X body tb):ZS X (Stmt.While c body [] pos) (tWhile tc tb):=⟨qs_while h1 h2.to (.of h3.to)⟩
theorem zpgk {X:Cx} {N:List Str} {sc:Scope} {x:Str} {pos:Pos} (h1:HC X N sc) (h2:List.Nodup N) (h3:(∀(x:Str),Cx.fn X x=true)) (i:Nat) (h4:okL N sc i x=true):ZG X (Expr.Name x pos) (gName i):=⟨pgk h1 h2 h3 i h4⟩
theorem zqs_for {X:Cx} {pos:Pos} {tg iter:Expr} {body:List Stmt} {wi:TI} {g:TG} {tb:TS} (h1:PassesOwn (model (Cx.prog X) (Cx.w X)) (Cx.A X) (Cx.env X) (Cx.xe X)) (h2:Cx.calm X=true) (h3:ZI X tg iter wi) (h4:ZG X tg g) (h5:ZSs X body tb) (h6:autoParam (∀(x:Value),foldedSetIterable iter (Cx.env X) x=pure x) qs_for._auto_1):ZS X (Stmt.For tg iter body [] pos) (tFor wi g tb):=⟨qs_for h1 h2 h3.to h4.to (.of h5.to) h6⟩
theorem zqss_nil {X:Cx}:ZSs X [] tNext:=⟨QSs.to qss_nil⟩
theorem zqss_one {X:Cx} {st:Stmt} {t:TS} (h1:ZS X st t):ZSs X [st] t:=⟨QSs.to (qss_one h1.to)⟩
theorem zqss_cons {X:Cx} {st:Stmt} {rest:List Stmt} {t u:TS} (h1:ZS X st t) (h2:ZSs X rest u):ZSs X (st::rest) (tSeq t u):=⟨QSs.to (qss_cons h1.to (.of h2.to))⟩
theorem zqss_cut {X:Cx} {st:Stmt} {rest:List Stmt} {t u:TS} (h1:ZS X st t) (h2:ZSs X rest u):ZSs X (st::rest) (tCut t u):=⟨QSs.to (qss_cut h1.to (.of h2.to))⟩
theorem Fun.okZ {P:Program} {w:World} {K:PySem.W.Frag} {mg:Str->Option Value} {base:Heap} {x qual:Str} {st:Stmt} {f:Addr} {fd:FuncData} {N ps:List Str} {k:Nat} {sp:Sp} (F:Fun K x qual st f fd) (S:FnScope N ps (defScope st)) (len:∀vs H Q E,sp vs H Q E->vs.length=ps.length)
  (hbody:∀(cdv:Value) (A:Around) (outer:List Env) (s:Shared) (H:Hp) (vs:List V) (Q:VK) (E:XK),Room k (A.deeper (envOfC qual (defScope st) s.heap.objs.size f cdv))->sp vs H Q E->
   HC (cxOf CX0 P w K mg base N qual (defScope st) f cdv A outer s H E).nox N (defScope st)->(∀x,(cxOf CX0 P w K mg base N qual (defScope st) f cdv A outer s H E).nox.fn x=true)->
   ∃t,ZSs (cxOf CX0 P w K mg base N qual (defScope st) f cdv A outer s H E).nox (defBody st) t/\t { nx:=fun _ H'=>Q .non H',rt:=Q } (start N vs) H):FnOk P w K mg base CX0 (k+1) f fd ps sp:=
 F.okK S len fun cdv A outer s H vs Q E hr h hc hf=>let ⟨t,h1,h2⟩:=hbody cdv A outer s H vs Q E hr h hc hf;⟨t,.of h1.to,h2⟩
end L2
end
section
namespace L2
open PySem PySem.Spec PyProof.Rows
def byT (w:World):Bool:=w.params.followText "set-order"
def entS (w:World) (p:Str×Tok):Int×Value:=(hashStr w p.1,.str p.1 p.2)
def sObj (es:Array (Int×Value)) (ep:Nat) (t:SetTable):Obj:={ cls:=.type "set",dict:=none,data:=.set es ep t }
structure SetT (w:World) (h:Heap) (a:Addr) (l:List (Str×Tok)):Prop where
 ex:∃es ep t,h.get? a=some (sObj es ep t)/\es.toList=l.map (entS w)/\t.fits es.size=true/\t.led = !byT w/\(l≠[]->t.plain=false)
 nd:(l.map (·.1)).Nodup
 sz:l.length < scanBound
section
variable {P:Program} {w:World} {A:Around} {E:Value->Shared->Prop} {s:Shared} {a:Addr} {l:List (Str×Tok)}
end
end L2
end
section
namespace L2
open PySem PySem.Spec PyProof.Rows
section
variable {P:Program} {w:World} {A:Around} {R:Result->Shared->Prop} {I:Addr} {fp wr:List Addr} {G:Array GenState->Array GenState->Prop} {n:Nat} {Pv:Nat->Value->Prop} {St:Nat->Shared->Prop}
end
section
variable {P:Program} {w:World} {A:Around} {E:Value->Shared->Prop} {s:Shared}
end
end L2
end
section
namespace L2
open PySem PySem.Spec PyProof.Rows
end L2
end
section
namespace L2
open PySem PySem.Spec PyProof.Rows
section
variable {P:Program} {w:World} {A:Around} {E:Value->Shared->Prop} {s:Shared} {a I:Addr} {es:Array (Int×Value)} {t:SetTable} {ep i n:Nat} {first:Value}
end
end L2
end
section
namespace L2
open PySem PySem.Spec PyProof.Rows
section
variable {P:Program} {w:World} {A:Around} {E:Value->Shared->Prop}
variable {s:Shared} {a:Addr} {es:Array (Int×Value)} {t:SetTable} {ep slot i:Nat}
end
end L2
end
section
namespace L2
open PySem PySem.Spec PyProof.Rows
section
variable {P:Program} {w:World} {B:Around} {a I:Addr} {es:Array (Int×Value)} {t:SetTable} {ep n:Nat} {ord:List Value}
end
section
variable {P:Program} {w:World} {A:Around} {E:Value->Shared->Prop} {s:Shared} {a:Addr} {l:List (Str×Tok)}
end
end L2
end
section
namespace L2
open PySem PySem.Spec PyProof.Rows
section
variable {P:Program} {w:World} {A:Around} {E:Value->Shared->Prop} {s:Shared} {a:Addr} {l:List (Str×Tok)}
end
theorem Inv.same {X:Cx} {pins:List (Addr×Obj)} {σ:List (Option V)} {H:Hp} {s s':Shared} (I:Inv X pins σ H s) (hh:s'.heap=s.heap) (hg:s'.gens=s.gens) (ho:s'.os=s.os):Inv X pins σ H s':=
 ⟨I.ok,by rw [ho];exact I.os,by rw [hg];exact I.bare,by rw [hh];exact I.base,by rw [hh];exact I.loc,by rw [hh];exact I.cell,I.free,I.freeC,by rw [hh];exact I.pin,by rw [hh];exact I.hok,I.len⟩
def TxS (w:World) (p:Addr) (ss:List Str):HO:=.ext fun h=>∃l,SetT w h p l/\∀z,z∈l.map (·.1)↔z∈ss
section
variable {X:Cx}
end
end L2
end
section
namespace L2
open PySem PySem.Spec PyProof.Rows
theorem cutS_to (z:Str) {v:Int} (h:0<=v):(cutS z none (some v)).cps.toList=z.cps.toList.take v.toNat:=by
 have hl:z.cps.toList.length=z.length:=by simp [Str.length]
 unfold cutS
 have e:HT.sIx z.length z.length (some v)=min v.toNat z.length:=by
  show (if v < 0 then _ else min v.toNat z.length)=_
  rw [if_neg (by lia)]
 rw [e]
 show (List.take (min v.toNat z.length - 0) (List.drop 0 z.cps.toList))=_
 rw [List.drop_zero,Nat.sub_zero,<-hl]
 by_cases hv:v.toNat<=z.cps.toList.length
 ·rw [Nat.min_eq_left hv]
 ·rw [Nat.min_eq_right (by lia),List.take_length,List.take_of_length_le (by lia)]
theorem cutS_from (z:Str) {v:Int} (h:0<=v):(cutS z (some v) none).cps.toList=z.cps.toList.drop v.toNat:=by
 have hl:z.cps.toList.length=z.length:=by simp [Str.length]
 unfold cutS
 have e:HT.sIx z.length 0 (some v)=min v.toNat z.length:=by
  show (if v < 0 then _ else min v.toNat z.length)=_
  rw [if_neg (by lia)]
 rw [e]
 show (List.take (z.length - min v.toNat z.length) (List.drop (min v.toNat z.length) z.cps.toList))=_
 rw [<-hl]
 by_cases hv:v.toNat<=z.cps.toList.length
 ·rw [Nat.min_eq_left hv,List.take_of_length_le (by rw [List.length_drop] <;> lia)]
 ·rw [Nat.min_eq_right (by lia),Nat.sub_self,List.take_zero,List.drop_eq_nil_of_le (by lia)]
theorem len_cps (z:Str):z.cps.toList.length=z.length:=by simp [Str.length]
theorem app_cps (x y:Str):(x++y).cps.toList=x.cps.toList++y.cps.toList:=by
 show (x.cps++y.cps).toList=_
 simp
theorem glued_cps {g:Str} (hg:g.cps = #[]):∀ss:List Str,(Txt.join g ss).cps.toList=(ss.map fun z=>z.cps.toList).flatten:=by
 have go:∀(l:List Str) (acc:Array Nat),(l.foldl (fun acc p=>acc++g.cps++p.cps) acc).toList=acc.toList++(l.map fun z=>z.cps.toList).flatten:=by
  intro l
  induction l with
  | nil=>intro acc;simp
  | cons z l ih=>intro acc;rw [List.foldl_cons,ih,hg];simp
 intro ss
 show ((ss.drop 1).foldl (fun acc p=>acc++g.cps++p.cps) (ss.headD Str.empty).cps).toList=_
 cases ss with
 | nil=>rfl
 | cons z l=>rw [go];simp
theorem joinOk_of {sep:Str} {ss:List Str} {L n:Nat} (h:∀z∈ss,z.length<=L) (hn:ss.length<=n) (hb:n * (L+sep.length)<=16000000):JoinOk sep ss=true:=by
 have go:∀(l:List Str) (a:Nat),(∀z∈l,z.length<=L)->l.foldl (fun a x=>a+x.length+sep.length) a<=a+l.length * (L+sep.length):=by
  intro l
  induction l with
  | nil=>intro a _;simp
  | cons z l ih=>
   intro a hz
   have h1:=ih (a+z.length+sep.length) (fun y hy=>hz y (List.mem_cons_of_mem _ hy))
   have h2:=hz z List.mem_cons_self
   rw [List.foldl_cons,List.length_cons,Nat.add_mul]
   lia
 unfold JoinOk
 have e:ss.toArray.foldl (fun a x=>a+x.length+sep.length) 0=ss.foldl (fun a x=>a+x.length+sep.length) 0:=by simp
 rw [e]
 have h1:=go ss 0 h
 have h2:ss.length * (L+sep.length)<=n * (L+sep.length):=Nat.mul_le_mul_right _ hn
 have:¬(ss.foldl (fun a x=>a+x.length+sep.length) 0 > sizeLine):=by rw [sizeLine_eq];lia
 unfold Builtin.Str.tooLong
 rw [decide_eq_false this];rfl
def Nm (s:Str):Prop:=1<=s.length/\s.length<=8/\∀c∈s.cps.toList,97<=c/\c<=122
theorem letters_at:∀n:Nat,n < 26->(Str.ofString "abcdefghijklmnopqrstuvwxyz").cps.toList[n]? = some (97+n):=by decide +kernel
theorem atI_letters {i:Int} (h0:0<=i) (h:i < 26):atI (Str.ofString "abcdefghijklmnopqrstuvwxyz").cps.toList i=some (97+i.toNat):=by
 have ei:i=((i.toNat:Nat):Int):=by lia
 have q:atI (Str.ofString "abcdefghijklmnopqrstuvwxyz").cps.toList ((i.toNat:Nat):Int)=some (97+i.toNat):=atI_nat (letters_at i.toNat (by lia))
 rwa [<-ei] at q
def lits:List Str:=["is","not","and","or","then","same","yes","no","say","fix","isa","nota","a"].map Str.ofString
theorem lits_nodup:lits.Nodup:=by decide +kernel
theorem lits_len:lits.length=13:=rfl
theorem lits_nm:∀s∈lits,Nm s:=by
 have:∀s∈lits,(decide (1<=s.length) && decide (s.length<=8) && s.cps.toList.all fun c=>decide (97<=c) && decide (c<=122))=true:=by decide +kernel
 intro s hs
 have h:=this s hs
 rw [Bool.and_eq_true,Bool.and_eq_true] at h
 refine ⟨of_decide_eq_true h.1.1,of_decide_eq_true h.1.2,fun c hc=>?_⟩
 have:=List.all_eq_true.mp h.2 c hc
 rw [Bool.and_eq_true] at this
 exact ⟨of_decide_eq_true this.1,of_decide_eq_true this.2⟩
theorem nodup_ix' {α:Type} {l:List α} (h:∀(i j:Nat) (x:α),i < j->l[i]? = some x->l[j]? = some x->False):l.Nodup:=by
 unfold List.Nodup
 rw [List.pairwise_iff_getElem]
 intro i j hi hj hij e
 exact h i j l[i] hij (List.getElem?_eq_getElem hi) (by rw [List.getElem?_eq_getElem hj,e])
theorem sortedS_pw:∀{l:List Str},sortedS l=true->l.Pairwise (fun a b=>a.cps.toList<=b.cps.toList)
 | [],_=>.nil
 | x::r,h=>by
  have go:∀(r:List Str) (x:Str),risingS x r=true->(x::r).Pairwise (fun a b=>a.cps.toList<=b.cps.toList):=by
   intro r
   induction r with
   | nil=>intro x _;exact .cons (fun _ h=>nomatch h) .nil
   | cons y r ih=>
    intro x h
    have h':(!ltCps y.cps.toList x.cps.toList && risingS y r)=true:=h
    rw [Bool.and_eq_true,ltCps_eq] at h'
    have p:=ih y h'.2
    have hxy:x.cps.toList<=y.cps.toList:=by
     have:¬(y.cps.toList < x.cps.toList):=by simpa using h'.1
     exact List.not_lt.mp this
    refine .cons (fun z hz=>?_) p
    rcases List.mem_cons.mp hz with e | hz
    ·rw [e];exact hxy
    ·exact List.le_trans hxy ((List.pairwise_cons.mp p).1 z hz)
  exact go r x h
theorem tyV_str (K:PySem.W.Frag) (z:Str) (H:Hp):tyV K "str" (.str z) H=True:=eq_true rfl
theorem all_flat (ss:List Str):(List.map V.str ss).all flatV=true:=by
 rw [List.all_eq_true];intro x hx;obtain ⟨z,_,rfl⟩:=List.mem_map.mp hx;rfl
theorem inV_strs (s:Str) (ss:List Str):inV (.str s) (List.map V.str ss)=decide (s∈ss):=by
 induction ss with
 | nil=>rfl
 | cons z ss ih=>
  show (eqV (.str z) (.str s) || inV (.str s) (List.map V.str ss))=_
  rw [ih]
  show ((z == s) || decide (s∈ss))=_
  by_cases e:s=z
  ·subst e;simp
  ·have:(z == s)=false:=by simpa using fun q:z=s=>e q.symm
   rw [this];simp [e]
theorem nodup_le {α:Type} [DecidableEq α]:∀{l r:List α},l.Nodup->(∀x∈l,x∈r)->l.length<=r.length
 | [],_,_,_=>Nat.zero_le _
 | x::l,r,hn,hs=>by
  have hx:=hs x List.mem_cons_self
  have hn':=List.nodup_cons.mp hn
  have:=nodup_le (l:=l) (r:=r.erase x) hn'.2 fun y hy=>(List.mem_erase_of_ne (fun e:y=x=>hn'.1 (by rw [<-e];exact hy))).mpr (hs y (List.mem_cons_of_mem _ hy))
  rw [List.length_erase_of_mem hx] at this
  have h0:0 < r.length:=List.length_pos_of_mem hx
  rw [List.length_cons];lia
theorem lit_left {ss:List Str} (h:ss.length < 13):∃s r,lits.filter (fun x=>decide (x∉ss))=s::r/\s∈lits/\s∉ss:=by
 cases e:lits.filter (fun x=>decide (x∉ss)) with
 | nil=>
  have:∀x∈lits,x∈ss:=fun x hx=>by
   have q:=List.filter_eq_nil_iff.mp e x hx
   simpa using q
  have:=nodup_le lits_nodup this
  rw [lits_len] at this;lia
 | cons s r=>
  have hm:s∈lits.filter (fun x=>decide (x∉ss)):=by rw [e];exact List.mem_cons_self
  have:=List.mem_filter.mp hm
  exact ⟨s,r,rfl,this.1,by simpa using this.2⟩
theorem nm_of {s:Str} {cs:List Nat} (e:s.cps.toList=cs) (h1:1<=cs.length) (h2:cs.length<=8) (h:∀c∈cs,97<=c/\c<=122):Nm s:=by
 have:=len_cps s
 rw [e] at this
 exact ⟨by lia,by lia,by rw [e];exact h⟩
end L2
end
section
namespace L2
open PySem PySem.Spec PyProof.Rows
section
variable {X:Cx}
def qSetS (w:World):List V->Hp->VK->Prop:=fun vs H Q=>∃a,vs=[.ref a]/\∃ss:List Str,H a=some (.lst (ss.map V.str))/\ss.length < 4000/\∀p,H p=none->Q (.ref p) (upd H p (TxS w p ss))
def qSortSet (w:World):List V->Hp->VK->Prop:=fun vs H Q=>∃a,vs=[.ref a]/\∃ss:List Str,H a=some (TxS w a ss)/\ss.length < 64/\
 ∀ss':List Str,(∀z,z∈ss'↔z∈ss)->ss'.Nodup->sortedS ss'=true->∀p,H p=none->Q (.ref p) (upd H p (.lst (ss'.map V.str)))
def qAllB:List V->Hp->VK->Prop:=fun vs H Q=>∃a,vs=[.ref a]/\∃bs:List Bool,H a=some (.lst (bs.map V.bl))/\Q (.bl (bs.all id)) H
theorem bools_at:∀{bs:List Bool} {us:List Value},Vals (bs.map V.bl) us->∀(i:Nat) (v:Value),us[i]? = some v->v=.bool (bs.getD i true):=by
 intro bs
 induction bs with
 | nil=>intro us r i v h;cases r;cases i <;> cases h
 | cons b bs ih=>
  intro us r i v h
  rw [List.map_cons] at r
  cases r with
  | cons r1 r2=>
   cases r1
   cases i with
   | zero=>cases h;rfl
   | succ i=>exact ih r2 i v (by simpa using h)
theorem all_range:∀(bs:List Bool),((List.range bs.length).all fun i=>bs.getD i true)=bs.all id
 | []=>rfl
 | b::bs=>by
  rw [List.length_cons,List.range_succ_eq_map,List.all_cons,List.all_map,List.all_cons,<-all_range bs]
  rfl
theorem call_allB (hh:X.A.handled=none):CallR X (.builtin "all") qAllB:=by
 intro pins s σ H vs us Q I rv h
 obtain ⟨a,rfl,bs,hq,q⟩:=h
 obtain ⟨u,rfl,ru⟩:=vals1 rv
 cases ru
 obtain ⟨its,r,pl,hz⟩:=I.list (sqL_of hq)
 have hl:=r.length
 rw [List.length_map] at hl
 have lt:a < s.heap.objs.size:=let ⟨_,e,_⟩:=pl.isList;Heap.lt_size e
 refine call_all_walkS (wpAny_pyIter_list pl.isList ⟨s.heap.objs.size,_,_,_,its.toArray.size,_,_,fun i=>bs.getD i true,rfl,(Walks.list (A:=X.A.in1) hh _ a (Nat.ne_of_lt lt) its.toArray).toS,⟨⟨_,Heap.get?_push_size _ rfl,rfl,rfl⟩,(pl.isList).push _⟩,?_,fun s' mv=>?_⟩)
 ·intro i v s1 Q1 E1 hv hq1
  have:v=.bool (bs.getD i true):=bools_at r i v (by simpa using hv)
  subst this
  exact wpAny_pure hq1
 ·rw [List.size_toArray,<-hl,all_range]
  have k:∀b o,s.heap.get? b=some o->s'.heap.get? b=some o:=fun b o e=>mv.heap b o (fun z=>absurd (Heap.lt_size e) (by rw [List.mem_singleton.mp z];exact Nat.lt_irrefl _)) (Heap.get?_push_of_some _ e)
  have I1:Inv X pins σ H { s with heap:=s'.heap,toks:=s.toks }:=I.un (Un.kept k) (I.hok.kept k)
  exact ⟨.bl (bs.all id),H,I1.same rfl mv.gens mv.os,rfl,q⟩
end
end L2
end
section
namespace L2
open PySem PySem.Spec PyProof.Rows
section
variable {P:Program} {w:World} {κ:Type} [DecidableEq κ] {knd:PySem.KeyKind P w κ} {A:Around} {E:Value->Shared->Prop} {s:Shared} {a b:Addr} {kvs kvs2:List (κ×Value)}
end
section
variable {X:Cx}
def qEqD (neg:Bool):R2:=fun x y H Q=>∃a b,x=.ref a/\y=.ref b/\∃kvs,H a=some (.dK kvs)/\H b=some (.dK kvs)/\(∀kv∈kvs,∃c,kv.2=.bl c)/\Q (.bl (!neg)) H
end
end L2
end
section
namespace L2
open PySem PySem.Spec PyProof.Rows
abbrev Cl:=List (Str×Bool)
def LitAt (H:Hp) (q:Addr) (x:Str×Bool):Prop:=H q=some (.tup [.str x.1,.bl x.2])
def Lits (H:Hp) (qs:List Addr) (cl:Cl):Prop:=qs.length=cl.length/\∀(i:Nat) q x,qs[i]? = some q->cl[i]? = some x->LitAt H q x
def ClAt (H:Hp) (cl:Cl) (p:Addr):Prop:=∃qs:List Addr,H p=some (.tup (List.map V.ref qs))/\Lits H qs cl
theorem Lits.nil {H:Hp}:Lits H [] []:=⟨rfl,fun i q x e=>by simp at e⟩
theorem Lits.mono {H H':Hp} {qs:List Addr} {cl:Cl} (h:Lits H qs cl) (k:∀q xs,H q=some (.tup xs)->H' q=some (.tup xs)):Lits H' qs cl:=⟨h.1,fun i q x e f=>k _ _ (h.2 i q x e f)⟩
theorem ClAt.mono {H H':Hp} {p:Addr} {cl:Cl} (h:ClAt H cl p) (k:∀q xs,H q=some (.tup xs)->H' q=some (.tup xs)):ClAt H' cl p:=let ⟨qs,e,l⟩:=h;⟨qs,k _ _ e,l.mono k⟩
theorem Lits.at {H:Hp} {qs:List Addr} {cl:Cl} {i:Nat} {q:Addr} (h:Lits H qs cl) (e:qs[i]? = some q):∃n b,cl[i]? = some (n,b)/\H q=some (.tup [.str n,.bl b]):=by
 have hi:i < cl.length:=by rw [<-h.1];exact (List.getElem?_eq_some_iff.mp e).1
 have ec:cl[i]? = some (cl[i].1,cl[i].2):=List.getElem?_eq_getElem hi
 exact ⟨_,_,ec,h.2 i q _ e ec⟩
theorem Lits.snoc {H:Hp} {qs:List Addr} {cl:Cl} {q:Addr} {x:Str×Bool} (h:Lits H qs cl) (e:LitAt H q x):Lits H (qs++[q]) (cl++[x]):=by
 refine ⟨by simp [h.1],fun i p y ep ey=>?_⟩
 by_cases hi:i < qs.length
 ·rw [List.getElem?_append_left hi] at ep
  rw [List.getElem?_append_left (by rw [<-h.1];exact hi)] at ey
  exact h.2 i p y ep ey
 ·have l:=(List.getElem?_eq_some_iff.mp ep).1
  rw [List.length_append,List.length_singleton] at l
  have hi':i=qs.length:=by lia
  rw [hi',List.getElem?_append_right (Nat.le_refl _),Nat.sub_self] at ep
  rw [hi',h.1,List.getElem?_append_right (Nat.le_refl _),Nat.sub_self] at ey
  cases ep
  cases ey
  exact e
section
variable {X:Cx} {pins:List (Addr×Obj)} {s:Shared} {σ:St} {H:Hp} {A:Around}
theorem all_lits {cl dl:Cl}:((List.range (min cl.length dl.length)).all (fun j=>decide (cl[j]? = dl[j]?)) && cl.length == dl.length)=decide (cl=dl):=by
 rw [Bool.eq_iff_iff,Bool.and_eq_true,List.all_eq_true,decide_eq_true_iff,beq_iff_eq]
 constructor
 ·rintro ⟨h,l⟩
  apply List.ext_getElem?
  intro i
  by_cases hi:i < cl.length
  ·exact of_decide_eq_true (h i (List.mem_range.mpr (by lia)))
  ·rw [List.getElem?_eq_none (by lia),List.getElem?_eq_none (by lia)]
 ·rintro rfl
  exact ⟨fun j _=>decide_eq_true rfl,rfl⟩
end
end L2
end
section
namespace L2
open PySem PySem.Spec PyProof.Rows
section
variable {P:Program} {w:World} {A:Around} {E:Value->Shared->Prop} {s:Shared}
end
section
variable {X:Cx}
end
end L2
end
section
namespace L2
open PySem PySem.Spec PyProof.Rows
def Its (x:Str):It:=⟨fun i _=>i < x.cps.size,fun i H v H'=>H'=H/\∃c,x.cps[i]? = some c/\v=.str ⟨#[c]⟩,fun i _=>i=x.cps.size⟩
theorem turn_str {P:Program} {w:World} {K:PySem.W.Frag} {tg:Expr} (it:Addr) (x:Str) (t:Tok) {n:String} (hn:n = "str_ascii_iterator"\/n = "str_iterator"):Turn P w K tg (Its x) [it] it (fun i h=>h.IsStrIter it n x t i) where
 mem:=by simp
 obj:=fun i h st b hb=>by
  have e:b=it:=by simpa using hb
  subst e
  obtain ⟨o,e,c,d⟩:=st
  exact ⟨o,e,fun v z=>by rw [d] at z;cases z⟩
 keep:=fun i h h' st k=>let ⟨o,ho,r⟩:=st;⟨o,k it (by simp) o ho,r⟩
 item:=by
  intro X hP hw hK hc i pins s σ H E I hf st hg
  subst hP hw hK
  obtain ⟨f0,f1,f2,f3,f4,f5⟩:=hf it (by simp)
  have W:Walks X.prog X.w X.A it [it] [it] x.cps.size (SignAt x) (fun i h=>h.IsStrIter it n x t i):=by
   rcases hn with rfl | rfl
   ·exact Walks.strAscii (I.ok.hd hc) it x t
   ·exact Walks.strWide (I.ok.hd hc) it x t
  refine W.item i s _ _ hg st fun v h' tk hv st' kk=>?_
  obtain ⟨c,u,hx,rfl⟩:=hv
  have I1:Inv X pins σ H { s with heap:=h',toks:=tk }:=I.turned (fun b o hb e=>kk b o (by simpa using hb) e) f0 f1 f3 f4 f5
  obtain ⟨o,e,cc,d⟩:=id st'
  exact ⟨_,rfl,go_of (s:={ s with heap:=h',toks:=tk }) e cc d (by rcases hn with rfl | rfl <;> decide) ⟨.str ⟨#[c]⟩,H,I1,⟨u,rfl⟩,⟨rfl,c,hx,rfl⟩,st',fun b hb=>(hf b hb).1⟩⟩
 done:=by
  intro X hP hw hK hc i pins s σ H E I hf st hg
  subst hP hw hK
  have hg':i=x.cps.size:=hg
  subst hg'
  obtain ⟨f0,f1,f2,f3,f4,f5⟩:=hf it (by simp)
  have W:Walks X.prog X.w X.A it [it] [it] x.cps.size (SignAt x) (fun i h=>h.IsStrIter it n x t i):=by
   rcases hn with rfl | rfl
   ·exact Walks.strAscii (I.ok.hd hc) it x t
   ·exact Walks.strWide (I.ok.hd hc) it x t
  exact W.done s _ _ st fun h' tk eb=>⟨rfl,I.turned (fun b o hb e=>eb b o (by simpa using hb) e) f0 f1 f3 f4 f5⟩
 self:=fun A i s Q E st h=>by
  rcases hn with rfl | rfl
  ·exact wpAny_pyIter_striter_ascii st h
  ·exact wpAny_pyIter_striter_wide st h
section
variable {X:Cx} {tg:Expr}
def iStr (tl:TE):TI:=fun σ H R=>tl σ H fun x H1=>∃z,x=.str z/\R (Its z) H1
theorem pi_str {l:Expr} {tl:TE} (hl:PE X l tl):PI X tg l (iStr tl):=by
 intro pins s σ H R I h
 refine thn (hl pins s σ H _ I h) fun v s1 ⟨x,H1,I1,r1,q1⟩=>?_
 obtain ⟨z,e,q⟩:=q1
 subst e
 obtain ⟨t,rfl⟩:=r1
 have fin:∀n,(n = "str_ascii_iterator"\/n = "str_iterator")->PIE X pins σ tg R (.ref s1.heap.objs.size) { s1 with heap:=s1.heap.push { cls:=.type n,data:=.fields #[.str z t,.int 0 0] } }:=fun n hn=>by
  refine ⟨s1.heap.objs.size,[s1.heap.objs.size],_,_,H1,rfl,I1.kept (t':=s1.toks) fun b o e=>Heap.get?_push_of_some _ e,turn_str _ z t hn,⟨_,Heap.get?_push_size _ rfl,rfl,rfl⟩,fun b hb=>?_,q⟩
  have e:b=s1.heap.objs.size:=by simpa using hb
  subst e
  exact I1.fpOk (Nat.le_refl _) (I1.hok.fresh (Nat.le_refl _))
 cases ha:z.cps.all (· < 128)
 ·exact wpAny_pyIter_wide ha (fin _ (.inr rfl))
 ·exact wpAny_pyIter_ascii ha (fin _ (.inl rfl))
theorem zpi_str {l:Expr} {tl:TE} (h1:ZE X l tl):ZI X tg l (iStr tl):=⟨pi_str h1.to⟩
end
theorem compAll_str {x:Str} {idx:List Nat} {tt:CB->TT} {te:CB->TE} {σ:St} {Q:VK} {H1:Hp} (Pv:Addr->Nat->List V->Hp->Prop) (h0:∀D,H1 D=none->Pv D 0 [] (upd H1 D (.lst [])))
  (hs:∀D,H1 D=none->∀i c0 ys H,x.cps[i]? = some c0->Pv D i ys H->∀(c:CB),tt c (some (.str ⟨#[c0]⟩)::subS σ idx) H fun b H4=>if b=true then te c (some (.str ⟨#[c0]⟩)::subS σ idx) H4 fun y H5=>H5 D=some (.lst ys)/\ys.length < sizeLine/\Pv D (i+1) (ys++[y]) (upd H5 D (.lst (ys++[y]))) else Pv D (i+1) ys H4)
  (hd:∀D,H1 D=none->∀ys H,Pv D x.cps.size ys H->Q (.ref D) H):CompAll (Its x) 1 idx (fun _=>gName 0) tt te σ Q H1:=by
 intro D hD
 refine ⟨fun i m ys H=>m=x.cps.size - i/\i<=x.cps.size/\Pv D i ys H,⟨x.cps.size,by simp,Nat.zero_le _,h0 D hD⟩,?_⟩
 rintro i m ys H ⟨rfl,hi,p⟩
 by_cases hlt:i < x.cps.size
 ·refine .inr ⟨hlt,Pv D (i+1),fun ys' H' p'=>⟨x.cps.size - (i+1),by omega,rfl,hlt,p'⟩,fun c own ho y H' yl=>?_⟩
  obtain ⟨e,c0,ec,ey⟩:=yl
  subst e ey
  show (∃own',own'.length=1/\(own++subS σ idx).set 0 _=own'++subS σ idx)/\tt c ((own++subS σ idx).set 0 _) H' _
  rw [own1 ho]
  exact ⟨⟨[_],rfl,rfl⟩,hs D hD i c0 ys H' ec p c⟩
 ·have e:i=x.cps.size:=by omega
  subst e
  exact .inl ⟨rfl,hd D hD ys H p⟩
section
variable {X:Cx}
theorem zpe_glob {x:Str} {v:V} {u:Value} {pos:Pos} (hg:Gl X x) (hm:X.mg x=some u) (r:RelV v u) (hd:(x == ("__debug__" : Str))=false:=by decide):ZE X (.Name x pos) (tC v):=⟨pe_glob hg hm r hd⟩
end
end L2
end
section
namespace L2
open PySem PySem.Spec PyProof.Rows
theorem compAll_tup {K:PySem.W.Frag} {a:Addr} {zs:List V} {idx:List Nat} {tt:CB->TT} {te:CB->TE} {σ:St} {Q:VK} {H1:Hp} (Pv:Addr->Nat->List V->Hp->Prop) (h0:∀D,H1 D=none->Pv D 0 [] (upd H1 D (.lst [])))
  (hl:∀D,H1 D=none->∀i ys H,i<=zs.length->Pv D i ys H->H a=some (.tup zs))
  (hs:∀D,H1 D=none->∀i x ys H,zs[i]? = some x->Pv D i ys H->∀(c:CB),tt c (some x::subS σ idx) H fun b H4=>if b=true then te c (some x::subS σ idx) H4 fun y H5=>H5 D=some (.lst ys)/\ys.length < sizeLine/\Pv D (i+1) (ys++[y]) (upd H5 D (.lst (ys++[y]))) else Pv D (i+1) ys H4)
  (hd:∀D,H1 D=none->∀ys H,Pv D zs.length ys H->Q (.ref D) H):CompAll (Itt K a) 1 idx (fun _=>gName 0) tt te σ Q H1:=by
 intro D hD
 refine ⟨fun i m ys H=>m=zs.length - i/\i<=zs.length/\Pv D i ys H,⟨zs.length,by simp,Nat.zero_le _,h0 D hD⟩,?_⟩
 rintro i m ys H ⟨rfl,hi,p⟩
 by_cases hlt:i < zs.length
 ·refine .inr ⟨⟨zs,zs[i],sqT_of (hl D hD i ys H hi p),List.getElem?_eq_getElem hlt⟩,Pv D (i+1),fun ys' H' p'=>⟨zs.length - (i+1),by omega,rfl,hlt,p'⟩,fun c own ho y H' yl=>?_⟩
  obtain ⟨e,hy⟩:=yl
  subst e
  have ey:=hy zs (sqT_of (hl D hD i ys H' hi p))
  show (∃own',own'.length=1/\(own++subS σ idx).set 0 _=own'++subS σ idx)/\tt c ((own++subS σ idx).set 0 _) H' _
  rw [own1 ho]
  exact ⟨⟨[_],rfl,rfl⟩,hs D hD i y ys H' ey p c⟩
 ·have e:i=zs.length:=by omega
  subst e
  exact .inl ⟨⟨zs,sqT_of (hl D hD _ ys H hi p),Nat.le_refl _⟩,hd D hD ys H p⟩
section
variable {X:Cx}
def qLeS:R2:=fun x y H Q=>∃i,x=.str i/\∃j,y=.str j/\Q (.bl (!decide (j.cps.toList < i.cps.toList))) H
theorem op_le_str:OpR X (compareOp .LtE) qLeS:=by
 intro pins s σ H x y v u Q I rx ry h
 obtain ⟨i,rfl,j,rfl,q⟩:=h
 obtain ⟨t,rfl⟩:=rx
 obtain ⟨t',rfl⟩:=ry
 exact PySem.P.le_str (fin_bl I q rfl)
end
end L2
end
section
namespace L2
open PySem PySem.Spec PyProof.Rows
section
variable {X:Cx}
end
end L2
end
section
namespace L2
open PySem PySem.Spec PyProof.Rows
section
variable {X:Cx}
theorem cat_tup0 {prog:Program} {w:World} {A:Around} {E:Value->Shared->Prop} {s:Shared} {t b:Addr} {ws:List Value} {Q:Value->Shared->Prop} (ht:IsTup s.heap t (([]:List Value)).toArray) (hb:IsTup s.heap b ws.toArray)
  (h1:Q (.ref b) s):wpAny (model prog w) A (binaryOp .Add (.ref t) (.ref b)) Q E s:=by
 obtain ⟨⟨cls,dd,data,sl⟩,ho,hc,n,hd⟩:=id ht
 obtain ⟨⟨cls2,dd2,data2,sl2⟩,ho2,hc2,n2,hd2⟩:=id hb
 simp only at hc hd hc2 hd2
 subst hc hd hc2 hd2
 exact concat_meets ⟨_,ho,rfl⟩ ⟨_,ho2,rfl⟩ noFill_tuple_add seq_tuple_add PySem.F.slot_tuple_add PySem.F.entry_tuple_add (PySem.F.args_tuple_add_2 _ _)
   (tuple_addW0 t b _ ws.toArray n n2 dd dd2 sl sl2 rfl) ⟨ho,ho2,h1⟩
def qCatT:R2:=fun x y H Q=>∃a b,x=.ref a/\y=.ref b/\∃xs,H a=some (.tup xs)/\∃ys,H b=some (.tup ys)/\xs.length+ys.length<=sizeLine/\
 ∀p H',Same H H'->(∀c,c≠p->H' c=H c)->H' p=some (.tup (xs++ys))->Q (.ref p) H'
theorem op_catTQ:OpR X (binaryOp .Add) qCatT:=by
 intro pins s σ H x y v u Q I rx ry h
 obtain ⟨a,b,rfl,rfl,xs,ha,ys,hb,hz,q⟩:=h
 by_cases hx:xs=[]
 ·subst hx
  cases rx;cases ry
  obtain ⟨its,r1,p1,_⟩:=I.tuple (sqT_of ha)
  obtain ⟨its2,r2,p2,_⟩:=I.tuple (sqT_of hb)
  cases r1
  exact cat_tup0 p1 p2 ⟨.ref b,H,I,rfl,q b H (Same.refl H) (fun _ _=>rfl) hb⟩
 ·exact op_catT pins s σ H _ _ v u Q I rx ry ⟨a,b,xs,ys,rfl,rfl,sqT_of ha,sqT_of hb,hx,hz,fun e=>q a H (Same.refl H) (fun _ _=>rfl) (by rw [e,List.append_nil];exact ha),fun _ p hp=>q p _ (fun b u e=>by rw [upd_ne (ne_of_none e hp)];exact e) (fun c hc=>upd_ne hc) upd_same⟩
end
end L2
end
section
namespace L2
open PySem PySem.Spec PyProof.Rows
section
variable {X:Cx}
def Itst (lo st:Int) (n:Nat):It:=⟨fun i _=>i < n,fun i H x H'=>H'=H/\x=.int (lo+i * st),fun i _=>n<=i⟩
def iRng3 (ta:TA):TI:=fun σ H R=>ta σ H fun vs H1=>∃i j:Int,vs=[.int i,.int j,.int 2]/\(0<=i/\i<=1000/\-1<=j/\j<=1000)/\R (Itst i 2 ((j - i+1) / 2).toNat) H1
end
end L2
end
section
namespace L2
open PySem PySem.Spec PyProof.Rows Builtin Builtin.Str
section
variable {X:Cx}
end
end L2
end
section
namespace L2
open PySem PySem.W PyProof.Rows
abbrev at0 (p:Array Nat) (i:Nat):Nat:=p.getD i 0
section
variable {b:Nat->Nat->Bool} {n:Nat}
end
end L2
end
section
namespace L2
open PySem PySem.W PyProof.Rows
end L2
end
section
namespace L2
open PySem PySem.W PyProof.Rows
section
variable {prog:Program} {w:World} {A:Around} {E:Value->Shared->Prop} {s:Shared} {κ:SortKind} {r:Keyed->Int} {U:Keyed->Prop}
end
end L2
end
section
namespace L2
open PySem PySem.W PyProof.Rows
section
variable {r:Keyed->Int} {tot o ra rb p:List Keyed}
end
section
variable {r:Keyed->Int} {a b o:Array Keyed} {x y k:Nat}
end
section
variable {prog:Program} {w:World} {A:Around} {E:Value->Shared->Prop} {s:Shared} {κ:SortKind} {r:Keyed->Int} {U:Keyed->Prop}
end
end L2
end
section
namespace L2
open PySem PySem.W PyProof.Rows
section
variable {r:Keyed->Int} {tot o ra rb p:List Keyed}
end
section
variable {r:Keyed->Int} {a b o:Array Keyed} {x y e:Nat}
theorem take_one (a:Array Keyed) {x:Nat} (h:x < a.size):a.toList.take (x+1)=a.toList.take x++[a[x]]:=by
 rw [List.take_add_one,List.getElem?_eq_getElem (by simpa using h)];simp
end
section
variable {prog:Program} {w:World} {A:Around} {E:Value->Shared->Prop} {s:Shared} {κ:SortKind} {r:Keyed->Int} {U:Keyed->Prop}
end
end L2
end
section
namespace L2
open PySem PySem.W PyProof.Rows
section
variable {prog:Program} {w:World} {A:Around} {E:Value->Shared->Prop} {s:Shared} {κ:SortKind} {r:Keyed->Int} {a₀:Array Keyed}
end
end L2
end
section
namespace L2
open PySem PySem.W PyProof.Rows
section
variable {prog:Program} {w:World} {A:Around} {E:Value->Shared->Prop} {s:Shared} {κ:SortKind} {r:Keyed->Int} {a₀:Array Keyed}
end
end L2
end
section
namespace L2
open PySem PySem.W PyProof.Rows
section
variable {r:Keyed->Int} {xs ys:Array Keyed}
end
section
variable {prog:Program} {w:World} {A:Around} {E:Value->Shared->Prop} {s:Shared} {κ:SortKind} {r:Keyed->Int} {a₀:Array Keyed}
end
end L2
end
section
namespace L2
open PySem PySem.W PyProof.Rows
section
variable {prog:Program} {w:World} {A:Around} {E:Value->Shared->Prop} {s:Shared} {κ:SortKind} {r:Keyed->Int} {a₀:Array Keyed}
end
end L2
end
section
namespace L2
open PySem PySem.W PyProof.Rows
section
variable {prog:Program} {w:World} {A:Around} {E:Value->Shared->Prop} {s:Shared} {κ:SortKind}
end
end L2
end
section
namespace L2
open PySem PySem.Spec PySem.W PyProof.Rows Builtin
section
variable {P:Program} {w:World} {A:Around} {E:Value->Shared->Prop} {s:Shared}
end
end L2
end
section
namespace L2
open PySem PySem.Spec PySem.W PyProof.Rows Builtin
section
variable {P:Program} {w:World} {H H1:Hp} {h h1 h2:Heap} {e a:Addr} {o:HO} {fs:List Addr}
end
section
variable {X:Cx} {pins:List (Addr×Obj)} {σ:St} {H:Hp} {s:Shared}
end
end L2
end
section
namespace L2
open PySem PySem.Spec PySem.W PyProof.Rows Builtin
section
variable {P:Program} {w:World} {H':Hp} {h:Heap} {p a:Addr}
end
section
variable {X:Cx} {pins:List (Addr×Obj)} {σ:St} {H:Hp} {s:Shared}
end
end L2
end
section
namespace L2
open PySem PySem.Spec PySem.W PyProof.Rows Builtin
section
variable {X:Cx} {pins:List (Addr×Obj)} {σ:St} {H:Hp} {s:Shared}
end
end L2
end
section
namespace L2
open PySem PySem.Spec PySem.W PyProof.Rows Builtin
section
variable {P:Program} {w:World} {A:Around} {E:Value->Shared->Prop} {s:Shared} {d it:Addr} {es:Array DictEntry} {ep i:Nat}
end
end L2
end
section
namespace L2
open PySem PySem.Spec PySem.W PyProof.Rows Builtin
section
variable {X:Cx} {k:Nat} {f:Addr} {fd:FuncData} {pm g:Str} {e:Expr} {te:TE} {p kp kpos pos:Pos}
end
end L2
end
section
namespace L2
open PySem PySem.Spec PySem.W PyProof.Rows Builtin
section
variable {X:Cx}
def qAnyB:List V->Hp->VK->Prop:=fun vs H Q=>∃a,vs=[.ref a]/\∃bs:List Bool,H a=some (.lst (bs.map V.bl))/\Q (.bl (bs.any id)) H
variable {k:Nat} {f:Addr} {fd:FuncData} {pm g:Str} {e:Expr} {te:TE} {p kp kpos pos:Pos}
def rInsert:V->List V->Hp->VK->Prop:=fun x vs H Q=>∃l i y,x=.ref l/\vs=[.int i,y]/\∃xs,H l=some (.lst xs)/\0<=i/\i<=xs.length/\xs.length < 100000/\Q .non (upd H l (.lst (xs.take i.toNat++y::xs.drop i.toNat)))
end
end L2
namespace L2
open PySem PySem.Spec PySem.W PyProof.Rows Builtin
end L2
end
section
namespace L2
open PySem PySem.Spec PyProof.Rows
section
variable {X:Cx} {tg:Expr}
end
end L2
end
section
namespace L2
open PySem PySem.Spec PyProof.Rows
section
variable {X:Cx} {pins:List (Addr×Obj)} {s:Shared} {σ:St} {H:Hp} {A:Around}
end
end L2
end
section
namespace L2
open PySem PySem.Spec PyProof.Rows
section
variable {X:Cx} {pins:List (Addr×Obj)} {σ:St} {H:Hp} {s:Shared}
end
section
variable {X:Cx} {elt target iter:Expr} {ifs:List Expr} {scope:Scope} {pos:Pos} {cs xs:List Str} {idx:List Nat} {wi:TI} {g:CB->TG} {tt:CB->TT} {te:CB->TE}
end
section
variable {X:Cx} {N:List Str} {osc:Scope} {elt target iter:Expr} {ifs:List Expr} {scope:Scope} {pos:Pos} {wi:TI} {g:CB->TG} {tt:CB->TT} {te:CB->TE}
end
end L2
end
section
namespace L2
open PySem PySem.Spec PyProof.Rows
section
variable {prog:Program} {w:World} {A:Around} {E:Value->Shared->Prop} {s:Shared}
end
section
variable {X:Cx}
end
end L2
end
section
namespace L2
open PySem PySem.Spec PyProof.Rows
end L2
end
section
namespace L2
open PySem PySem.Spec PyProof.Rows
section
variable {P:Program} {w:World} {A:Around} {E:Value->Shared->Prop} {s:Shared} {a:Addr} {l:List (Int×Tok)}
end
section
variable {P:Program} {w:World} {A:Around} {R:Result->Shared->Prop} {I:Addr} {fp wr:List Addr} {G:Array GenState->Array GenState->Prop} {n:Nat} {Pv:Nat->Value->Prop} {St:Nat->Shared->Prop}
end
section
variable {P:Program} {w:World} {A:Around} {E:Value->Shared->Prop} {s:Shared}
end
section
variable {P:Program} {w:World} {A:Around} {E:Value->Shared->Prop} {s:Shared} {a:Addr} {l:List (Int×Tok)}
end
section
variable {P:Program} {w:World} {A:Around} {E:Value->Shared->Prop} {s:Shared} {a:Addr} {es:Array (Int×Value)} {t:SetTable} {ep slot i:Nat}
end
section
variable {P:Program} {w:World} {A:Around} {E:Value->Shared->Prop} {s:Shared} {a:Addr} {l:List (Int×Tok)}
end
section
variable {P:Program} {w:World} {A:Around} {E:Value->Shared->Prop} {s:Shared} {a:Addr} {l:List (Int×Tok)}
end
section
variable {X:Cx}
end
end L2
end
section
namespace L2
open PySem PySem.Spec PyProof.Rows
section
variable {X:Cx}
end
end L2
end
section
namespace HT
open PySem PyProof.Rows L2
section
variable {prog:Program} {w:World} {A:Around} {E:Value->Shared->Prop} {s:Shared}
end
end HT
namespace L2
open PySem PySem.Spec PyProof.Rows
section
variable {X:Cx}
end
end L2
end
section
namespace L2
open PySem PySem.Spec PyProof.Rows
section
variable {X:Cx} {pins:List (Addr×Obj)} {s:Shared} {σ:St} {H:Hp}
end
end L2
end
section
namespace L2
open PySem PySem.Spec PyProof.Rows
end L2
end
section
namespace L2
open PySem
theorem kit_same (K:PySem.W.Frag) (T:String):PySem.W.kitOne K (.type T) (.type T)=some true:=by
 unfold PySem.W.kitOne
 rw [if_pos (by simp)]
theorem kit_no {K:PySem.W.Frag} {A B:String} (h:(Value.type A == Value.type B)=false) (e:PySem.W.kitCls K (.type A) (.type B)=some false):PySem.W.kitOne K (.type A) (.type B)=some false:=by
 unfold PySem.W.kitOne
 rw [if_neg (by rw [h];exact Bool.false_ne_true)]
 exact e
end L2
end
section
namespace L2
open PySem PySem.Spec PyProof.Rows
section
variable {P:Program} {w:World} {A:Around} {E:Value->Shared->Prop} {s:Shared}
end
section
variable {X:Cx}
end
end L2
end
section
namespace L2
open PySem PySem.Spec PyProof.Rows
section
variable {P:Program} {w:World} {κ:Type} [DecidableEq κ] {knd:PySem.KeyKind P w κ} {A:Around} {E:Value->Shared->Prop} {s:Shared} {a b:Addr} {kvs kvs2:List (κ×Value)}
end
section
variable {X:Cx}
end
end L2
end
section
namespace L2
open PySem PySem.Spec PyProof.Rows
section
variable {X:Cx} {pins:List (Addr×Obj)} {σ:St} {H:Hp} {s:Shared} {d:Addr} {o:Obj} {kvs:List (Key×V)}
end
section
variable {X:Cx} {tg:Expr}
end
end L2
end
section
namespace L2
open PySem PySem.Spec PyProof.Rows
section
variable {X:Cx}
end
section
variable {X:Cx} {N:List Str} {sc:Scope} {pos:Pos}
end
section
variable {X:Cx}
end
end L2
end
section
namespace L2
structure Nx (P R:St->Hp->Prop):Prop where
 to:∀σ H,P σ H->R σ H
theorem seq_op {t u:TS} {D:Ends} {σ:St} {H:Hp} (h:∀R:St->Hp->Prop,Nx (u D) R->t { D with nx:=R } σ H):tSeq t u D σ H:=h (u D) ⟨fun _ _ z=>z⟩
end L2
end
section
namespace L2
open PySem PySem.Spec PySem.W PyProof.Rows Builtin
section
variable {prog:Program} {w:World} {A:Around} {E:Value->Shared->Prop} {s:Shared}
end
section
variable {X:Cx} {pins:List (Addr×Obj)} {s:Shared} {σ:St} {H:Hp} {A:Around}
theorem pair_obj {P:Program} {w:World} {h:Heap} {p:Addr} {x:Str×Bool} (hok:HOk P w H h) (e:LitAt H p x):∃t,IsTup h p #[.str x.1 t,.bool x.2]:=by
 obtain ⟨_,its,r,ht⟩:=hok p _ e
 cases r with
 | cons r1 r2=>
  obtain ⟨t,rfl⟩:=r1
  cases r2 with
  | cons r3 r4=>
   cases r4
   cases r3
   exact ⟨t,ht⟩
theorem refs_vals:∀{l:List Addr} {us:List Value},Vals (List.map V.ref l) us->us=l.map Value.ref
 | [],_,.nil=>rfl
 | a::l,_,.cons r1 r2=>by rw [refs_vals r2,r1];rfl
def qInP (neg:Bool):R2:=fun x y H Q=>∃a L,x=.ref a/\y=.ref L/\∃u bs ts,LitAt H a u/\(H L=some (.tup (List.map V.ref bs))\/H L=some (.lst (List.map V.ref bs)))/\Lits H bs ts/\Q (.bl (if neg then !decide (u∈ts) else decide (u∈ts))) H
end
end L2
end
section
namespace L2
open PySem PySem.Spec PySem.W PyProof.Rows Builtin
section
variable {prog:Program} {w:World} {A:Around} {E:Value->Shared->Prop} {s:Shared}
theorem pyHash_bool {b:Bool} {Q:Int->Shared->Prop} (h:Q (hashInt (if b then 1 else 0)) { s with toks:=s.toks+1 }):wpAny (model prog w) A (pyHash (.bool b)) Q E s:=by
 have hr:=rawHash_range (if b then 1 else 0)
 have hT:s.TypeIs (.bool b) "bool":=rfl
 unfold pyHash
 have hv:[Value.bool b].any Value.onHeap=false:=rfl
 refine wpAny_bind ?_
 rw [cRoomFor,if_neg (by rw [hv];exact Bool.false_ne_true)]
 refine wpAny_pure ?_
 refine wpAny_bind (wpAny_specialOf hT F.slot_bool_hash.lookup ?_)
 show wpAny _ _ (if (some (Value.builtin "int.__hash__") == some Value.none)=true then _ else _) Q E s
 rw [if_neg (by rw [beq_builtin_none];exact Bool.false_ne_true)]
 refine wpAny_bind (wpAny_specialOf hT F.slot_bool_hash.lookup ?_)
 show wpAny _ _ (callSpecialIfBoundUnlessNone? (.bool b) "__hash__" _ >>= _) Q E s
 refine wpAny_bind (wpAny_callSpecialIfBoundUnlessNone?_slot hT F.slot_bool_hash
  (wpAny_call_entry F.slot_bool_hash hT F.entry_int_hash
   (show wpAny _ _ (do ret (<-mkInt (rawHash (if b then 1 else 0)))) _ _ s from wpAny_ret_mkInt ?_) (F.args_int_hash_1 _)))
 show wpAny _ _ (if (decide (-(2:Int) ^ 63<=rawHash (if b then 1 else 0)) && decide (rawHash (if b then 1 else 0) < 2 ^ 63))=true then _ else _) Q E _
 rw [if_pos (by rw [decide_eq_true hr.1,decide_eq_true hr.2];rfl)]
 exact wpAny_pure h
end
def isSB:Str ⊕ Bool->Value->Bool
 | .inl x,v=>Value.isStrOf x v
 | .inr b,.bool c=>c == b
 | .inr _,_=>false
def sbV:Str ⊕ Bool->V
 | .inl x=>.str x
 | .inr b=>.bl b
theorem isSB_rel {k:Str ⊕ Bool} {v:Value} (h:isSB k v=true):RelV (sbV k) v:=by
 cases k with
 | inl x=>obtain ⟨t,rfl⟩:=Value.isStrOf_shape h;exact ⟨t,rfl⟩
 | inr b=>cases v with
  | bool c=>have:c=b:=eq_of_beq h;rw [this];rfl
  | _=>exact Bool.noConfusion h
theorem sb_flat (k:Str ⊕ Bool):flatV (sbV k)=true:=by cases k <;> rfl
theorem sb_eq (j k:Str ⊕ Bool):eqV (sbV j) (sbV k)=decide (j=k):=by
 rw [Bool.eq_iff_iff,decide_eq_true_eq]
 cases j <;> cases k <;> simp [sbV,eqV]
def sbHash (w:World):Str ⊕ Bool->Int
 | .inl x=>hashStr w x
 | .inr b=>hashInt (if b then 1 else 0)
def sbKind (prog:Program) (w:World):KeyKind prog w (Str ⊕ Bool) where
 is:=isSB
 hash:=sbHash w
 inj:=fun v j k h1 h2=>by
  have r1:=isSB_rel h1
  have r2:=isSB_rel h2
  cases j with
  | inl x=>
   obtain ⟨t,rfl⟩:=r1
   cases k with
   | inl y=>obtain ⟨u,e⟩:=r2;injection e with e;rw [e]
   | inr b=>cases r2
  | inr b=>
   cases k with
   | inl y=>obtain ⟨u,e⟩:=r2;rw [e] at r1;cases r1
   | inr c=>have e:Value.bool b=Value.bool c:=(show v=Value.bool b from r1).symm.trans r2;injection e with e;rw [e]
 byValue:=fun k v h=>by
  have r:=isSB_rel h
  cases k with
  | inl x=>obtain ⟨t,rfl⟩:=r;rfl
  | inr b=>cases r;rfl
 pyHash:=fun {A E s k v Q} h hq=>by
  have r:=isSB_rel h
  cases k with
  | inl x=>obtain ⟨t,rfl⟩:=r;exact wpAny_pyHash_str hq
  | inr b=>cases r;exact pyHash_bool hq
 eqBool:=fun {A E s a b u v Q} h1 h2 hq=>eqAt_V (isSB_rel h1) (isSB_rel h2) (sb_flat a) (sb_flat b) prog w E Q (by rw [sb_eq];exact hq)
 «strs»:=fun k x t v h=>by
  cases k with
  | inl y=>
   have h':Value.isStrOf y (.str x t)=true:=h
   obtain ⟨u,e⟩:=Value.isStrOf_shape h'
   injection e with e
   subst e
   cases v <;> rfl
  | inr b=>exact Bool.noConfusion h
def sbOf (x:Str×Bool):List (Str ⊕ Bool):=[.inl x.1,.inr x.2]
theorem sbOf_inj {x y:Str×Bool} (h:sbOf x=sbOf y):x=y:=by
 simp only [sbOf,List.cons.injEq,Sum.inl.injEq,Sum.inr.injEq,and_true] at h
 exact Prod.ext h.1 h.2
section
variable {prog:Program} {w:World} {A:Around} {E:Value->Shared->Prop} {s:Shared} {h h':Heap}
theorem pair_key {q:Addr} {x:Str×Bool} {t:Tok} (hq:IsTup h q #[.str x.1 t,.bool x.2]):IsTupleKey (sbKind prog w) h (sbOf x) q:=by
 obtain ⟨o,e,c,n,d⟩:=hq
 exact ⟨o,_,n,e,c,d,.cons (show (x.1 == x.1)=true by simp) (.cons (show (x.2 == x.2)=true by simp) .nil)⟩
inductive PairsH (h:Heap):List Addr->Cl->Prop
 | nil:PairsH h [] []
 | cons {q:Addr} {x:Str×Bool} {t:Tok} {qs:List Addr} {cl:Cl}:IsTup h q #[.str x.1 t,.bool x.2]->PairsH h qs cl->PairsH h (q::qs) (x::cl)
def ClH (h:Heap) (cl:Cl) (a:Addr):Prop:=∃qs:List Addr,IsTup h a (qs.map Value.ref).toArray/\PairsH h qs cl
theorem IsTup.items {p:Addr} {xs ys:Array Value} (a:IsTup h p xs) (b:IsTup h p ys):xs=ys:=by
 obtain ⟨o,e,c,n,d⟩:=a
 obtain ⟨o',e',c',n',d'⟩:=b
 rw [e] at e'
 cases e'
 rw [d] at d'
 injection d'
theorem PairsH.inj:∀{qs:List Addr} {x y:Cl},PairsH h qs x->PairsH h qs y->x=y
 | _,_,_,.nil,.nil=>rfl
 | _,_,_,.cons h1 r1,.cons h2 r2=>by
  have e:=IsTup.items h1 h2
  simp only [Array.mk.injEq,List.cons.injEq,Value.str.injEq,Value.bool.injEq,and_true] at e
  rw [r1.inj r2,Prod.ext e.1.1 e.2]
theorem refs_inj:∀{qs ps:List Addr},qs.map Value.ref=ps.map Value.ref->qs=ps
 | [],[],_=>rfl
 | [],_::_,e=>by simp at e
 | _::_,[],e=>by simp at e
 | a::l,b::m,e=>by
  simp only [List.map_cons,List.cons.injEq,Value.ref.injEq] at e
  rw [e.1,refs_inj e.2]
theorem ClH.inj {x y:Cl} {a:Addr} (hx:ClH h x a) (hy:ClH h y a):x=y:=by
 obtain ⟨qs,t1,p1⟩:=hx
 obtain ⟨ps,t2,p2⟩:=hy
 have e:=IsTup.items t1 t2
 have e':qs.map Value.ref=ps.map Value.ref:=congrArg Array.toList e
 have:=refs_inj e'
 subst this
 exact p1.inj p2
theorem tup_keeps {a d:Addr} {o:Obj} {es ep} {xs:Array Value} (x:IsTup h a xs) (ho:h.get? d=some o) (hd:o.data=.dict es ep) (hs:Heap.SameBut d h h'):IsTup h' a xs:=by
 obtain ⟨o',e,c,n,dd⟩:=x
 have hne:a≠d:=by
  rintro rfl
  rw [ho] at e
  cases e
  rw [hd] at dd
  cases dd
 exact ⟨o',(hs.2 a hne).trans e,c,n,dd⟩
theorem PairsH.imp (k:∀{a xs},IsTup h a xs->IsTup h' a xs):∀{qs:List Addr} {cl:Cl},PairsH h qs cl->PairsH h' qs cl
 | _,_,.nil=>.nil
 | _,_,.cons h1 r1=>.cons (k h1) (r1.imp k)
def pairHash (prog:Program) (w:World) (x:Str×Bool):Int:=tupleKeyHash (sbKind prog w) (sbOf x)
def clHash (prog:Program) (w:World) (cl:Cl):Int:=reduceHash (Builtin.Tuple.tupleHashOf (cl.map (pairHash prog w)))
theorem PairsH.length:∀{qs:List Addr} {cl:Cl},PairsH h qs cl->qs.length=cl.length
 | _,_,.nil=>rfl
 | _,_,.cons _ r=>by rw [List.length_cons,List.length_cons,r.length]
theorem pyHash_cl {cl:Cl} {a:Addr} {Q:Int->Shared->Prop} (hu:A.units+1 < cLine) (hk:ClH s.heap cl a) (hq:Q (clHash prog w cl) { s with toks:=s.toks+(3 * cl.length+1) }):wpAny (model prog w) A (pyHash (.ref a)) Q E s:=by
 obtain ⟨qs,⟨o,ho,hc,n,hd⟩,pr⟩:=hk
 have hT:s.TypeIs (.ref a) "tuple":=⟨o,ho,hc⟩
 unfold pyHash
 first | unfold pyHashByItsType | skip
 first | refine wpAny_bind (wpAny_cRoomFor_or (.inr (by lia)) ?_) | skip
 refine wpAny_bind (wpAny_specialOf hT F.slot_tuple_hash.lookup ?_)
 show wpAny _ _ (if (some (Value.builtin "tuple.__hash__") == some Value.none)=true then _ else _) Q E s
 rw [if_neg (by rw [beq_builtin_none];exact Bool.false_ne_true)]
 refine wpAny_bind (wpAny_specialOf hT F.slot_tuple_hash.lookup ?_)
 show wpAny _ _ (callSpecialIfBoundUnlessNone? (.ref a) "__hash__" _ >>= _) Q E s
 refine wpAny_bind (wpAny_callSpecialIfBoundUnlessNone?_slot hT F.slot_tuple_hash (wpAny_call_entry F.slot_tuple_hash hT F.entry_tuple_hash ?_ (F.args_tuple_hash_1 _)))
 show wpAny _ _ (Builtin.Tuple.tupleItemsOf (.ref a) >>= _) _ _ s
 refine wpAny_bind (wpAny_tupleItemsOf ho hd ?_)
 refine wpAny_bind ?_
 rw [<-Array.forIn_toList,List.toList_toArray]
 refine wpAny_forIn_list _
  (fun rest (b:Array Int) s'=>∃done left rs,cl=done++left/\rest=rs.map Value.ref/\PairsH s.heap rs left/\b.toList=done.map (pairHash prog w)/\s'={ s with toks:=s.toks+3 * done.length })
  _ ?_ ?_ _ _ ⟨[],cl,qs,rfl,rfl,pr,rfl,rfl⟩
 ·rintro x rest b s' ⟨done,left,rs,rfl,er,hl,hb,rfl⟩
  cases hl with
  | nil=>cases er
  | @cons q x1 t qs' cl' h1 hl'=>
   rw [List.map_cons] at er
   injection er with er1 er2
   subst er1 er2
   refine wpAny_bind (wpAny_pyHash_tuple (s:={ s with toks:=s.toks+3 * done.length }) (by rw [Around.in1_units];lia) (pair_key h1) ?_)
   first
    | exact wpAny_pure ⟨done++[x1],cl',qs',by simp,rfl,hl',by simp [hb,pairHash],by simp [Nat.add_assoc,Nat.mul_add,sbOf]⟩
    | exact wpAny_bind (wpAny_pure (wpAny_pure ⟨done++[x1],cl',qs',by simp,rfl,hl',by simp [hb,pairHash],by simp [Nat.add_assoc,Nat.mul_add,sbOf]⟩))
 ·rintro b s' ⟨done,left,rs,rfl,er,hl,hb,rfl⟩
  cases hl with
  | cons _ _=>cases er
  | nil=>
   rw [List.append_nil] at hq
   show wpAny _ _ (retInt (Builtin.Tuple.tupleHashOf b.toList)) _ _ _
   rw [hb]
   refine wpAny_ret_mkInt ?_
   show wpAny _ _ (if (decide (-(2:Int) ^ 63<=Builtin.Tuple.tupleHashOf (done.map (pairHash prog w))) && decide (Builtin.Tuple.tupleHashOf (done.map (pairHash prog w)) < 2 ^ 63))=true then _ else _) Q E _
   unfold clHash reduceHash at hq
   by_cases hr:(decide (-(2:Int) ^ 63<=Builtin.Tuple.tupleHashOf (done.map (pairHash prog w))) && decide (Builtin.Tuple.tupleHashOf (done.map (pairHash prog w)) < 2 ^ 63))=true
   ·rw [if_pos hr]
    rw [if_pos hr] at hq
    exact wpAny_pure (by simpa [Nat.add_assoc] using hq)
   ·rw [if_neg hr]
    rw [if_neg hr] at hq
    exact wpAny_bind (wpAny_rule (wpAny_pure (by simpa [Nat.add_assoc] using hq)))
theorem PairsH.at:∀{qs:List Addr} {cl:Cl} {j:Nat} {q:Addr},PairsH h qs cl->qs[j]? = some q->∃x t,cl[j]? = some x/\IsTup h q #[.str x.1 t,.bool x.2]
 | _,_,0,_,.cons h1 r1,e=>by cases e;exact ⟨_,_,rfl,h1⟩
 | _,_,j+1,_,.cons h1 r1,e=>r1.at (j:=j) e
theorem eq_pairH {p q:Addr} {x y:Str×Bool} {t u:Tok} (hu:A.units < cLine) (hp:IsTup s.heap p #[.str x.1 t,.bool x.2]) (hq:IsTup s.heap q #[.str y.1 u,.bool y.2]):SeqAt.EqAt A s (.ref p) (.ref q) (decide (x=y)):=fun prog w E Q h=>by
 refine wpAny_eqBool_tuple (knd:=sbKind prog w) hu (pair_key hp) (pair_key hq) ?_
 have e:decide (sbOf x=sbOf y)=decide (x=y):=by
  rw [Bool.eq_iff_iff,decide_eq_true_eq,decide_eq_true_eq]
  exact ⟨sbOf_inj,fun z=>by rw [z]⟩
 rw [e];exact h
theorem eq_clH {a b:Addr} {cl dl:Cl} (hu:A.units+1 < cLine) (ha:ClH s.heap cl a) (hb:ClH s.heap dl b):SeqAt.EqAt A s (.ref a) (.ref b) (decide (cl=dl)):=by
 by_cases e:a=b
 ·subst e
  rw [decide_eq_true (ha.inj hb)]
  exact SeqAt.EqAt.same _
 ·obtain ⟨qs,t1,p1⟩:=ha
  obtain ⟨ps,t2,p2⟩:=hb
  have l1:=p1.length
  have l2:=p2.length
  have h:=SeqAt.RcAt.tuples (A:=A) (e:=fun j=>decide (cl[j]? = dl[j]?)) t1 t2 (by lia) fun j h1 h2=>by
   have j1:j < qs.length:=by simpa using h1
   have j2:j < ps.length:=by simpa using h2
   obtain ⟨x,t,ex,hx⟩:=p1.at (List.getElem?_eq_getElem j1)
   obtain ⟨y,u,ey,hy⟩:=p2.at (List.getElem?_eq_getElem j2)
   have v1:(qs.map Value.ref).toArray[j]=.ref qs[j]:=by simp
   have v2:(ps.map Value.ref).toArray[j]=.ref ps[j]:=by simp
   rw [v1,v2,ex,ey]
   have e3:decide ((some x:Option (Str×Bool))=some y)=decide (x=y):=by simp only [Option.some.injEq]
   rw [e3]
   exact eq_pairH (by first | (rw [Around.in1_units];lia) | lia) hx hy
  rw [List.size_toArray,List.size_toArray,List.length_map,List.length_map,l1,l2,all_lits] at h
  exact .of_refs e h
theorem quiet_pair {q:Addr} {x:Str×Bool} {t:Tok} (n:Nat) {Q:Bool->Shared->Prop} (hq:IsTup s.heap q #[.str x.1 t,.bool x.2]) (h:Q true s):wpAny (model prog w) A (eqIsQuiet (n+1) (.ref q)) Q E s:=by
 obtain ⟨o,ho,hc,m,hd⟩:=hq
 have hT:s.TypeIs (.ref q) "tuple":=⟨o,ho,hc⟩
 unfold eqIsQuiet
 refine wpAny_bind (wpAny_specialOf hT F.slot_tuple_eq.lookup ?_)
 show wpAny _ _ (isInstance (.ref q) (.type "tuple") >>= _) _ _ s
 refine wpAny_bind (wpAny_isInstance hT isSubtype_tuple_tuple ?_)
 simp only [Bool.not_true,Bool.false_eq_true,if_false]
 refine wpAny_bind (wpAny_seqItems ho hd ?_)
 refine wpAny_bind ?_
 rw [<-Array.forIn_toList]
 refine wpAny_forIn_list _ (fun rest r s'=>r.1=none/\s'=s/\∀v∈rest,carriedByValue v=true) _ ?_ ?_ _ _ ⟨rfl,rfl,fun v hv=>?_⟩
 ·rintro v rest r s' ⟨hr,rfl,hall⟩
  rw [eqIsQuiet_byValue _ (hall v List.mem_cons_self)]
  refine wpAny_bind (wpAny_pure ?_)
  simp only [Bool.not_true,Bool.false_eq_true,if_false]
  exact wpAny_pure ⟨rfl,rfl,fun u hu'=>hall u (List.mem_cons_of_mem _ hu')⟩
 ·rintro ⟨r1,r2⟩ s' ⟨hr,rfl,_⟩
  simp only at hr
  subst hr
  exact wpAny_pure h
 ·simp at hv
  rcases hv with rfl | rfl <;> rfl
theorem quiet_cl {a:Addr} {cl:Cl} {Q:Bool->Shared->Prop} (ha:ClH s.heap cl a) (h:Q true s):wpAny (model prog w) A (eqIsQuiet 8 (.ref a)) Q E s:=by
 obtain ⟨qs,⟨o,ho,hc,m,hd⟩,pr⟩:=ha
 have hT:s.TypeIs (.ref a) "tuple":=⟨o,ho,hc⟩
 unfold eqIsQuiet
 refine wpAny_bind (wpAny_specialOf hT F.slot_tuple_eq.lookup ?_)
 show wpAny _ _ (isInstance (.ref a) (.type "tuple") >>= _) _ _ s
 refine wpAny_bind (wpAny_isInstance hT isSubtype_tuple_tuple ?_)
 simp only [Bool.not_true,Bool.false_eq_true,if_false]
 refine wpAny_bind (wpAny_seqItems ho hd ?_)
 refine wpAny_bind ?_
 rw [<-Array.forIn_toList,List.toList_toArray]
 refine wpAny_forIn_list _ (fun rest r s'=>r.1=none/\s'=s/\∀v∈rest,∃q x t,v=.ref q/\IsTup s.heap q #[.str x t,.bool true]\/v=.ref q/\IsTup s.heap q #[.str x t,.bool false]) _ ?_ ?_ _ _ ⟨rfl,rfl,fun v hv=>?_⟩
 ·rintro v rest r s' ⟨hr,rfl,hall⟩
  obtain ⟨q,x,t,hv⟩:=hall v List.mem_cons_self
  have go:∀b:Bool,v=.ref q->IsTup s'.heap q #[.str x t,.bool b]->wpAny (model prog w) A (eqIsQuiet 7 v) (fun b s2=>b=true/\s2=s') E s':=fun b e hq=>by
   rw [e]
   exact quiet_pair (x:=(x,b)) 6 hq ⟨rfl,rfl⟩
  have run:wpAny (model prog w) A (eqIsQuiet 7 v) (fun b s2=>b=true/\s2=s') E s':=hv.elim (fun z=>go true z.1 z.2) (fun z=>go false z.1 z.2)
  refine wpAny_bind (wpAny_mono run (fun b s2 ⟨e1,e2⟩=>?_) fun _ _ z=>z)
  subst e1 e2
  simp only [Bool.not_true,Bool.false_eq_true,if_false]
  exact wpAny_pure ⟨rfl,rfl,fun u hu'=>hall u (List.mem_cons_of_mem _ hu')⟩
 ·rintro ⟨r1,r2⟩ s' ⟨hr,rfl,_⟩
  simp only at hr
  subst hr
  exact wpAny_pure h
 ·obtain ⟨q,hq,rfl⟩:=List.mem_map.mp hv
  obtain ⟨j,hj,rfl⟩:=List.mem_iff_getElem.mp hq
  obtain ⟨⟨x,b⟩,t,_,hx⟩:=pr.at (List.getElem?_eq_getElem hj)
  cases b
  ·exact ⟨_,x,t,.inr ⟨rfl,hx⟩⟩
  ·exact ⟨_,x,t,.inl ⟨rfl,hx⟩⟩
end
def clKind (prog:Program) (w:World):HeapKind prog w Cl where
 is:=ClH
 hash:=clHash prog w
 draws:=fun cl=>3 * cl.length+1
 room:=fun A=>A.units+1 < cLine
 inj:=fun hx hy=>hx.inj hy
 keeps:=fun x ho hd hs=>let ⟨qs,t,p⟩:=x;⟨qs,tup_keeps t ho hd hs,p.imp fun y=>tup_keeps y ho hd hs⟩
 pyHash:=fun hu hk h=>pyHash_cl hu hk h
 eqBool:=fun hu hx hy h=>eq_clH hu hx hy _ _ _ _ h
 quiet:=fun hk h=>quiet_cl hk h
end L2
end
section
namespace L2
open PySem PySem.Spec PySem.W PyProof.Rows Builtin
def keyT (ks:List (Cl×Addr)):List (Cl×Addr×Value):=ks.map fun k=>(k.1,k.2,Value.bool true)
def DCl (P:Program) (w:World) (d:Addr) (ks:List (Cl×Addr)):HO:=.ext fun h=>(d == sysModules)=false/\∃o es ep,h.get? d=some o/\o.ExactDict/\o.data=.dict es ep/\es.toList=(keyT ks).map (entryOfKey (clKind P w))
theorem DCl.ok {P:Program} {w:World} {H:Hp} {h:Heap} {d:Addr} {ks:List (Cl×Addr)} (lo:(d == sysModules)=false) {o:Obj} {es:Array DictEntry} {ep:Nat} (e:h.get? d=some o) (x:o.ExactDict) (dt:o.data=.dict es ep) (l:es.toList=(keyT ks).map (entryOfKey (clKind P w))):ObjOk P w H h d (DCl P w d ks):=
 ⟨⟨lo,o,es,ep,e,x,dt,l⟩,⟨o,e⟩,fun h1 h2 ⟨z,o,es,ep,e,r⟩ k=>⟨z,o,es,ep,k o e,r⟩⟩
theorem DCl.of {P:Program} {w:World} {H:Hp} {h:Heap} {d:Addr} {ks:List (Cl×Addr)} (x:ObjOk P w H h d (DCl P w d ks)):(d == sysModules)=false/\∃o es ep,h.get? d=some o/\o.ExactDict/\o.data=.dict es ep/\es.toList=(keyT ks).map (entryOfKey (clKind P w)):=x.1
theorem pairsH_of {P:Program} {w:World} {H:Hp} {h:Heap} (hok:HOk P w H h):∀{qs:List Addr} {cl:Cl},qs.length=cl.length->(∀(i:Nat) q x,qs[i]? = some q->cl[i]? = some x->LitAt H q x)->PairsH h qs cl
 | [],[],_,_=>.nil
 | [],_::_,e,_=>by simp at e
 | _::_,[],e,_=>by simp at e
 | q::qs,x::cl,e,k=>by
  obtain ⟨t,ht⟩:=pair_obj hok (k 0 q x rfl rfl)
  exact .cons ht (pairsH_of hok (by simpa using e) fun i q x h1 h2=>k (i+1) q x h1 h2)
theorem clH_of {P:Program} {w:World} {H:Hp} {h:Heap} {cl:Cl} {a:Addr} (hok:HOk P w H h) (c:ClAt H cl a):ClH h cl a:=by
 refine hide fun gG hG=>?_
 obtain ⟨qs,e,l⟩:=c
 obtain ⟨_,its,r,ht⟩:=hok a _ e
 refine hG ?_
 have:=refs_vals r
 subst this
 exact ⟨qs,ht,pairsH_of hok l.1 l.2⟩
def putC (ks:List (Cl×Addr)) (cl:Cl) (a:Addr):List (Cl×Addr):=if cl∈ks.map (·.1) then ks else ks++[(cl,a)]
theorem stored_C (ks:List (Cl×Addr)) (cl:Cl) (a:Addr):storedH (keyT ks) cl a (.bool true)=keyT (putC ks cl a):=by
 unfold storedH putC
 by_cases h:cl∈ks.map (·.1)
 ·have e:(atKey (keyT ks) cl).isSome=true:=by
   obtain ⟨k,hk,e⟩:=List.mem_map.mp h
   unfold atKey
   rw [Option.isSome_map,List.find?_isSome]
   exact ⟨(k.1,k.2,.bool true),List.mem_map.mpr ⟨k,hk,rfl⟩,by simpa using e⟩
  rw [if_pos e,if_pos h]
  unfold keyT
  rw [List.map_map]
  refine List.map_congr_left fun k _=>?_
  show putAt cl (.bool true) (k.1,k.2,Value.bool true)=_
  unfold putAt
  split <;> rfl
 ·have e:¬(atKey (keyT ks) cl).isSome=true:=fun z=>by
   unfold atKey at z
   rw [Option.isSome_map,List.find?_isSome] at z
   refine hide fun gG hG=>?_
   obtain ⟨x,hx,ex⟩:=z
   obtain ⟨k,hk,rfl⟩:=List.mem_map.mp hx
   refine hG ?_
   exact h (List.mem_map.mpr ⟨k,hk,by simpa using ex⟩)
  rw [if_neg e,if_neg h]
  unfold keyT
  rw [List.map_append]
  rfl
def tDNewC (P:Program) (w:World):TE:=fun _ H Q=>∀p,H p=none->Q (.ref p) (upd H p (DCl P w p []))
def sDPutC (P:Program) (w:World) (td ty tv:TE):TS:=fun D σ H=>tv σ H fun v H1=>td σ H1 fun x H2=>ty σ H2 fun y H3=>∃d,x=.ref d/\∃a,y=.ref a/\v=.bl true/\∃ks cl,H3 d=some (DCl P w d ks)/\(∀k∈ks,ClAt H3 k.1 k.2)/\ClAt H3 cl a/\(ks.map (·.1)).Nodup/\ks.length < sizeLine/\D.nx σ (upd H3 d (DCl P w d (putC ks cl a)))
section
variable {X:Cx} {pos pos':Pos} {o i value:Expr} {td ty tv:TE}
end
end L2
end
section
namespace L2
open PySem PySem.Spec PySem.W PyProof.Rows Builtin
def tDLitC (P:Program) (w:World) (tk tv:TE):TE:=fun σ H Q=>∀p,H p=none->tk σ (upd H p (DCl P w p [])) fun y H2=>tv σ H2 fun v H3=>v=.bl true/\∃a,y=.ref a/\∃cl,ClAt H3 cl a/\H3 p=some (DCl P w p [])/\Q (.ref p) (upd H3 p (DCl P w p [(cl,a)]))
section
variable {X:Cx} {pos:Pos} {k v:Expr} {tk tv:TE}
theorem pe_dlitC (hu:X.A.units+64 < cLine) (hk:PE X k tk) (hv:PE X v tv):PE X (.Dict [some k] [v] pos) (tDLitC X.prog X.w tk tv):=by
 intro pins s σ H Q I h
 refine wpAny_Dict_any rfl rfl (by simp) (by show 1<=15;decide) ?_
 have I1:=I.laid (a:=s.heap.objs.size) (o:=DCl X.prog X.w s.heap.objs.size []) (t':=s.toks) (h':=s.heap.push { cls:=.type "dict",data:=.dict #[] }) (fun _ _ q=>Heap.get?_push_of_some _ q) (Nat.le_refl _)
  (DCl.ok (beq_eq_false_iff_ne.mpr (Ne.symm (Nat.ne_of_lt I.big))) (Heap.get?_push_size _ rfl) ⟨rfl,rfl,rfl⟩ rfl rfl)
 have h1:=h _ (I.hok.fresh (Nat.le_refl _))
 refine pairTrees_cons_walk (thn (hk pins _ σ _ _ I1 h1) fun u s1 ⟨y,H2,I2,ry,q2⟩=>thn (hv pins s1 σ H2 _ I2 q2) fun r s2 ⟨v,H3,I3,rv,ev,a,ey,cl,hc,hd,q3⟩=>pairTrees_nil_walk ?_)
 subst ev ey
 cases ry
 cases rv
 obtain ⟨lo,ob,es,ep,e1,e2,e3,e4⟩:=DCl.of (I3.hok _ _ hd)
 have dd:s2.heap.DictOfH (clKind X.prog X.w) s.heap.objs.size (keyT []):=⟨ob,es,ep,e1,e2,e3,e4,(fun x hx=>nomatch hx),List.nodup_nil⟩
 unfold storeAll
 rw [List.forIn_cons]
 refine wpAny_bind (wpAny_bind (wpAny_dictSet_heap (knd:=clKind X.prog X.w) (hsz:=Nat.zero_le _) (show X.A.units+1 < cLine by lia) (clH_of I3.hok hc) dd fun h' dd' hs'=>wpAny_pure ?_))
 dsimp only
 rw [List.forIn_nil]
 obtain ⟨ob',es',ep',g1,g2,g3,g4,_,_⟩:=dd'
 rw [stored_C] at g4
 refine wpAny_pure ⟨.ref s.heap.objs.size,_,d_write I3 (by rw [hd];exact True.intro) hs' ⟨ob',g1⟩ (DCl.ok lo g1 g2 g3 g4),rfl,?_⟩
 have e:putC ([]:List (Cl×Addr)) cl a=[(cl,a)]:=rfl
 rw [e]
 exact q3
theorem zpe_dlitC (hu:X.A.units+64 < cLine) (hk:ZE X k tk) (hv:ZE X v tv):ZE X (.Dict [some k] [v] pos) (tDLitC X.prog X.w tk tv):=⟨pe_dlitC hu hk.to hv.to⟩
def TyC (P:Program) (w:World) (K:Frag) (H:Hp) (x:V) (t:Value):Prop:=TyOf K H x t\/∃p ks,x=.ref p/\H p=some (DCl P w p ks)/\t=.type "dict"
def qIsiC (P:Program) (w:World) (K:Frag):List V->Hp->VK->Prop:=fun vs H Q=>∃x n,vs=[x,.ty n]/\∃t,TyC P w K H x t/\∃b,kitOne K t (.type n)=some b/\Q (.bl b) H
theorem call_isiC:CallR X (.builtin "isinstance") (qIsiC X.prog X.w X.K):=by
 intro pins s σ H vs us Q I rv h
 obtain ⟨x,n,rfl,t,ty,b,e,q⟩:=h
 obtain ⟨u,v,rfl,ru,rv'⟩:=rv.two
 obtain rfl:v=Value.type n:=rv'
 rcases ty with ty | ⟨p,ks,rfl,hp,rfl⟩
 ·exact isinst_ok I ru ty e fun tk=>⟨.bl b,H,I.tok _,rfl,q⟩
 ·cases ru
  obtain ⟨lo,ob,es,ep,e1,e2,e3,e4⟩:=DCl.of (I.hok _ _ hp)
  exact kia_one kitx_dict I.kIn ⟨ob,e1,e2.1⟩ e (fun z=>nomatch z) fun tk=>⟨.bl b,H,I.tok _,rfl,q⟩
end
end L2
end
section
namespace L2
open PySem PySem.Spec PySem.W PyProof.Rows Builtin
section
open PySem.SeqAt
open PySem.AutoSeq1 (wpAny_loadPart')
open PySem.MeetsSeq PySem.MeetsSeq2 PySem.MeetsSeq3
end
section
variable {prog:Program} {w:World} {A:Around} {E:Value->Shared->Prop} {s:Shared}
def pLt (x y:Str×Bool):Bool:=if x.1=y.1 then (!x.2 && y.2) else decide (x.1.cps.toList < y.1.cps.toList)
def lexC:Cl->Cl->Bool
 | [],[]=>false
 | [],_::_=>true
 | _::_,[]=>false
 | x::xs,y::ys=>if x=y then lexC xs ys else pLt x y
end
end L2
end
section
namespace L2
open PySem PySem.Spec PySem.W PyProof.Rows Builtin
def clLt (x y:Cl):Bool:=decide (x.length < y.length) || (decide (x.length=y.length) && lexC x y)
section
variable {P:Program} {w:World} {A:Around} {E:Value->Shared->Prop} {s:Shared}
end
section
variable {X:Cx} {pins:List (Addr×Obj)} {σ:St} {H:Hp} {s:Shared}
end
def ClsAt (H:Hp) (bs:List Addr) (ts:List Cl):Prop:=bs.length=ts.length/\∀(i:Nat) b t,bs[i]? = some b->ts[i]? = some t->ClAt H t b
def qSortC (P:Program) (w:World) (x:V) (H:Hp) (Q:VK):Prop:=∃d,x=.ref d/\∃ks,H d=some (DCl P w d ks)/\(∀k∈ks,ClAt H k.1 k.2)/\(ks.map (·.1)).Nodup/\ks.length < 100000/\
 ∀D H' bs ts,Same H H'->H D=none->H' D=some (.lst (List.map V.ref bs))->ClsAt H' bs ts->ts.Perm (ks.map (·.1))->ts.Pairwise (fun x y=>clLt x y=true)->Q (.ref D) H'
def tSortC (P:Program) (w:World) (te:TE):TE:=fun σ H Q=>te σ H fun x H1=>qSortC P w x H1 Q
section
variable {X:Cx} {k:Nat} {f:Addr} {fd:FuncData} {pm g:Str} {e:Expr} {te:TE} {p kp kpos pos:Pos}
end
end L2
end
section
namespace L2
open PySem PySem.Spec PySem.W PyProof.Rows Builtin
section
variable {X:Cx} {pins:List (Addr×Obj)} {s:Shared} {σ:St} {H:Hp} {A:Around}
def qEqLC (neg:Bool):R2:=fun x y H Q=>∃a b,x=.ref a/\y=.ref b/\∃ps qs cl dl,H a=some (.lst (List.map V.ref ps))/\H b=some (.lst (List.map V.ref qs))/\ClsAt H ps cl/\ClsAt H qs dl/\Q (.bl (if neg then !decide (cl=dl) else decide (cl=dl))) H
end
end L2
end
section
namespace L2
open PySem PySem.Spec PySem.W PyProof.Rows Builtin
section
variable {X:Cx}
end
end L2
end
section
namespace L2
open PySem PySem.Spec PySem.W PyProof.Rows Builtin
section
variable {X:Cx} {pins:List (Addr×Obj)} {σ:St} {H:Hp} {s:Shared} {d:Addr} {o:Obj} {ks:List (Cl×Addr)}
end
def Itc (P:Program) (w:World) (d:Addr) (o:Obj) (ks:List (Cl×Addr)):It:=
 ⟨fun i H=>i < ks.length/\H d=some (.frz o (DCl P w d ks)),fun i H x H'=>H'=H/\∃k,ks[i]? = some k/\x=.ref k.2,fun i H=>ks.length<=i/\H d=some (.frz o (DCl P w d ks))⟩
section
variable {X:Cx} {tg:Expr}
def iDictC (P:Program) (w:World) (te:TE):TI:=fun σ H R=>te σ H fun v H1=>∃a,v=.ref a/\∃ks,H1 a=some (DCl P w a ks)/\∀o,R (Itc P w a o ks) (upd H1 a (.frz o (DCl P w a ks)))
def tDInC (P:Program) (w:World) (ty td:TE):TE:=fun σ H Q=>ty σ H fun y H1=>td σ H1 fun x H2=>∃d,x=.ref d/\∃a,y=.ref a/\∃ks cl,(H2 d=some (DCl P w d ks)\/∃o,H2 d=some (.frz o (DCl P w d ks)))/\(∀k∈ks,ClAt H2 k.1 k.2)/\ClAt H2 cl a/\(ks.map (·.1)).Nodup/\Q (.bl (decide (cl∈ks.map (·.1)))) H2
def qEqNil:R2:=fun x y H Q=>∃a b,x=.ref a/\y=.ref b/\∃xs,H a=some (.lst xs)/\H b=some (.lst [])/\Q (.bl (decide (xs=[]))) H
end
end L2
end
namespace My
open PySem L2
def top (i:Nat):Stmt:=PySem.Challenge.pw_truceroll_k21_what_is_a_clause.main.body.getD i (.Pass ⟨0,0,0,0⟩)
abbrev s_is_name:Stmt:=top 2
abbrev s_is_clause:Stmt:=top 4
abbrev s_is_literal:Stmt:=top 5
abbrev s__law_hand:Stmt:=top 7
abbrev s__law_next:Stmt:=top 8
abbrev s__law_take:Stmt:=top 9
abbrev s__law_draw:Stmt:=top 10
abbrev s__law_names:Stmt:=top 11
abbrev s__law_clause:Stmt:=top 12
abbrev s__law_spoilt:Stmt:=top 13
abbrev s_law:Stmt:=top 14
abbrev nm_is_name:List Str:=["thing"]
abbrev nm_is_clause:List Str:=["thing"]
abbrev nm_is_literal:List Str:=["thing"]
abbrev nm__law_hand:List Str:=["_law_script"]
abbrev nm__law_next:List Str:=["_law_hand_here"]
abbrev nm__law_take:List Str:=["_law_hand_here","_law_cell"]
abbrev nm__law_draw:List Str:=["_law_hand_here","_law_many","_law_got","_law_value","_law_size"]
abbrev nm__law_names:List Str:=["_law_hand_here","_law_many","_law_letters","_law_some","_law_way","_law_at","_law_names_here","_law_k","_law_name","_law_word","_law_spot","_law_start","_law_sign"]
abbrev nm__law_clause:List Str:=["_law_hand_here","_law_names_here","_law_clause_here","_law_name","_law_way"]
abbrev nm__law_spoilt:List Str:=["_law_hand_here","_law_clause_here","_law_at","_law_one","_law_way","_law_signs","_law_spot","_law_bad","_law_names_here","_law_truths","_law_some","_law_two"]
abbrev nm_law:List Str:=["_law_script","_law_hand_here","_law_names_here","_law_good","_law_letters","_law_wide","_law_bad","_law_k","_law_many","_law_clause_here","_law_asked","_law_thing","_law_due","_law_told"]
structure Adr where
 a_is_name:Addr
 d_is_name:FuncData
 a_is_clause:Addr
 d_is_clause:FuncData
 a_is_literal:Addr
 d_is_literal:FuncData
 a__law_hand:Addr
 d__law_hand:FuncData
 a__law_next:Addr
 d__law_next:FuncData
 a__law_take:Addr
 d__law_take:FuncData
 a__law_draw:Addr
 d__law_draw:FuncData
 a__law_names:Addr
 d__law_names:FuncData
 a__law_clause:Addr
 d__law_clause:FuncData
 a__law_spoilt:Addr
 d__law_spoilt:FuncData
 a_law:Addr
 d_law:FuncData
 k_MOST_LETTERS:Tok
structure Txt (K:PySem.W.Frag) (mg:Str->Option Value) (t:Adr):Prop where
 F_is_name:Fun K "is_name" "is_name" s_is_name t.a_is_name t.d_is_name
 b_is_name:Binds K t.d_is_name ["thing"] []
 m_is_name:mg "is_name" = some (.ref t.a_is_name)
 F_is_clause:Fun K "is_clause" "is_clause" s_is_clause t.a_is_clause t.d_is_clause
 b_is_clause:Binds K t.d_is_clause ["thing"] []
 m_is_clause:mg "is_clause" = some (.ref t.a_is_clause)
 F_is_literal:Fun K "is_literal" "is_literal" s_is_literal t.a_is_literal t.d_is_literal
 b_is_literal:Binds K t.d_is_literal ["thing"] []
 m_is_literal:mg "is_literal" = some (.ref t.a_is_literal)
 F__law_hand:Fun K "_law_hand" "_law_hand" s__law_hand t.a__law_hand t.d__law_hand
 b__law_hand:Binds K t.d__law_hand ["_law_script"] []
 m__law_hand:mg "_law_hand" = some (.ref t.a__law_hand)
 F__law_next:Fun K "_law_next" "_law_next" s__law_next t.a__law_next t.d__law_next
 b__law_next:Binds K t.d__law_next ["_law_hand_here"] []
 m__law_next:mg "_law_next" = some (.ref t.a__law_next)
 F__law_take:Fun K "_law_take" "_law_take" s__law_take t.a__law_take t.d__law_take
 b__law_take:Binds K t.d__law_take ["_law_hand_here"] []
 m__law_take:mg "_law_take" = some (.ref t.a__law_take)
 F__law_draw:Fun K "_law_draw" "_law_draw" s__law_draw t.a__law_draw t.d__law_draw
 b__law_draw:Binds K t.d__law_draw ["_law_hand_here","_law_many"] []
 m__law_draw:mg "_law_draw" = some (.ref t.a__law_draw)
 F__law_names:Fun K "_law_names" "_law_names" s__law_names t.a__law_names t.d__law_names
 b__law_names:Binds K t.d__law_names ["_law_hand_here","_law_many"] []
 m__law_names:mg "_law_names" = some (.ref t.a__law_names)
 F__law_clause:Fun K "_law_clause" "_law_clause" s__law_clause t.a__law_clause t.d__law_clause
 b__law_clause:Binds K t.d__law_clause ["_law_hand_here","_law_names_here"] []
 m__law_clause:mg "_law_clause" = some (.ref t.a__law_clause)
 F__law_spoilt:Fun K "_law_spoilt" "_law_spoilt" s__law_spoilt t.a__law_spoilt t.d__law_spoilt
 b__law_spoilt:Binds K t.d__law_spoilt ["_law_hand_here","_law_clause_here"] []
 m__law_spoilt:mg "_law_spoilt" = some (.ref t.a__law_spoilt)
 F_law:Fun K "law" "law" s_law t.a_law t.d_law
 b_law:Binds K t.d_law ["_law_script"] []
 m_law:mg "law" = some (.ref t.a_law)
 z_abs:mg "abs" = none
 z_all:mg "all" = none
 z_bool:mg "bool" = none
 z_isinstance:mg "isinstance" = none
 z_len:mg "len" = none
 z_list:mg "list" = none
 z_range:mg "range" = none
 z_sorted:mg "sorted" = none
 z_str:mg "str" = none
 z_tuple:mg "tuple" = none
 g_MOST_LETTERS:mg "MOST_LETTERS" = some (.int 8 t.k_MOST_LETTERS)
theorem sc_is_name:FnScope nm_is_name ["thing"] (defScope s_is_name):=⟨rfl,rfl,rfl,by decide +kernel,rfl,by decide +kernel,by decide +kernel⟩
theorem sc_is_clause:FnScope nm_is_clause ["thing"] (defScope s_is_clause):=⟨rfl,rfl,rfl,by decide +kernel,rfl,by decide +kernel,by decide +kernel⟩
theorem sc_is_literal:FnScope nm_is_literal ["thing"] (defScope s_is_literal):=⟨rfl,rfl,rfl,by decide +kernel,rfl,by decide +kernel,by decide +kernel⟩
theorem sc__law_hand:FnScope nm__law_hand ["_law_script"] (defScope s__law_hand):=⟨rfl,rfl,rfl,by decide +kernel,rfl,by decide +kernel,by decide +kernel⟩
theorem sc__law_next:FnScope nm__law_next ["_law_hand_here"] (defScope s__law_next):=⟨rfl,rfl,rfl,by decide +kernel,rfl,by decide +kernel,by decide +kernel⟩
theorem sc__law_take:FnScope nm__law_take ["_law_hand_here"] (defScope s__law_take):=⟨rfl,rfl,rfl,by decide +kernel,rfl,by decide +kernel,by decide +kernel⟩
theorem sc__law_draw:FnScope nm__law_draw ["_law_hand_here","_law_many"] (defScope s__law_draw):=⟨rfl,rfl,rfl,by decide +kernel,rfl,by decide +kernel,by decide +kernel⟩
theorem sc__law_names:FnScope nm__law_names ["_law_hand_here","_law_many"] (defScope s__law_names):=⟨rfl,rfl,rfl,by decide +kernel,rfl,by decide +kernel,by decide +kernel⟩
theorem sc__law_clause:FnScope nm__law_clause ["_law_hand_here","_law_names_here"] (defScope s__law_clause):=⟨rfl,rfl,rfl,by decide +kernel,rfl,by decide +kernel,by decide +kernel⟩
theorem sc__law_spoilt:FnScope nm__law_spoilt ["_law_hand_here","_law_clause_here"] (defScope s__law_spoilt):=⟨rfl,rfl,rfl,by decide +kernel,rfl,by decide +kernel,by decide +kernel⟩
theorem sc_law:FnScope nm_law ["_law_script"] (defScope s_law):=⟨rfl,rfl,rfl,by decide +kernel,rfl,by decide +kernel,by decide +kernel⟩
def dsp__law_names_0:List Str:=[Str.ofString "is",Str.ofString "not",Str.ofString "and",Str.ofString "or",Str.ofString "then",Str.ofString "same",Str.ofString "yes",Str.ofString "no",Str.ofString "say",Str.ofString "fix",Str.ofString "isa",Str.ofString "nota",Str.ofString "a"]
theorem b_abs:bootBuiltins "abs" = some (.builtin "abs"):=by decide +kernel
theorem b_all:bootBuiltins "all" = some (.builtin "all"):=by decide +kernel
theorem b_bool:bootBuiltins "bool" = some (.type "bool"):=by decide +kernel
theorem b_isinstance:bootBuiltins "isinstance" = some (.builtin "isinstance"):=by decide +kernel
theorem b_len:bootBuiltins "len" = some (.builtin "len"):=by decide +kernel
theorem b_list:bootBuiltins "list" = some (.type "list"):=by decide +kernel
theorem b_sorted:bootBuiltins "sorted" = some (.builtin "sorted"):=by decide +kernel
theorem b_str:bootBuiltins "str" = some (.type "str"):=by decide +kernel
theorem b_tuple:bootBuiltins "tuple" = some (.type "tuple"):=by decide +kernel
def hv (l:Addr) (a b c d e:Int):HO:=.lst [.ref l,.int a,.int b,.int c,.int d,.int e]
def HdO (l:Addr) (o:HO):Prop:=∃a b c d e,o=hv l a b c d e/\0<=a
def spNext:Sp:=fun vs H Q _=>∃h,vs=[.ref h]/\∃l a b c d e,H h=some (hv l a b c d e)/\Q (.int (d * 48271 % 2147483647+e * 40693 % 2147483399)) (upd H h (hv l a b c (d * 48271 % 2147483647) (e * 40693 % 2147483399)))
def spTake:Sp:=fun vs H Q _=>∃h,vs=[.ref h]/\∃l ns o,H h=some o/\HdO l o/\H l=some (.lst (List.map V.int ns))/\∀o',HdO l o'->Q .non (upd H h o')
def spDraw:Sp:=fun vs H Q _=>∃h m,vs=[.ref h,.int m]/\1<=m/\m < 1073741824/\∃l ns o,H h=some o/\HdO l o/\H l=some (.lst (List.map V.int ns))/\∀r o',0<=r->r < m->HdO l o'->Q (.int r) (upd H h o')
local macro_rules | `(tactic| walk_at "rd") => `(tactic| walk_at "rc")
local macro_rules | `(tactic| walk_at "rl") => `(tactic| first | (refine seq_op fun R hR => ?_) | walk_at "ry" | (refine Nx.to (by assumption) _ _ ?_))
local macro_rules | `(tactic| walk_at "rc") => do
  let ids := ("L2.start tSeq tNext tIfS tTest tB tOp tUn tVar tC tAsg gName gSub tRet tRetN tDrop tCall tCons tNil tCB tTxtsL tDNewK tLst tTup rI0 rI rU rEq rNe scal tAugS ipI qIxL qIxT qIxS qSlL qSlT qLenL qLenT qListL qListT qTupleL qListD qDictD qSorted qSetS qSortSet qAllB qEqD qJoin qInL qInT qEqL qIsi qSet tSl tPart tNoPart rSlS tBM tBM0 rAppend rExtend rCat tAnd tOr tNot tAndV tOrV tNotV tIf List.map_cons List.map_nil List.cons_append List.nil_append List.append_nil List.length_cons List.length_nil List.replicate List.getElem?_cons_zero List.getElem?_cons_succ List.set_cons_zero List.set_cons_succ Nat.reduceAdd Nat.reduceSub Nat.reduceLeDiff Option.some.injEq V.int.injEq V.ref.injEq V.str.injEq V.bl.injEq V.ty.injEq List.cons.injEq HO.lst.injEq HO.tup.injEq HO.dK.injEq exists_eq_left exists_eq_left' exists_and_left and_true true_and and_assoc exists_const reduceCtorEq upd_same upd_upd decide_eq_true_eq List.length_map ite_true ite_false Bool.false_eq_true Bool.true_and Bool.and_true atI_0 atI_1 atI_2 atI_3 atI_4 atI_5 ixN6_1 ixN6_2 ixN6_3 ixN6_4 ixN6_5 cmul1 cmul2 cmul3 cmul4 cmul5a cmul5b cmul5c cmul5d cpow18 subS Option.join_some Option.join_none tComp_eq tFor_eq iRng1 iRng2 iRng3 qCatT iList iTup tyV_str tYes Int.zero_add Int.reduceMul Int.reduceAdd Int.reduceSub Int.reduceLT Int.reduceLE Int.reducePow Int.reduceToNat Int.reduceNeg gt_iff_lt ge_iff_le spNext hv tPar qInP tDNewC sDPutC tSortC iDictC tDInC qEqNil HO.ext.injEq qIsiC tDLitC tRev qAnyB rInsert rClear qEqLC tAug".splitOn " ").toArray.map fun x => Lean.mkIdent x.toName
  `(tactic| simp only [$[$ids:ident],*])
local macro_rules | `(tactic| walk_at "ry") => do
  let ids := ("L2.start tNext tIfS tTest tB tOp tUn tVar tC tAsg gName gSub tRet tRetN tDrop tCall tCons tNil tCB tTxtsL tDNewK tLst tTup rI0 rI rU rEq rNe scal tAugS ipI qIxL qIxT qIxS qSlL qSlT qLenL qLenT qListL qListT qTupleL qListD qDictD qSorted qSetS qSortSet qAllB qEqD qJoin qInL qInT qEqL qIsi qSet tSl tPart tNoPart rSlS tBM tBM0 rAppend rExtend rCat tAnd tOr tNot tAndV tOrV tNotV tIf List.map_cons List.map_nil List.cons_append List.nil_append List.append_nil List.length_cons List.length_nil List.replicate List.getElem?_cons_zero List.getElem?_cons_succ List.set_cons_zero List.set_cons_succ Nat.reduceAdd Nat.reduceSub Nat.reduceLeDiff Option.some.injEq V.int.injEq V.ref.injEq V.str.injEq V.bl.injEq V.ty.injEq List.cons.injEq HO.lst.injEq HO.tup.injEq HO.dK.injEq exists_eq_left exists_eq_left' exists_and_left and_true true_and and_assoc exists_const reduceCtorEq upd_same upd_upd decide_eq_true_eq List.length_map ite_true ite_false Bool.false_eq_true Bool.true_and Bool.and_true atI_0 atI_1 atI_2 atI_3 atI_4 atI_5 ixN6_1 ixN6_2 ixN6_3 ixN6_4 ixN6_5 cmul1 cmul2 cmul3 cmul4 cmul5a cmul5b cmul5c cmul5d cpow18 subS Option.join_some Option.join_none tComp_eq tFor_eq iRng1 iRng2 iRng3 qCatT iList iTup tyV_str tYes Int.zero_add Int.reduceMul Int.reduceAdd Int.reduceSub Int.reduceLT Int.reduceLE Int.reducePow Int.reduceToNat Int.reduceNeg gt_iff_lt ge_iff_le spNext hv tPar qInP tDNewC sDPutC tSortC iDictC tDInC qEqNil HO.ext.injEq qIsiC tDLitC tRev qAnyB rInsert rClear qEqLC tAug".splitOn " ").toArray.map fun x => Lean.mkIdent x.toName
  `(tactic| simp only [$[$ids:ident],*])
section
variable {P:Program} {w:World} {K:PySem.W.Frag} {mg:Str->Option Value} {base:Heap} {t:Adr}
theorem ok_next (T:Txt K mg t):FnOk P w K mg base CX0 1 t.a__law_next t.d__law_next ["_law_hand_here"] spNext:=by
 refine T.F__law_next.okZ sc__law_next (fun vs H Q E h=>?_) (fun cdv A outer s H vs Q E hr h hc hf=>?_)
 ·obtain ⟨h,rfl,_⟩:=h;rfl
 obtain ⟨h,rfl,l,a,b,c,d,e,hh,q⟩:=h
 refine ⟨_,(by apply zqss_cons;exact (zps_asg (zpe_op op_mod (zpe_op op_mul (zpe_ix ix_l (zpvk hc 0 (by decide +kernel)) zpe_int (fun _ _=>rfl)) zpe_int) zpe_int) (zpg_sub (zpvk hc 0 (by decide +kernel)) zpe_int set_l));apply zqss_cons;exact (zps_asg (zpe_op op_mod (zpe_op op_mul (zpe_ix ix_l (zpvk hc 0 (by decide +kernel)) zpe_int (fun _ _=>rfl)) zpe_int) zpe_int) (zpg_sub (zpvk hc 0 (by decide +kernel)) zpe_int set_l));exact zqss_one (zps_ret (zpe_op op_add (zpe_ix ix_l (zpvk hc 0 (by decide +kernel)) zpe_int (fun _ _=>rfl)) (zpe_ix ix_l (zpvk hc 0 (by decide +kernel)) zpe_int (fun _ _=>rfl))))),?_⟩
 unfold hv at *
 walk_at "rd"
 simp only [hh]
 walk_at "rd"
 exact q
theorem ok_take (T:Txt K mg t):FnOk P w K mg base CX0 2 t.a__law_take t.d__law_take ["_law_hand_here"] spTake:=by
 have G__law_next:=ok_next (P:=P) (w:=w) (base:=base) T
 refine T.F__law_take.okZ sc__law_take (fun vs H Q E h=>?_) (fun cdv A outer s H vs Q E hr h hc hf=>?_)
 ·obtain ⟨h,rfl,_⟩:=h;rfl
 obtain ⟨h,rfl,l,ns,o,hh,⟨a,b,c,d,e,rfl,ha⟩,hl,q⟩:=h
 refine ⟨_,(by apply zqss_cons;exact (zpsk_set hc sc__law_take.nd hf 1 (by decide +kernel) zpe_int);apply zqss_cut;exact (zqs_if (zpt_cmpR op_lt (zpe_ix ix_l (zpvk hc 0 (by decide +kernel)) zpe_int (fun _ _=>rfl)) (zpe_callB call_lenL (glk hc (by decide +kernel)) T.z_len b_len (zpa_cons (zpe_ix ix_l (zpvk hc 0 (by decide +kernel)) zpe_int (fun _ _=>rfl)) zpa_nil)) (nomark _)) (by exact zqss_one (zpsk_set hc sc__law_take.nd hf 1 (by decide +kernel) (zpe_callB call_abs (glk hc (by decide +kernel)) T.z_abs b_abs (zpa_cons (zpe_ix ix_l (zpe_ix ix_l (zpvk hc 0 (by decide +kernel)) zpe_int (fun _ _=>rfl)) (zpe_ix ix_l (zpvk hc 0 (by decide +kernel)) zpe_int (fun _ _=>rfl)) (fun _ _=>rfl)) zpa_nil)))) zqss_nil);apply zqss_cons;exact (zps_augS (zpvk hc 0 (by decide +kernel)) zpe_int get_l zpe_int ip_add set_l);apply zqss_cut;exact (zqs_if (zpt_cmpR op_ge (zpvk hc 1 (by decide +kernel)) (zpe_op op_pow zpe_int zpe_int) (nomark _)) (by exact zqss_one (zps_asg (zpvk hc 1 (by decide +kernel)) (zpg_sub (zpvk hc 0 (by decide +kernel)) zpe_int set_l))) (by exact zqss_one (zps_asg zpe_int (zpg_sub (zpvk hc 0 (by decide +kernel)) zpe_int set_l))));apply zqss_cons;exact (zps_asg (zpe_op op_add (zpe_op op_mod (zpe_op op_add (zpe_ix ix_l (zpvk hc 0 (by decide +kernel)) zpe_int (fun _ _=>rfl)) (zpe_op op_mod (zpvk hc 1 (by decide +kernel)) zpe_int)) zpe_int) zpe_int) (zpg_sub (zpvk hc 0 (by decide +kernel)) zpe_int set_l));apply zqss_cons;exact (zps_asg (zpe_op op_add (zpe_op op_mod (zpe_op op_add (zpe_op op_mul (zpe_ix ix_l (zpvk hc 0 (by decide +kernel)) zpe_int (fun _ _=>rfl)) zpe_int) (zpe_op op_mod (zpvk hc 1 (by decide +kernel)) zpe_int)) zpe_int) zpe_int) (zpg_sub (zpvk hc 0 (by decide +kernel)) zpe_int set_l));apply zqss_cons;exact (zps_expr (zpe_call G__law_next (hr.mono (by omega)) (glk hc (by decide +kernel)) T.m__law_next T.F__law_next.kp T.b__law_next .nil pass0 (zpa_cons (zpvk hc 0 (by decide +kernel)) zpa_nil)));exact zqss_one (zps_expr (zpe_call G__law_next (hr.mono (by omega)) (glk hc (by decide +kernel)) T.m__law_next T.F__law_next.kp T.b__law_next .nil pass0 (zpa_cons (zpvk hc 0 (by decide +kernel)) zpa_nil)))),?_⟩
 unfold hv at *
 walk_at "rd"
 refine ⟨fun σ' H'=>∃z,σ'=[some (.ref h),some (.int z)]/\H'=H,?_,?_⟩
 ·repeat (first | walk_at "rd" | simp only [hh,hl])
  split
  ·rename_i hlt
   obtain ⟨v,hv'⟩:=atI_ints ha hlt
   rw [hv']
   walk_at "rd"
   exact ⟨_,rfl⟩
  ·exact ⟨_,rfl⟩
 ·rintro σ' H' ⟨z,e1,e2⟩
  subst e1 e2
  repeat (first | walk_at "rd" | simp only [hh,hl])
  refine ⟨fun σ' H''=>∃b' c',σ'=[some (.ref h),some (.int z)]/\H''=upd H' h (.lst [.ref l,.int (a+1),.int b',.int c',.int d,.int e]),?_,?_⟩
  ·repeat (first | walk_at "rd" | simp only [hh,hl])
   split
   ·exact ⟨_,_,rfl⟩
   ·exact ⟨_,_,rfl⟩
  ·rintro σ' H'' ⟨b',c',e1,e2⟩
   subst e1 e2
   repeat (first | walk_at "rd" | simp only [hh,hl])
   exact q _ ⟨_,_,_,_,_,rfl,by lia⟩
theorem ok_draw (T:Txt K mg t):FnOk P w K mg base CX0 3 t.a__law_draw t.d__law_draw ["_law_hand_here","_law_many"] spDraw:=by
 have G__law_next:=ok_next (P:=P) (w:=w) (base:=base) T
 have G__law_take:=ok_take (P:=P) (w:=w) (base:=base) T
 refine T.F__law_draw.okZ sc__law_draw (fun vs H Q E h=>?_) (fun cdv A outer s H vs Q E hr h hc hf=>?_)
 ·obtain ⟨h,m,rfl,_⟩:=h;rfl
 obtain ⟨h,m,rfl,hm,hm2,l,ns,o,hh,⟨a,b,c,d,e,rfl,ha⟩,hl,q⟩:=h
 refine ⟨_,(by apply zqss_cut;exact (zqs_if (zPWpt (zpw_and (zpt_cmpR op_eq (zpe_ix ix_l (zpvk hc 0 (by decide +kernel)) zpe_int (fun _ _=>rfl)) zpe_int (nomark _)) (zpw_and1 (zpt_cmpR op_eq (zpe_ix ix_l (zpvk hc 0 (by decide +kernel)) zpe_int (fun _ _=>rfl)) zpe_int (nomark _))))) (by exact zqss_one (zps_expr (zpe_call G__law_take (hr.mono (by omega)) (glk hc (by decide +kernel)) T.m__law_take T.F__law_take.kp T.b__law_take .nil pass0 (zpa_cons (zpvk hc 0 (by decide +kernel)) zpa_nil)))) zqss_nil);apply zqss_cons;exact (zqs_if (zpt_cmpR op_gt (zpe_ix ix_l (zpvk hc 0 (by decide +kernel)) zpe_int (fun _ _=>rfl)) zpe_int (nomark _)) (by apply zqss_cons;exact (zpsk_set hc sc__law_draw.nd hf 2 (by decide +kernel) (zpe_op op_mod (zpe_ix ix_l (zpvk hc 0 (by decide +kernel)) zpe_int (fun _ _=>rfl)) (zpvk hc 1 (by decide +kernel))));apply zqss_cons;exact (zps_asg (zpe_op op_fdiv (zpe_ix ix_l (zpvk hc 0 (by decide +kernel)) zpe_int (fun _ _=>rfl)) (zpvk hc 1 (by decide +kernel))) (zpg_sub (zpvk hc 0 (by decide +kernel)) zpe_int set_l));exact zqss_one (zps_ret (zpvk hc 2 (by decide +kernel)))) zqss_nil);apply zqss_cons;exact (zps_augS (zpvk hc 0 (by decide +kernel)) zpe_int get_l zpe_int ip_sub set_l);apply zqss_cons;exact (zpsk_set hc sc__law_draw.nd hf 3 (by decide +kernel) (zpe_call G__law_next (hr.mono (by omega)) (glk hc (by decide +kernel)) T.m__law_next T.F__law_next.kp T.b__law_next .nil pass0 (zpa_cons (zpvk hc 0 (by decide +kernel)) zpa_nil)));apply zqss_cons;exact (zpsk_set hc sc__law_draw.nd hf 4 (by decide +kernel) zpe_int);apply zqss_cons;exact (zqs_while PassesOwn.never (zpt_cmpR op_lt (zpvk hc 4 (by decide +kernel)) (zpvk hc 1 (by decide +kernel)) (nomark _)) (by apply zqss_cons;exact (zpsk_set hc sc__law_draw.nd hf 3 (by decide +kernel) (zpe_op op_add (zpe_op op_mul (zpvk hc 3 (by decide +kernel)) zpe_int) (zpe_call G__law_next (hr.mono (by omega)) (glk hc (by decide +kernel)) T.m__law_next T.F__law_next.kp T.b__law_next .nil pass0 (zpa_cons (zpvk hc 0 (by decide +kernel)) zpa_nil))));exact zqss_one (zpsk_set hc sc__law_draw.nd hf 4 (by decide +kernel) (zpe_op op_mul (zpvk hc 4 (by decide +kernel)) zpe_int))));exact zqss_one (zps_ret (zpe_op op_mod (zpvk hc 3 (by decide +kernel)) (zpvk hc 1 (by decide +kernel))))),?_⟩
 unfold hv at *
 walk_at "rd"
 refine ⟨fun σ' H'=>∃a b c d e,σ'=[some (.ref h),some (.int m),none,none,none]/\H'=upd H h (hv l a b c d e)/\0<=a,?_,?_⟩
 ·have same:H=upd H h (hv l a b c d e):=by
   funext x;unfold upd;split
   ·rename_i e;rw [e,hh];rfl
   ·rfl
  repeat (first | walk_at "rd" | simp only [hh,hl])
  by_cases hb:b=0
  ·by_cases hc:c=0
   ·simp only [hb,hc,if_true]
    repeat (first | walk_at "rd" | simp only [hh,hl])
    refine ⟨h,rfl,l,ns,_,hh,⟨a,b,c,d,e,by rw [hb,hc];rfl,ha⟩,hl,?_⟩
    rintro o' ⟨a',b',c',d',e',rfl,ha'⟩
    exact ⟨a',b',c',d',e',rfl,ha'⟩
   ·simp only [hb,hc,if_true,if_false,Bool.false_eq_true]
    exact ⟨a,b,c,d,e,same,ha⟩
  ·simp only [hb,if_false,Bool.false_eq_true]
   exact ⟨a,b,c,d,e,same,ha⟩
 ·rintro σ' H' ⟨a,b,c,d,e,e1,e2,ha⟩
  subst e1 e2
  repeat (first | walk_at "rd" | simp only [hh,hl])
  split
  ·rename_i hb
   refine ⟨by lia,⟨by lia,hm2⟩,q _ _ (Int.emod_nonneg _ (by lia)) (Int.emod_lt_of_pos _ (by lia)) ⟨_,_,_,_,_,rfl,ha⟩⟩
  ·rename_i hb
   refine ⟨fun _ σ' H'=>σ'=_/\H'=_,⟨0,rfl,rfl⟩,?_⟩
   rintro _ σ' H' ⟨e1,e2⟩
   subst e1 e2
   walk_at "rd"
   have hno:¬((4294967296:Int) < m):=by lia
   simp only [hno,if_false]
   refine ⟨by lia,q _ _ (Int.emod_nonneg _ (by lia)) (Int.emod_lt_of_pos _ (by lia)) ⟨_,_,_,_,_,rfl,ha⟩⟩
end
local macro_rules | `(tactic| walk_at "rd") => `(tactic| walk_at "rc")
local macro_rules | `(tactic| walk_at "rl") => `(tactic| first | (refine seq_op fun R hR => ?_) | walk_at "ry" | (refine Nx.to (by assumption) _ _ ?_))
def Hd (H:Hp) (h l:Addr):Prop:=∃ns o,H h=some o/\HdO l o/\H l=some (.lst (List.map V.int ns))
def HandAt (H:Hp) (h:Addr):Prop:=∃l,Hd H h l
structure Dr (h:Addr) (H H':Hp):Prop where
 keep:∀b o,b≠h->H b=some o->H' b=some o
 hand:∀l,Hd H h l->Hd H' h l
theorem Dr.refl {h:Addr} {H:Hp}:Dr h H H:=⟨fun _ _ _ e=>e,fun _ x=>x⟩
theorem Dr.trans {h:Addr} {H H1 H2:Hp} (a:Dr h H H1) (b:Dr h H1 H2):Dr h H H2:=⟨fun c o hc e=>b.keep c o hc (a.keep c o hc e),fun l x=>b.hand l (a.hand l x)⟩
theorem Dr.handAt {h:Addr} {H H1:Hp} (a:Dr h H H1) (x:HandAt H h):HandAt H1 h:=let ⟨l,y⟩:=x;⟨l,a.hand l y⟩
theorem Hd.apart {H:Hp} {h l:Addr} (x:Hd H h l):l≠h:=by
 obtain ⟨ns,o,e1,⟨a,b,c,d,e,rfl,_⟩,e3⟩:=x
 intro z
 rw [z,e1] at e3
 have q:=Option.some.inj e3
 unfold hv at q
 injection q with q
 match ns,q with
 | [],q=>cases q
 | n::_,q=>injection q with q1 _;cases q1
theorem Dr.new {h p:Addr} {H H1:Hp} {o:HO} (a:Dr h H H1) (hp:H1 p=none):Dr h H (upd H1 p o):=by
 refine ⟨fun c o' hc e=>?_,fun l x=>?_⟩
 ·rw [upd_ne (ne_of_none (a.keep c o' hc e) hp)];exact a.keep c o' hc e
 ·obtain ⟨ns,oh,e1,e2,e3⟩:=a.hand l x
  exact ⟨ns,oh,by rw [upd_ne (ne_of_none e1 hp)];exact e1,e2,by rw [upd_ne (ne_of_none e3 hp)];exact e3⟩
theorem Dr.put {h p:Addr} {H H1:Hp} {o':HO} (a:Dr h H H1) (hn:H p=none):Dr h H (upd H1 p o'):=by
 refine ⟨fun c o' hc e=>?_,fun l x=>?_⟩
 ·rw [upd_ne (ne_of_none e hn)];exact a.keep c o' hc e
 ·obtain ⟨ns,oh,e1,e2,e3⟩:=a.hand l x
  obtain ⟨_,_,f1,_,f3⟩:=x
  exact ⟨ns,oh,by rw [upd_ne (ne_of_none f1 hn)];exact e1,e2,by rw [upd_ne (ne_of_none f3 hn)];exact e3⟩
theorem HandAt.ne {h p:Addr} {H:Hp} (x:HandAt H h) (hp:H p=none):p≠h:=by
 obtain ⟨l,ns,oh,e1,_,_⟩:=x
 exact (ne_of_none e1 hp).symm
theorem Dr.free {h p:Addr} {H H1:Hp} (a:Dr h H H1) (x:HandAt H h) (hp:H1 p=none):H p=none:=by
 cases e:H p with
 | none=>rfl
 | some o=>
  have n:=(a.handAt x).ne hp
  have:=a.keep p o n e
  rw [hp] at this;cases this
theorem draw_by {h:Addr} {m:Int} {H0 H:Hp} {Q:VK} {E:XK} (hd:HandAt H0 h) (d:Dr h H0 H) (h1:1<=m) (h2:m < 1073741824) (q:∀r H',0<=r->r < m->Dr h H0 H'->(∀b,b≠h->H' b=H b)->Q (.int r) H'):spDraw [.ref h,.int m] H Q E:=by
 obtain ⟨l,x⟩:=hd
 have x':=d.hand l x
 have ap:=x'.apart
 obtain ⟨ns,oh,e1,e2,e3⟩:=x'
 refine ⟨h,m,rfl,h1,h2,l,ns,oh,e1,e2,e3,fun r o' r0 r1 ho=>q r _ r0 r1 ⟨fun c o hc e=>?_,fun l' x'=>?_⟩ (fun b hb=>upd_ne hb)⟩
 ·rw [upd_ne hc];exact d.keep c o hc e
 ·have y:=d.hand l' x'
  have ap':=y.apart
  obtain ⟨ns',oh',f1,f2,f3⟩:=y
  have el:l'=l:=by
   obtain ⟨a,b,c,d,e,rfl,_⟩:=e2
   obtain ⟨a',b',c',d',e',rfl,_⟩:=f2
   rw [e1] at f1
   have:=Option.some.inj f1
   unfold hv at this
   injection this with this
   injection this with this _
   exact (V.ref.inj this).symm
  subst el
  exact ⟨ns,o',upd_same,ho,by rw [upd_ne ap];exact e3⟩
theorem same_new {H:Hp} {p:Addr} (h:H p=none) (o:HO):Same H (upd H p o):=fun b u q=>by rw [upd_ne (ne_of_none q h)];exact q
theorem cutV_map {α:Type} (f:α->V) (xs:List α) (lo hi:Option Int):cutV (xs.map f) lo hi=((xs.drop (HT.sIx xs.length 0 lo)).take (HT.sIx xs.length xs.length hi - HT.sIx xs.length 0 lo)).map f:=by
 unfold cutV;rw [List.length_map,List.map_take,List.map_drop]
def spHand (K:PySem.W.Frag):Sp:=fun vs H Q _=>∃a ns,vs=[.ref a]/\SqL K H a (List.map V.int ns)/\∀h H',Same H H'->H h=none->HandAt H' h->Q (.ref h) H'
section
variable {P:Program} {w:World} {K:PySem.W.Frag} {mg:Str->Option Value} {base:Heap} {t:Adr}
theorem ok_hand (T:Txt K mg t):FnOk P w K mg base CX0 1 t.a__law_hand t.d__law_hand ["_law_script"] (spHand K):=by
 refine T.F__law_hand.okZ sc__law_hand (fun vs H Q E h=>?_) (fun cdv A outer s H vs Q E hr h hc hf=>?_)
 ·obtain ⟨a,ns,rfl,_⟩:=h;rfl
 obtain ⟨a,ns,rfl,hS,q⟩:=h
 refine ⟨_,(by exact zqss_one (zps_ret (zpe_lst (zpa_cons (zpe_callTy call_listL (glk hc (by decide +kernel)) T.z_list b_list (zpa_cons (zpe_slice sl_list (zpvk hc 0 (by decide +kernel)) zpo_none (zpo_some zpe_int)) zpa_nil)) (zpa_cons zpe_int (zpa_cons zpe_int (zpa_cons zpe_int (zpa_cons zpe_int (zpa_cons zpe_int zpa_nil))))))))),?_⟩
 walk_at "rd"
 refine ⟨a,List.map V.int ns,rfl,hS,fun p hp=>?_⟩
 rw [cutV_map]
 walk_at "rd"
 refine fun l hl=>⟨by decide,fun h hh=>?_⟩
 have s1:=same_new hp (.lst (List.map V.int ((ns.drop (HT.sIx ns.length 0 none)).take (HT.sIx ns.length ns.length (some 63) - HT.sIx ns.length 0 none))))
 have s2:=same_new hl (.lst (List.map V.int ((ns.drop (HT.sIx ns.length 0 none)).take (HT.sIx ns.length ns.length (some 63) - HT.sIx ns.length 0 none))))
 have s3:=same_new hh (hv l 0 0 0 20011 40009)
 exact q h _ (s1.trans (s2.trans s3)) ((s1.trans s2).free hh) ⟨l,_,_,upd_same,⟨_,_,_,_,_,rfl,Int.le_refl 0⟩,s3 _ _ upd_same⟩
end
local macro_rules | `(tactic| walk_at "rd") => `(tactic| walk_at "rc")
local macro_rules | `(tactic| walk_at "rl") => `(tactic| first | (refine seq_op fun R hR => ?_) | walk_at "ry" | (refine Nx.to (by assumption) _ _ ?_))
def spNames:Sp:=fun vs H Q _=>∃h m,vs=[.ref h,.int m]/\1<=m/\m<=8/\HandAt H h/\∀p ss H',Dr h H H'->H p=none->H' p=some (.lst (List.map V.str ss))->ss.length=m.toNat->ss.Nodup->(∀s∈ss,Nm s)->Q (.ref p) H'
def sgn (c:Nat):Str:=⟨#[c]⟩
theorem comp_word {h:Addr} {n:Nat} {σ:St} {H1:Hp} {Q:VK} (hd:HandAt H1 h) (h2:σ[2]? = some (some (.str (Str.ofString "abcdefghijklmnopqrstuvwxyz")))) (h0:σ[0]? = some (some (.ref h))) (hn:n<=100)
  (q:∀D (cs:List Nat) H',H1 D=none->Dr h H1 H'->H' D=some (.lst (List.map V.str (cs.map sgn)))->cs.length=n->(∀c∈cs,97<=c/\c<=122)->Q (.ref D) H') :
  CompAll (Itr 0 n) 1 [2,0] (fun _=>gName 0) (fun _=>tYes) (fun _=>tOp qIxS (tVar 1) (tCall spDraw [] E0 (tCons (tVar 2) (tCons (tC (V.int 26)) tNil)))) σ Q H1:=by
 refine compAll_rng (fun D i ys H=>∃cs:List Nat,ys=List.map V.str (cs.map sgn)/\cs.length=i/\(∀c∈cs,97<=c/\c<=122)/\Dr h H1 H/\H D=some (.lst ys)) (fun D hD=>⟨[],rfl,rfl,(fun _ z=>nomatch z),Dr.refl.new hD,upd_same⟩) (fun D hD i ys H hi p c=>?_) (fun D hD ys H p=>?_)
 ·obtain ⟨cs,rfl,hl,hc,d,hy⟩:=p
  walk_at "rc"
  repeat (first | walk_at "rd" | simp only [h0,h2,Option.join_some])
  refine draw_by hd d (by decide) (by decide) fun r H' r0 r1 d' k'=>?_
  walk_at "rd"
  refine ⟨by decide,?_⟩
  rw [atI_letters r0 r1]
  walk_at "rd"
  refine ⟨by rw [k' D (hd.ne hD)];exact hy,small1000 (by omega),cs++[97+r.toNat],by simp [sgn],by simp [hl],?_,d'.put hD⟩
  intro c hc'
  rcases List.mem_append.mp hc' with z | z
  ·exact hc c z
  ·rw [List.mem_singleton.mp z];omega
 ·obtain ⟨cs,rfl,hl,hc,d,hy⟩:=p
  exact q D cs H hD d hy hl hc
theorem join_word {cs:List Nat} (hn:cs.length<=100):JoinOk (Str.ofString "") (cs.map sgn)=true/\(Txt.join (Str.ofString "") (cs.map sgn)).cps.toList=cs:=by
 refine ⟨joinOk_of (L:=1) (n:=100) (fun z hz=>?_) (by simpa using hn) (by decide),?_⟩
 ·obtain ⟨c,_,rfl⟩:=List.mem_map.mp hz
  exact Nat.le_refl 1
 ·rw [glued_cps (show (Str.ofString "").cps = #[] by decide)]
  induction cs with
  | nil=>rfl
  | cons c cs ih=>rw [List.map_cons,List.map_cons,List.flatten_cons,ih (by simp at hn;omega)];rfl
section
variable {P:Program} {w:World} {K:PySem.W.Frag} {mg:Str->Option Value} {base:Heap} {t:Adr}
theorem ok_names (T:Txt K mg t):FnOk P w K mg base CX0 4 t.a__law_names t.d__law_names ["_law_hand_here","_law_many"] spNames:=by
 have G__law_draw:=ok_draw (P:=P) (w:=w) (base:=base) T
 refine T.F__law_names.okZ sc__law_names (fun vs H Q E h=>?_) (fun cdv A outer s H vs Q E hr h hc hf=>?_)
 ·obtain ⟨h,m,rfl,_⟩:=h;rfl
 obtain ⟨h,m,rfl,hm1,hm2,hd,q⟩:=h
 refine ⟨_,(by apply zqss_cons;exact (zpsk_set hc sc__law_names.nd hf 2 (by decide +kernel) zpe_str);apply zqss_cons;exact (zpsk_set hc sc__law_names.nd hf 3 (by decide +kernel) (zpe_lst (zpa_txtsL dsp__law_names_0 (by decide +kernel))));apply zqss_cons;exact (zpsk_set hc sc__law_names.nd hf 4 (by decide +kernel) (zpe_call G__law_draw (hr.mono (by omega)) (glk hc (by decide +kernel)) T.m__law_draw T.F__law_draw.kp T.b__law_draw .nil pass0 (zpa_cons (zpvk hc 0 (by decide +kernel)) (zpa_cons zpe_int zpa_nil))));apply zqss_cons;exact (zqs_if (zpt_cmpR op_eq (zpvk hc 4 (by decide +kernel)) zpe_int (nomark _)) (by apply zqss_cons;exact (zpsk_set hc sc__law_names.nd hf 5 (by decide +kernel) (zpe_call G__law_draw (hr.mono (by omega)) (glk hc (by decide +kernel)) T.m__law_draw T.F__law_draw.kp T.b__law_draw .nil pass0 (zpa_cons (zpvk hc 0 (by decide +kernel)) (zpa_cons zpe_int zpa_nil))));exact zqss_one (zps_ret (zpek_comp hc ["_law_k"] [3,5] rfl (by decide +kernel) (zpi_range1 (glk hc (by decide +kernel)) T.z_range (zpa_cons (zpvk hc 1 (by decide +kernel)) zpa_nil)) (fun _ hc=>zpgb hc (by decide +kernel) 0 (by decide +kernel)) (fun _ _=>zpifs_nil) (fun _ hc=>(zpe_ix ix_l (zpvk hc 1 (by decide +kernel)) (zpe_op op_mod (zpe_op op_add (zpvk hc 2 (by decide +kernel)) (zpe_op op_mul zpe_int (zpvk hc 0 (by decide +kernel)))) zpe_int) (fun _ _=>rfl)))))) zqss_nil);apply zqss_cons;exact (zpsk_set hc sc__law_names.nd hf 6 (by decide +kernel) (zpe_lst zpa_nil));apply zqss_cons;exact (zqs_if (zpt_cmpR op_eq (zpvk hc 4 (by decide +kernel)) zpe_int (nomark _)) (by apply zqss_cons;exact (zqs_for PassesOwn.never rfl (zpi_range1 (glk hc (by decide +kernel)) T.z_range (zpa_cons (zpvk hc 1 (by decide +kernel)) zpa_nil)) (zpgk hc sc__law_names.nd hf 7 (by decide +kernel)) (by apply zqss_cons;exact (zpsk_set hc sc__law_names.nd hf 8 (by decide +kernel) (zpe_bm PySem.F.plainAttrs_str PySem.F.slot_str_join PySem.F.type_str_join mt_joinS zpe_str (zpa_cons (zpek_comp hc ["_law_j"] [2,0] rfl (by decide +kernel) (zpi_range1 (glk hc (by decide +kernel)) T.z_range (zpa_cons (zpe_op op_add zpe_int (zpe_call G__law_draw (hr.mono (by omega)) (glk hc (by decide +kernel)) T.m__law_draw T.F__law_draw.kp T.b__law_draw .nil pass0 (zpa_cons (zpvk hc 0 (by decide +kernel)) (zpa_cons zpe_int zpa_nil)))) zpa_nil)) (fun _ hc=>zpgb hc (by decide +kernel) 0 (by decide +kernel)) (fun _ _=>zpifs_nil) (fun _ hc=>(zpe_ix ix_s (zpvk hc 1 (by decide +kernel)) (zpe_call G__law_draw (hr.mono (by omega)) (glk hc (by decide +kernel)) T.m__law_draw T.F__law_draw.kp T.b__law_draw .nil pass0 (zpa_cons (zpvk hc 2 (by decide +kernel)) (zpa_cons zpe_int zpa_nil))) (fun _ _=>rfl)))) zpa_nil)));apply zqss_cut;exact (zqs_if (zpt_cmpR op_inL (zpvk hc 8 (by decide +kernel)) (zpvk hc 6 (by decide +kernel)) (by with_unfolding_all rfl)) (by exact zqss_one (zpsk_set hc sc__law_names.nd hf 8 (by decide +kernel) (zpe_ix ix_l (zpek_comp hc ["_law_one"] [6] rfl (by decide +kernel) (zpi_list (zpvk hc 3 (by decide +kernel))) (fun _ hc=>zpgb hc (by decide +kernel) 0 (by decide +kernel)) (fun _ hc=>zpifs_one (zpt_cmpR op_notInL (zpvk hc 0 (by decide +kernel)) (zpvk hc 1 (by decide +kernel)) (by with_unfolding_all rfl))) (fun _ hc=>(zpvk hc 0 (by decide +kernel)))) zpe_int (fun _ _=>rfl)))) zqss_nil);exact zqss_one (zps_expr (zpe_bm PySem.F.plainAttrs_list PySem.F.slot_list_append PySem.F.type_list_append mt_append (zpvk hc 6 (by decide +kernel)) (zpa_cons (zpvk hc 8 (by decide +kernel)) zpa_nil)))));exact zqss_one (zps_ret (zpvk hc 6 (by decide +kernel)))) zqss_nil);apply zqss_cons;exact (zpsk_set hc sc__law_names.nd hf 9 (by decide +kernel) (zpe_bm PySem.F.plainAttrs_str PySem.F.slot_str_join PySem.F.type_str_join mt_joinS zpe_str (zpa_cons (zpek_comp hc ["_law_k"] [2,0] rfl (by decide +kernel) (zpi_range1 (glk hc (by decide +kernel)) T.z_range (zpa_cons zpe_int zpa_nil)) (fun _ hc=>zpgb hc (by decide +kernel) 0 (by decide +kernel)) (fun _ _=>zpifs_nil) (fun _ hc=>(zpe_ix ix_s (zpvk hc 1 (by decide +kernel)) (zpe_call G__law_draw (hr.mono (by omega)) (glk hc (by decide +kernel)) T.m__law_draw T.F__law_draw.kp T.b__law_draw .nil pass0 (zpa_cons (zpvk hc 2 (by decide +kernel)) (zpa_cons zpe_int zpa_nil))) (fun _ _=>rfl)))) zpa_nil)));apply zqss_cons;exact (zqs_if (zpt_cmpR op_eq (zpvk hc 4 (by decide +kernel)) zpe_int (nomark _)) (by apply zqss_cons;exact (zpsk_set hc sc__law_names.nd hf 5 (by decide +kernel) (zpe_call G__law_draw (hr.mono (by omega)) (glk hc (by decide +kernel)) T.m__law_draw T.F__law_draw.kp T.b__law_draw .nil pass0 (zpa_cons (zpvk hc 0 (by decide +kernel)) (zpa_cons zpe_int zpa_nil))));exact zqss_one (zps_ret (zpek_comp hc ["_law_k"] [9,5] rfl (by decide +kernel) (zpi_range1 (glk hc (by decide +kernel)) T.z_range (zpa_cons (zpvk hc 1 (by decide +kernel)) zpa_nil)) (fun _ hc=>zpgb hc (by decide +kernel) 0 (by decide +kernel)) (fun _ _=>zpifs_nil) (fun _ hc=>(zpe_slice sl_str (zpvk hc 1 (by decide +kernel)) zpo_none (zpo_some (zpe_op op_add (zpe_op op_mod (zpe_op op_add (zpvk hc 2 (by decide +kernel)) (zpe_op op_mul zpe_int (zpvk hc 0 (by decide +kernel)))) zpe_int) zpe_int))))))) zqss_nil);apply zqss_cons;exact (zpsk_set hc sc__law_names.nd hf 10 (by decide +kernel) (zpe_call G__law_draw (hr.mono (by omega)) (glk hc (by decide +kernel)) T.m__law_draw T.F__law_draw.kp T.b__law_draw .nil pass0 (zpa_cons (zpvk hc 0 (by decide +kernel)) (zpa_cons zpe_int zpa_nil))));apply zqss_cons;exact (zpsk_set hc sc__law_names.nd hf 11 (by decide +kernel) (zpe_call G__law_draw (hr.mono (by omega)) (glk hc (by decide +kernel)) T.m__law_draw T.F__law_draw.kp T.b__law_draw .nil pass0 (zpa_cons (zpvk hc 0 (by decide +kernel)) (zpa_cons zpe_int zpa_nil))));apply zqss_cons;exact (zqs_for PassesOwn.never rfl (zpi_range1 (glk hc (by decide +kernel)) T.z_range (zpa_cons (zpvk hc 1 (by decide +kernel)) zpa_nil)) (zpgk hc sc__law_names.nd hf 7 (by decide +kernel)) (by apply zqss_cons;exact (zpsk_set hc sc__law_names.nd hf 12 (by decide +kernel) (zpe_ix ix_s (zpvk hc 2 (by decide +kernel)) (zpe_op op_mod (zpe_op op_add (zpvk hc 11 (by decide +kernel)) (zpe_op op_mul zpe_int (zpvk hc 7 (by decide +kernel)))) zpe_int) (fun _ _=>rfl)));apply zqss_cons;exact (zpsk_set hc sc__law_names.nd hf 8 (by decide +kernel) (zpe_op op_add_str (zpe_op op_add_str (zpe_slice sl_str (zpvk hc 9 (by decide +kernel)) zpo_none (zpo_some (zpvk hc 10 (by decide +kernel)))) (zpvk hc 12 (by decide +kernel))) (zpe_slice sl_str (zpvk hc 9 (by decide +kernel)) (zpo_some (zpe_op op_add (zpvk hc 10 (by decide +kernel)) zpe_int)) zpo_none)));exact zqss_one (zps_expr (zpe_bm PySem.F.plainAttrs_list PySem.F.slot_list_append PySem.F.type_list_append mt_append (zpvk hc 6 (by decide +kernel)) (zpa_cons (zpe_slice sl_str (zpvk hc 8 (by decide +kernel)) zpo_none (zpo_some (zpe_op op_add (zpe_op op_add (zpvk hc 10 (by decide +kernel)) zpe_int) (zpe_call G__law_draw (hr.mono (by omega)) (glk hc (by decide +kernel)) T.m__law_draw T.F__law_draw.kp T.b__law_draw .nil pass0 (zpa_cons (zpvk hc 0 (by decide +kernel)) (zpa_cons (zpe_op op_sub zpe_int (zpvk hc 10 (by decide +kernel))) zpa_nil)))))) zpa_nil)))));exact zqss_one (zps_ret (zpvk hc 6 (by decide +kernel)))),?_⟩
 walk_at "rd"
 refine ⟨by decide,fun S hS=>?_⟩
 have el:dsp__law_names_0=lits:=rfl
 rw [el]
 have hSh:S≠h:=hd.ne hS
 refine draw_by hd (Dr.refl.new hS) (by decide) (by decide) fun way H1 w0 w4 d1 k1=>?_
 have hS1:H1 S=some (.lst (List.map V.str lits)):=by rw [k1 S hSh,upd_same]
 have hd1:=d1.handAt hd
 repeat (walk_at "rd")
 split
 ·
  refine draw_by hd d1 (by decide) (by decide) fun at0 H2 a0 a1 d2 k2=>?_
  have hS2:H2 S=some (.lst (List.map V.str lits)):=by rw [k2 S hSh];exact hS1
  refine ⟨by omega,by omega,compAll_rng (fun D i ys H3=>∃ss:List Str,ys=List.map V.str ss/\ss.length=i/\(∀k s,ss[k]? = some s->lits[((at0+5 * (k:Nat)) % 13).toNat]? = some s)/\Dr h H H3/\H3 D=some (.lst ys)/\H3 S=some (.lst (List.map V.str lits))) (fun D hD=>⟨[],rfl,rfl,(fun k s z=>by simp at z),d2.new hD,upd_same,by rw [upd_ne (ne_of_none hS2 hD)];exact hS2⟩) (fun D hD i ys H3 hi p c=>?_) (fun D hD ys H3 p=>?_)⟩
  ·obtain ⟨ss,rfl,hl,hk,d3,hy,hS3⟩:=p
   walk_at "rc"
   repeat (first | walk_at "rd" | simp only [hS3])
   have hx0:0<=(at0+5 * (i:Int)) % 13:=Int.emod_nonneg _ (by decide)
   have hx1:(at0+5 * (i:Int)) % 13 < 13:=Int.emod_lt_of_pos _ (by decide)
   obtain ⟨v,ev,gv⟩:=atI_of (xs:=List.map V.str lits) hx0 (by rw [List.length_map,lits_len];exact hx1)
   rw [ev]
   walk_at "rd"
   rw [List.getElem?_map] at gv
   obtain ⟨s,es,rfl⟩:∃s,lits[((at0+5 * (i:Int)) % 13).toNat]? = some s/\V.str s=v:=by
    cases e:lits[((at0+5 * (i:Int)) % 13).toNat]? with
    | none=>rw [e] at gv;cases gv
    | some s=>rw [e] at gv;exact ⟨s,rfl,Option.some.inj gv⟩
   have hnD:D≠S:=fun z=>by rw [z,hS2] at hD;cases hD
   refine ⟨hy,small1000 (by omega),ss++[s],by simp,by simp [hl],fun k s' e=>?_,d3.put (d2.free hd hD),by rw [upd_ne hnD.symm];exact hS3⟩
   by_cases hki:k < ss.length
   ·rw [List.getElem?_append_left hki] at e;exact hk k s' e
   ·rw [List.getElem?_append_right (by omega)] at e
    have hk0:k - ss.length=0:=by
     cases z:k - ss.length with
     | zero=>rfl
     | succ n=>rw [z] at e;cases e
    rw [hk0] at e
    have:k=i:=by omega
    subst this
    cases e;exact es
  ·obtain ⟨ss,rfl,hl,hk,d3,hy,hS3⟩:=p
   refine q D ss H3 d3 (d2.free hd hD) hy hl (nodup_ix' fun i j x hij e1 e2=>?_) fun s hs=>?_
   ·have g1:=hk i x e1
    have g2:=hk j x e2
    have hj:j < ss.length:=(List.getElem?_eq_some_iff.mp e2).1
    have u1:((at0+5 * (i:Int)) % 13).toNat < lits.length:=(List.getElem?_eq_some_iff.mp g1).1
    have:=(List.getElem_inj (i:=((at0+5 * (i:Int)) % 13).toNat) (j:=((at0+5 * (j:Int)) % 13).toNat) (h₀:=u1) (h₁:=(List.getElem?_eq_some_iff.mp g2).1) lits_nodup).mp ((List.getElem?_eq_some_iff.mp g1).2.trans (List.getElem?_eq_some_iff.mp g2).2.symm)
    omega
   ·obtain ⟨k,hk'⟩:=List.mem_iff_getElem?.mp hs
    exact lits_nm s (List.mem_of_getElem? (hk k s hk'))
 ·refine ⟨by decide,fun p hp=>?_⟩
  have hpS:p≠S:=fun z=>by rw [z,hS1] at hp;cases hp
  have hph:p≠h:=hd1.ne hp
  have hp0:H p=none:=d1.free hd hp
  have dp:Dr h H (upd H1 p (.lst [])):=d1.new hp
  have hSp:(upd H1 p (.lst [])) S=some (.lst (List.map V.str lits)):=by rw [upd_ne hpS.symm];exact hS1
  split
  ·
   refine ⟨by omega,by omega,forAll_rng (fun i σ' H'=>∃(ss:List Str) (a b:Option V),σ'=[some (.ref h),some (.int m),some (.str (Str.ofString "abcdefghijklmnopqrstuvwxyz")),some (.ref S),some (.int way),none,some (.ref p),a,b,none,none,none,none]/\
    ss.length=i/\ss.Nodup/\(∀s∈ss,Nm s)/\Dr h H H'/\H' p=some (.lst (List.map V.str ss))/\H' S=some (.lst (List.map V.str lits))) ⟨[],none,none,rfl,rfl,List.nodup_nil,(fun _ z=>nomatch z),dp,upd_same,hSp⟩ (fun i σ' H' hi pv=>?_) (fun σ' H' pv=>?_)⟩
   ·obtain ⟨ss,a,b,rfl,hl,nd,nm,d2,hp2,hS2⟩:=pv
    repeat (walk_at "rd")
    have hd2:=d2.handAt hd
    refine draw_by hd2 Dr.refl (by decide) (by decide) fun r H3 r0 r1 d3 k3=>?_
    repeat (walk_at "rd")
    have hd3:=d3.handAt hd2
    refine ⟨by omega,by omega,comp_word hd3 rfl rfl (by omega) fun D cs H4 hD d4 hD4 hcl hcs=>?_⟩
    have hp4:H4 p=some (.lst (List.map V.str ss)):=d4.keep _ _ hph (d3.keep _ _ hph hp2)
    have hS4:H4 S=some (.lst (List.map V.str lits)):=d4.keep _ _ hSh (d3.keep _ _ hSh hS2)
    have dr4:Dr h H H4:=d2.trans (d3.trans d4)
    repeat (walk_at "rd")
    refine ⟨cs.map sgn,hD4,(join_word (by omega)).1,?_⟩
    obtain ⟨z,hz⟩:∃z,Txt.join (Str.ofString "") (cs.map sgn)=z:=⟨_,rfl⟩
    have ez:z.cps.toList=cs:=by rw [<-hz];exact (join_word (by omega)).2
    rw [hz]
    have nz:Nm z:=nm_of ez (by omega) (by omega) hcs
    refine ⟨fun σ5 H5=>∃(s:Str),σ5=[some (.ref h),some (.int m),some (.str (Str.ofString "abcdefghijklmnopqrstuvwxyz")),some (.ref S),some (.int way),none,some (.ref p),some (.int i),some (.str s),none,none,none,none]/\Nm s/\s∉ss/\Dr h H H5/\H5 p=some (.lst (List.map V.str ss))/\H5 S=some (.lst (List.map V.str lits)),?_,?_⟩
    ·repeat (first | walk_at "rd" | simp only [hp4])
     refine ⟨rfl,all_flat _,?_⟩
     simp only [inV_strs,decide_eq_true_eq,Bool.false_eq_true,if_false]
     by_cases hin:z∈ss
     ·rw [if_pos hin]
      repeat (first | walk_at "rd" | simp only [hS4])
      refine ⟨⟨_,sqL_of hS4⟩,compAll_list (zs:=List.map V.str lits) (fun D i ys H5=>ys=List.map V.str ((lits.take i).filter fun x=>decide (x∉ss))/\Dr h H H5/\H5 D=some (.lst ys)/\H5 p=some (.lst (List.map V.str ss))/\H5 S=some (.lst (List.map V.str lits))) (fun D hD=>⟨rfl,dr4.new hD,upd_same,by rw [upd_ne (ne_of_none hp4 hD)];exact hp4,by rw [upd_ne (ne_of_none hS4 hD)];exact hS4⟩) (fun D hD i ys H5 _ pv=>pv.2.2.2.2) (fun D hD i x ys H5 hx pv c=>?_) (fun D hD ys H5 pv=>?_)⟩
      ·obtain ⟨rfl,d5,hD5,hp5,hS5⟩:=pv
       rw [List.getElem?_map] at hx
       obtain ⟨y,ey,rfl⟩:∃y,lits[i]? = some y/\V.str y=x:=by
        cases e:lits[i]? with
        | none=>rw [e] at hx;cases hx
        | some y=>rw [e] at hx;exact ⟨y,rfl,Option.some.inj hx⟩
       have et:lits.take (i+1)=lits.take i++[y]:=by rw [List.take_add_one,ey];rfl
       have hnD:p≠D:=ne_of_none hp4 hD
       have hSD:S≠D:=ne_of_none hS4 hD
       walk_at "rc"
       repeat (first | walk_at "rd" | simp only [hp5])
       refine ⟨rfl,all_flat _,?_⟩
       simp only [inV_strs,if_true,Bool.not_eq_true',decide_eq_false_iff_not]
       split
       ·rename_i hy
        refine ⟨hD5,?_,?_,d5.put (dr4.free hd hD),by rw [upd_ne hnD];exact hp5,by rw [upd_ne hSD];exact hS5⟩
        ·have:=List.length_filter_le (fun x=>decide (x∉ss)) (lits.take i)
         have h2:(lits.take i).length<=13:=by rw [List.length_take,lits_len];omega
         try rw [List.length_map]
         exact small1000 (by omega)
        ·rw [et,List.filter_append];simp [hy]
       ·rename_i hy
        refine ⟨?_,d5,hD5,hS5⟩
        rw [et,List.filter_append];simp [hy]
      ·obtain ⟨rfl,d5,hD5,hp5,hS5⟩:=pv
       rw [List.length_map,List.take_length] at hD5
       obtain ⟨s,r,es,hs1,hs2⟩:=lit_left (ss:=ss) (by omega)
       rw [es] at hD5
       repeat (first | walk_at "rd" | simp only [hD5])
       exact ⟨lits_nm s hs1,hs2,d5,hp5,hS5⟩
     ·rw [if_neg hin]
      exact ⟨nz,hin,dr4,hS4⟩
    ·rintro σ5 H5 ⟨s,rfl,ns,hns,d5,hp5,hS5⟩
     repeat (first | walk_at "rd" | simp only [hp5])
     refine ⟨.inl ⟨rfl,_,sqL_of hp5⟩,?_⟩
     refine ⟨small1000 (by omega),ss++[s],by simp [hl],?_,fun x hx=>?_,d5.put hp0,by simp,by rw [upd_ne hpS.symm];exact hS5⟩
     ·rw [List.nodup_append]
      refine ⟨nd,by simp,fun a ha b hb=>?_⟩
      rw [List.mem_singleton.mp hb]
      intro e;rw [e] at ha;exact hns ha
     ·rcases List.mem_append.mp hx with z | z
      ·exact nm x z
      ·rw [List.mem_singleton.mp z];exact ns
   ·obtain ⟨ss,a,b,rfl,hl,nd,nm,d2,hp2,hS2⟩:=pv
    repeat (walk_at "rd")
    exact q p ss H' d2 hp0 hp2 hl nd nm
  ·
   have hdp:=dp.handAt hd
   refine comp_word hdp rfl rfl (by decide) fun D cs H2 hD d2 hD2 hcl hcs=>?_
   have hp2:H2 p=some (.lst []):=d2.keep _ _ hph upd_same
   have dr2:Dr h H H2:=dp.trans d2
   repeat (walk_at "rd")
   refine ⟨cs.map sgn,hD2,(join_word (by omega)).1,?_⟩
   obtain ⟨wd,hwd⟩:∃z,Txt.join (Str.ofString "") (cs.map sgn)=z:=⟨_,rfl⟩
   have ew:wd.cps.toList=cs:=by rw [<-hwd];exact (join_word (by omega)).2
   have lw:wd.length=8:=by have:=len_cps wd;rw [ew] at this;omega
   rw [hwd]
   split
   ·
    refine draw_by hd dr2 (by decide) (by decide) fun at0 H3 a0 a1 d3 k3=>?_
    refine ⟨by omega,by omega,?_⟩
    obtain ⟨Pv,hPv⟩:∃Pv:Addr->Nat->List V->Hp->Prop,∀D i ys H',Pv D i ys H'↔∃ss:List Str,ys=List.map V.str ss/\ss.length=i/\(∀(k:Nat) s,ss[k]? = some s->s.cps.toList=cs.take ((at0+3 * (k:Int)) % 8+1).toNat)/\Dr h H H'/\H' D=some (.lst ys):=⟨_,fun _ _ _ _=>Iff.rfl⟩
    refine compAll_rng Pv (fun D hD=>(hPv _ _ _ _).mpr ⟨[],rfl,rfl,(fun k s z=>by simp at z),d3.new hD,upd_same⟩) (fun D hD i ys H4 hi pv c=>?_) (fun D hD ys H4 pv=>?_)
    ·obtain ⟨ss,rfl,hl,hk,d4,hy⟩:=(hPv _ _ _ _).mp pv
     walk_at "rc"
     repeat (walk_at "rd")
     have hx0:0<=(at0+3 * (i:Int)) % 8:=Int.emod_nonneg _ (by decide)
     refine ⟨by rw [lw];decide,hy,small1000 (by omega),(hPv _ _ _ _).mpr ⟨ss++[cutS wd none (some ((at0+3 * (i:Int)) % 8+1))],by simp,by simp [hl],fun k s e=>?_,d4.put (d3.free hd hD),upd_same⟩⟩
     by_cases hki:k < ss.length
     ·rw [List.getElem?_append_left hki] at e;exact hk k s e
     ·rw [List.getElem?_append_right (by omega)] at e
      have hk0:k - ss.length=0:=by
       cases z:k - ss.length with
       | zero=>rfl
       | succ n=>rw [z] at e;cases e
      rw [hk0] at e
      have:k=i:=by omega
      subst this
      cases e
      rw [cutS_to wd (by omega),ew]
    ·obtain ⟨ss,rfl,hl,hk,d4,hy⟩:=(hPv _ _ _ _).mp pv
     refine q D ss H4 d4 (d3.free hd hD) hy hl (nodup_ix' fun i j x hij e1 e2=>?_) fun s hs=>?_
     ·have g1:=hk i x e1
      have g2:=hk j x e2
      have hj:j < ss.length:=(List.getElem?_eq_some_iff.mp e2).1
      have:=congrArg List.length (g1.symm.trans g2)
      rw [List.length_take,List.length_take,hcl] at this
      omega
     ·obtain ⟨k,hk'⟩:=List.mem_iff_getElem?.mp hs
      have g:=hk k s hk'
      refine nm_of g ?_ ?_ fun c hc'=>hcs c (List.mem_of_mem_take hc')
      ·rw [List.length_take,hcl];omega
      ·rw [List.length_take,hcl];omega
   ·
    refine draw_by hd dr2 (by decide) (by decide) fun sp H3 s0 s1 d3 k3=>?_
    repeat (walk_at "rd")
    refine draw_by hd d3 (by decide) (by decide) fun st H4 t0 t1 d4 k4=>?_
    have hp4:H4 p=some (.lst []):=by rw [k4 p hph,k3 p hph];exact hp2
    refine ⟨by omega,by omega,?_⟩
    obtain ⟨Pv,hPv⟩:∃Pv:Nat->St->Hp->Prop,∀i σ' H',Pv i σ' H'↔∃(ss:List Str) (a b c:Option V),σ'=[some (.ref h),some (.int m),some (.str (Str.ofString "abcdefghijklmnopqrstuvwxyz")),some (.ref S),some (.int way),none,some (.ref p),a,b,some (.str wd),some (.int sp),some (.int st),c]/\
     ss.length=i/\(∀(k:Nat) s,ss[k]? = some s->Nm s/\s.cps.toList[sp.toNat]? = some (97+((st+7 * (k:Int)) % 26).toNat))/\Dr h H H'/\H' p=some (.lst (List.map V.str ss)):=⟨_,fun _ _ _=>Iff.rfl⟩
    refine forAll_rng Pv ((hPv _ _ _).mpr ⟨[],none,none,none,rfl,rfl,(fun k s z=>by simp at z),d4,hp4⟩) (fun i σ' H5 hi pv=>?_) (fun σ' H5 pv=>?_)
    ·obtain ⟨ss,a,b,c,rfl,hl,hk,d5,hp5⟩:=(hPv _ _ _).mp pv
     repeat (walk_at "rd")
     have hx0:0<=(st+7 * (i:Int)) % 26:=Int.emod_nonneg _ (by decide)
     have hx1:(st+7 * (i:Int)) % 26 < 26:=Int.emod_lt_of_pos _ (by decide)
     refine ⟨by decide,?_⟩
     rw [atI_letters hx0 hx1]
     repeat (walk_at "rd")
     obtain ⟨c0,hc0⟩:∃c0,97+((st+7 * (i:Int)) % 26).toNat=c0:=⟨_,rfl⟩
     rw [hc0]
     obtain ⟨x1,hx1⟩:∃z,cutS wd none (some sp)=z:=⟨_,rfl⟩
     obtain ⟨x2,hx2⟩:∃z,cutS wd (some (sp+1)) none=z:=⟨_,rfl⟩
     have e1:x1.cps.toList=cs.take sp.toNat:=by rw [<-hx1,cutS_to wd s0,ew]
     have e2:x2.cps.toList=cs.drop (sp.toNat+1):=by
      rw [<-hx2,cutS_from wd (by omega),ew]
      congr 1;omega
     rw [hx1,hx2]
     have l1:x1.length=sp.toNat:=by have:=len_cps x1;rw [e1,List.length_take,hcl] at this;omega
     have l2:x2.length=8 - (sp.toNat+1):=by have:=len_cps x2;rw [e2,List.length_drop,hcl] at this;omega
     have lc:(Str.mk #[c0]).length=1:=rfl
     have e3:(x1++Str.mk #[c0]).cps.toList=cs.take sp.toNat++[c0]:=by rw [app_cps,e1]
     have l3:(x1++Str.mk #[c0]).length=sp.toNat+1:=by
      have:=len_cps (x1++Str.mk #[c0])
      rw [e3,List.length_append,List.length_take,hcl,List.length_singleton] at this;omega
     obtain ⟨z,hz⟩:∃z,x1++Str.mk #[c0]++x2=z:=⟨_,rfl⟩
     have ez:z.cps.toList=cs.take sp.toNat++[c0]++cs.drop (sp.toNat+1):=by rw [<-hz,app_cps,e3,e2]
     have lz:z.cps.toList.length=8:=by rw [ez,List.length_append,List.length_append,List.length_take,List.length_drop,hcl,List.length_singleton];omega
     have lz':z.length=8:=by rw [<-len_cps z];exact lz
     rw [hz]
     refine ⟨by rw [lw];decide,by rw [l1,lc];exact small1000' (by omega),by rw [lw];decide,by rw [l3,l2];exact small1000' (by omega),.inl ⟨rfl,_,sqL_of hp5⟩,?_⟩
     refine draw_by hd d5 (by omega) (by omega) fun r H6 r0 r1 d6 k6=>?_
     have hp6:H6 p=some (.lst (List.map V.str ss)):=by rw [k6 p hph];exact hp5
     repeat (first | walk_at "rd" | simp only [hp6])
     have eq:(cutS z none (some (sp+1+r))).cps.toList=z.cps.toList.take (sp+1+r).toNat:=cutS_to z (by omega)
     refine ⟨by rw [lz'];decide,small1000 (by omega),(hPv _ _ _).mpr ⟨ss++[cutS z none (some (sp+1+r))],_,_,_,rfl,by simp [hl],fun k s e=>?_,d6.put hp0,by simp [upd_same]⟩⟩
     by_cases hki:k < ss.length
     ·rw [List.getElem?_append_left hki] at e;exact hk k s e
     ·rw [List.getElem?_append_right (by omega)] at e
      have hk0:k - ss.length=0:=by
       cases z:k - ss.length with
       | zero=>rfl
       | succ n=>rw [z] at e;cases e
      rw [hk0] at e
      have:k=i:=by omega
      subst this
      cases e
      refine ⟨nm_of eq (by rw [List.length_take,lz];omega) (by rw [List.length_take,lz];omega) fun c hc'=>?_,?_⟩
      ·have hm:=List.mem_of_mem_take hc'
       rw [ez] at hm
       rcases List.mem_append.mp hm with hm | hm
       ·rcases List.mem_append.mp hm with hm | hm
        ·exact hcs c (List.mem_of_mem_take hm)
        ·rw [List.mem_singleton.mp hm];omega
       ·exact hcs c (List.mem_of_mem_drop hm)
      ·rw [eq,List.getElem?_take_of_lt (by omega),ez,List.getElem?_append_left (by rw [List.length_append,List.length_take,hcl,List.length_singleton];omega),List.getElem?_append_right (by rw [List.length_take,hcl];omega),List.length_take,hcl]
       have:sp.toNat - min sp.toNat 8=0:=by omega
       rw [this,<-hc0];rfl
    ·obtain ⟨ss,a,b,c,rfl,hl,hk,d5,hp5⟩:=(hPv _ _ _).mp pv
     repeat (walk_at "rd")
     refine q p ss H5 d5 hp0 hp5 hl (nodup_ix' fun i j x hij e1 e2=>?_) fun s hs=>?_
     ·have g1:=(hk i x e1).2
      have g2:=(hk j x e2).2
      have hj:j < ss.length:=(List.getElem?_eq_some_iff.mp e2).1
      rw [g1] at g2
      have:=Option.some.inj g2
      omega
     ·obtain ⟨k,hk'⟩:=List.mem_iff_getElem?.mp hs
      exact (hk k s hk').1
end
local macro_rules | `(tactic| walk_at "rd") => `(tactic| walk_at "rc")
local macro_rules | `(tactic| walk_at "rl") => `(tactic| first | (refine seq_op fun R hR => ?_) | walk_at "ry" | (refine Nx.to (by assumption) _ _ ?_))
def Tups (H H':Hp):Prop:=∀q xs,H q=some (.tup xs)->H' q=some (.tup xs)
theorem tups_of {H H':Hp} (s:Same H H'):Tups H H':=fun q xs e=>s q _ e
theorem HandAt.ntup {H:Hp} {h q:Addr} {xs:List V} (x:HandAt H h) (e:H q=some (.tup xs)):q≠h:=by
 obtain ⟨l,ns,o,e1,⟨a,b,c,d,f,rfl,_⟩,_⟩:=x
 exact ne_of e e1 (by intro z;cases z)
theorem Dr.tups {h:Addr} {H H':Hp} (d:Dr h H H') (x:HandAt H h):Tups H H':=fun q xs e=>d.keep q _ (x.ntup e) e
theorem ref_at {qs:List Addr} {i:Nat} {x:V} (h:(List.map V.ref qs)[i]? = some x):∃q,qs[i]? = some q/\x=.ref q:=by
 rw [List.getElem?_map] at h
 cases e:qs[i]? with
 | none=>rw [e] at h;cases h
 | some q=>rw [e] at h;exact ⟨q,rfl,(Option.some.inj h).symm⟩
theorem HandAt.nstr {H:Hp} {h N:Addr} {ss:List Str} (x:HandAt H h) (e:H N=some (.lst (List.map V.str ss))):N≠h:=by
 obtain ⟨l,ns,o,e1,⟨a,b,c,d,f,rfl,_⟩,_⟩:=x
 refine ne_of e e1 (fun z=>?_)
 unfold hv at z
 injection z with z
 match ss,z with
 | [],z=>cases z
 | s::_,z=>injection z with z1 _;cases z1
def envK (kvs:List (Key×V)) (x:Str):Bool:=match valV kvs (Sum.inr x) with | some (.bl b)=>b | _=>false
theorem envK_of {kvs:List (Key×V)} {x:Str} {b:Bool} (h:valV kvs (Sum.inr x)=some (.bl b)):envK kvs x=b:=by unfold envK;rw [h]
theorem str_at {ss:List Str} {i:Nat} {x:V} (h:(List.map V.str ss)[i]? = some x):∃y,ss[i]? = some y/\x=.str y:=by
 rw [List.getElem?_map] at h
 cases e:ss[i]? with
 | none=>rw [e] at h;cases h
 | some q=>rw [e] at h;exact ⟨q,rfl,(Option.some.inj h).symm⟩
theorem same_put' {H H1:Hp} {p:Addr} {o:HO} (a:Same H H1) (hn:H p=none):Same H (upd H1 p o):=fun b u e=>by rw [upd_ne (ne_of_none e hn)];exact a b u e
theorem HandAt.ndict {H:Hp} {h q:Addr} {xs:List (Key×V)} (x:HandAt H h) (e:H q=some (.dK xs)):q≠h:=by
 obtain ⟨l,ns,o,e1,⟨a,b,c,d,f,rfl,_⟩,_⟩:=x
 exact ne_of e e1 (by intro z;cases z)
theorem Dr.same {h:Addr} {H H1 H2:Hp} (d:Dr h H H1) (s:Same H1 H2):Dr h H H2:=⟨fun b o hb e=>s _ _ (d.keep b o hb e),fun l x=>by
 obtain ⟨ns,o,e1,e2,e3⟩:=d.hand l x
 exact ⟨ns,o,s _ _ e1,e2,s _ _ e3⟩⟩
theorem cut_strs (xs:List Str) (lo hi:Option Int):∃ys:List Str,cutV (List.map V.str xs) lo hi=List.map V.str ys/\ys.length<=xs.length:=by
 refine ⟨_,cutV_map V.str xs lo hi,?_⟩
 rw [List.length_take,List.length_drop]
 lia
theorem cutV_to (xs:List V) {k:Int} (hk:0<=k):cutV xs none (some k)=xs.take k.toNat:=by
 have e:HT.sIx xs.length xs.length (some k)=min k.toNat xs.length:=by
  show (if k < 0 then _ else min k.toNat xs.length)=_
  rw [if_neg (by lia)]
 have e0:HT.sIx xs.length 0 none=0:=rfl
 unfold cutV
 rw [e,e0,List.drop_zero,Nat.sub_zero]
 exact (List.take_eq_take_min ..).symm
theorem take_one {α:Type} {l:List α} {i:Nat} {x:α} (h:l[i]? = some x):l.take (i+1)=l.take i++[x]:=by rw [List.take_add_one,h];rfl
def Inc (ns:List Str):Prop:=ns.Pairwise fun a b=>a.cps.toList < b.cps.toList
theorem inc_of {ts:List Str} (h:PyProof.Rows.sortedS ts=true) (nd:ts.Nodup):Inc ts:=
 (List.Pairwise.and (sortedS_pw h) nd).imp fun {a b} ⟨h1,h2⟩=>Decidable.byContradiction fun h3=>h2 (str_ext (List.le_antisymm h1 (List.not_lt.mp h3)))
theorem inc_nodup {ts:List Str} (h:Inc ts):ts.Nodup:=h.imp fun {a b} h1 h2=>by rw [h2] at h1;exact List.lt_irrefl _ h1
theorem tups_new {H:Hp} {p:Addr} {o:HO} (h:H p=none):Tups H (upd H p o):=tups_of (same_new h o)
theorem tups_put {H:Hp} {p:Addr} {o:HO} {xs:List V} (h:H p=some (.lst xs)):Tups H (upd H p o):=fun q ys e=>by rw [upd_ne (ne_of e h (by intro z;cases z))];exact e
theorem Tups.trans {H H1 H2:Hp} (a:Tups H H1) (b:Tups H1 H2):Tups H H2:=fun q xs e=>b q xs (a q xs e)
theorem take_at {α:Type} {l:List α} {i:Nat} {x:α} (h:l[i]? = some x):l.take (i+1)=l.take i++[x]:=by rw [List.take_add_one,h];rfl
local macro_rules | `(tactic| walk_at "rd") => `(tactic| walk_at "rc")
local macro_rules | `(tactic| walk_at "rl") => `(tactic| first | (refine seq_op fun R hR => ?_) | walk_at "ry" | (refine Nx.to (by assumption) _ _ ?_))
def ClOk (H:Hp) (ns:List Str) (C:Addr):Prop:=∃cl,ClAt H cl C/\Inc (cl.map (·.1))/\(∀x∈cl,x.1∈ns)/\cl.length<=8
theorem ClOk.mono {H H':Hp} {ns:List Str} {C:Addr} (h:ClOk H ns C) (k:Tups H H'):ClOk H' ns C:=let ⟨cl,a,b,c,d⟩:=h;⟨cl,a.mono k,b,c,d⟩
theorem ClOk.sub {H:Hp} {ns ms:List Str} {C:Addr} (h:ClOk H ns C) (k:∀x∈ns,x∈ms):ClOk H ms C:=let ⟨cl,a,b,c,d⟩:=h;⟨cl,a,b,fun x hx=>k _ (c x hx),d⟩
def spClause:Sp:=fun vs H Q _=>∃h N,vs=[.ref h,.ref N]/\∃ss:List Str,HandAt H h/\H N=some (.lst (List.map V.str ss))/\ss.length<=8/\ss.Nodup/\∀C H',Dr h H H'->H C=none->ClOk H' ss C->Q (.ref C) H'
section
variable {P:Program} {w:World} {K:PySem.W.Frag} {mg:Str->Option Value} {base:Heap} {t:Adr}
theorem ok_clause (T:Txt K mg t):FnOk P w K mg base CX0 4 t.a__law_clause t.d__law_clause ["_law_hand_here","_law_names_here"] spClause:=by
 have G__law_draw:=ok_draw (P:=P) (w:=w) (base:=base) T
 refine T.F__law_clause.okZ sc__law_clause (fun vs H Q E h=>?_) (fun cdv A outer s H vs Q E hr h hc hf=>?_)
 ·obtain ⟨h,N,rfl,_⟩:=h;rfl
 obtain ⟨h,N,rfl,ss,hd,hN,l8,nd,q⟩:=h
 have hu:=hu_of hr
 have hu0:=hr.units0
 have hNh:=hd.nstr hN
 refine ⟨_,(by apply zqss_cons;exact (zpsk_set hc sc__law_clause.nd hf 2 (by decide +kernel) (zpe_lst zpa_nil));apply zqss_cons;exact (zqs_for PassesOwn.never rfl (zpi_list (zpe_callB call_sortedS (glk hc (by decide +kernel)) T.z_sorted b_sorted (zpa_cons (zpvk hc 1 (by decide +kernel)) zpa_nil))) (zpgk hc sc__law_clause.nd hf 3 (by decide +kernel)) (by apply zqss_cons;exact (zpsk_set hc sc__law_clause.nd hf 4 (by decide +kernel) (zpe_call G__law_draw (hr.mono (by omega)) (glk hc (by decide +kernel)) T.m__law_draw T.F__law_draw.kp T.b__law_draw .nil pass0 (zpa_cons (zpvk hc 0 (by decide +kernel)) (zpa_cons zpe_int zpa_nil))));exact zqss_one (zqs_if (zpt_cmpR op_lt (zpvk hc 4 (by decide +kernel)) zpe_int (nomark _)) (by exact zqss_one (zps_expr (zpe_bm PySem.F.plainAttrs_list PySem.F.slot_list_append PySem.F.type_list_append mt_append (zpvk hc 2 (by decide +kernel)) (zpa_cons (zpe_tup (zpa_cons (zpvk hc 3 (by decide +kernel)) (zpa_cons (zpe_cmpR op_eq (zpvk hc 4 (by decide +kernel)) zpe_int (nomark _)) zpa_nil))) zpa_nil)))) zqss_nil)));exact zqss_one (zps_ret (zpe_callTy call_tupleL (glk hc (by decide +kernel)) T.z_tuple b_tuple (zpa_cons (zpvk hc 2 (by decide +kernel)) zpa_nil)))),?_⟩
 repeat (walk_at "rd")
 refine ⟨by decide,fun L hL=>?_⟩
 have hLh:L≠h:=hd.ne hL
 have d1:Dr h H (upd H L (.lst [])):=Dr.refl.new hL
 have hd1:=d1.handAt hd
 refine ⟨ss,same_new hL _ _ _ hN,by omega,fun ts pm srt S hS=>?_⟩
 have hSh:S≠h:=hd1.ne hS
 have hLS:L≠S:=ne_of_none upd_same hS
 have d2:=d1.new (o:=.lst (List.map V.str ts)) hS
 have ndt:ts.Nodup:=pm.nodup_iff.mpr nd
 have lt8:ts.length<=8:=by have:=pm.length_eq;omega
 refine ⟨⟨_,sqL_of upd_same⟩,?_⟩
 obtain ⟨Pv,hPv⟩:∃Pv:Nat->St->Hp->Prop,∀i σ' H',Pv i σ' H'↔∃(rs:List Addr) (cl:Cl) (x y:Option V),σ'=[some (.ref h),some (.ref N),some (.ref L),x,y]/\Dr h H H'/\H' S=some (.lst (List.map V.str ts))/\H' L=some (.lst (List.map V.ref rs))/\Lits H' rs cl/\(cl.map (·.1)).Sublist (ts.take i):=⟨_,fun _ _ _=>Iff.rfl⟩
 refine forAll_list (xs:=List.map V.str ts) Pv ((hPv _ _ _).mpr ⟨[],[],none,none,rfl,d2,upd_same,by rw [upd_ne hLS,upd_same];rfl,Lits.nil,List.nil_sublist _⟩) (fun i σ' H' _ pv=>?_) (fun i x σ' H1 hx pv=>?_) (fun σ' H1 pv=>?_)
 ·obtain ⟨_,_,_,_,_,_,h,_⟩:=(hPv _ _ _).mp pv
  exact h
 ·obtain ⟨rs,cl,x1,x2,rfl,d3,hS3,hL3,lr,sub⟩:=(hPv _ _ _).mp pv
  obtain ⟨n,en,rfl⟩:=str_at hx
  have hi:i < ts.length:=(List.getElem?_eq_some_iff.mp en).1
  have et:=take_at en
  repeat (walk_at "rd")
  refine draw_by hd d3 (by decide) (by decide) fun way H2 w0 w3 d4 k4=>?_
  have hL4:H2 L=some (.lst (List.map V.ref rs)):=by rw [k4 L hLh];exact hL3
  have hS4:H2 S=some (.lst (List.map V.str ts)):=by rw [k4 S hSh];exact hS3
  have lr4:Lits H2 rs cl:=lr.mono fun q xs e=>by rw [k4 q ((d3.handAt hd).ntup e)];exact e
  have lrs:rs.length<=8:=by
   have:=sub.length_le
   rw [List.length_map,List.length_take] at this
   have:=lr.1
   omega
  repeat (walk_at "rd")
  split
  ·refine ⟨.inl ⟨rfl,_,sqL_of hL4⟩,by decide,fun p hp=>?_⟩
   have hpL:L≠p:=ne_of_none hL4 hp
   refine ⟨_,by rw [upd_ne hpL];exact hL4,by rw [List.length_map];exact small1000 (by omega),(hPv _ _ _).mpr ⟨rs++[p],cl++[(n,decide (way=1))],_,_,rfl,(d4.new hp).put hL,?_,?_,?_,?_⟩⟩
   ·rw [upd_ne hLS.symm,upd_ne (ne_of_none hS4 hp)];exact hS4
   ·rw [upd_same,List.map_append];rfl
   ·refine (lr4.mono fun q xs e=>?_).snoc ?_
    ·rw [upd_ne (ne_of e hL4 (by intro z;cases z)),upd_ne (ne_of_none e hp)];exact e
    ·show upd _ L _ p=_
     rw [upd_ne hpL.symm,upd_same]
   ·rw [et,List.map_append]
    exact sub.append (List.Sublist.refl _)
  ·exact (hPv _ _ _).mpr ⟨rs,cl,_,_,rfl,d4,hS4,hL4,lr4,by rw [et];exact sub.trans (List.sublist_append_left _ _)⟩
 ·obtain ⟨rs,cl,x1,x2,rfl,d3,hS3,hL3,lr,sub⟩:=(hPv _ _ _).mp pv
  rw [List.length_map,List.take_length] at sub
  repeat (first | walk_at "rd" | simp only [hL3])
  intro C hC
  refine q C _ (d3.new hC) (d3.free hd hC) ⟨cl,⟨rs,upd_same,lr.mono (tups_new hC)⟩,List.Pairwise.sublist sub (inc_of srt ndt),fun x hx=>pm.mem_iff.mp (sub.subset (List.mem_map.mpr ⟨x,hx,rfl⟩)),?_⟩
  have:=sub.length_le
  rw [List.length_map] at this
  omega
end
local macro_rules | `(tactic| walk_at "rd") => `(tactic| walk_at "rc")
local macro_rules | `(tactic| walk_at "rl") => `(tactic| first | (refine seq_op fun R hR => ?_) | walk_at "ry" | (refine Nx.to (by assumption) _ _ ?_))
inductive Dt where
 | int (i:Int) | str (s:Str) | bl (b:Bool) | non | tup (ds:List Dt) | lst | dct | oth
mutual
def Rep (P:Program) (w:World) (X:Addr->Prop) (H:Hp):Dt->V->Prop
 | .int i,v=>v=.int i
 | .str s,v=>v=.str s/\s.length<=100
 | .bl b,v=>v=.bl b
 | .non,v=>v=.non
 | .tup ds,v=>∃p vs,v=.ref p/\H p=some (.tup vs)/\Reps P w X H ds vs
 | .lst,v=>∃p vs,v=.ref p/\¬X p/\H p=some (.lst vs)
 | .dct,v=>∃p,v=.ref p/\¬X p/\H p=some (.dK [])
 | .oth,v=>∃p ks,v=.ref p/\¬X p/\H p=some (DCl P w p ks)
def Reps (P:Program) (w:World) (X:Addr->Prop) (H:Hp):List Dt->List V->Prop
 | [],vs=>vs=[]
 | d::ds,vs=>∃v ws,vs=v::ws/\Rep P w X H d v/\Reps P w X H ds ws
end
structure Kp (X:Addr->Prop) (H H':Hp):Prop where
 tup:Tups H H'
 oth:∀p o,¬X p->H p=some o->H' p=some o
theorem Kp.of {X:Addr->Prop} {H H':Hp} (s:Same H H'):Kp X H H':=⟨tups_of s,fun p o _ e=>s p o e⟩
theorem Kp.dr {X:Addr->Prop} {h:Addr} {H H':Hp} (x:HandAt H h) (hx:X h) (d:Dr h H H'):Kp X H H':=⟨d.tups x,fun p o n e=>d.keep p o (fun z=>n (by rw [z];exact hx)) e⟩
theorem Kp.trans {X:Addr->Prop} {H H' H'':Hp} (a:Kp X H H') (b:Kp X H' H''):Kp X H H'':=⟨fun q xs e=>b.tup q xs (a.tup q xs e),fun p o n e=>b.oth p o n (a.oth p o n e)⟩
section
variable {P:Program} {w:World}
mutual
theorem Rep.mono {X:Addr->Prop} {H H':Hp} (k:Kp X H H'):∀{d:Dt} {v:V},Rep P w X H d v->Rep P w X H' d v
 | .int _,_,e=>e
 | .str _,_,e=>e
 | .bl _,_,e=>e
 | .non,_,e=>e
 | .tup _,_,⟨p,vs,e,hp,r⟩=>⟨p,vs,e,k.tup _ _ hp,Reps.mono k r⟩
 | .lst,_,⟨p,vs,e,n,hp⟩=>⟨p,vs,e,n,k.oth _ _ n hp⟩
 | .dct,_,⟨p,e,n,hp⟩=>⟨p,e,n,k.oth _ _ n hp⟩
 | .oth,_,⟨p,ks,e,n,hp⟩=>⟨p,ks,e,n,k.oth _ _ n hp⟩
theorem Reps.mono {X:Addr->Prop} {H H':Hp} (k:Kp X H H'):∀{ds:List Dt} {vs:List V},Reps P w X H ds vs->Reps P w X H' ds vs
 | [],_,e=>e
 | _::_,_,⟨v,ws,e,r,rs⟩=>⟨v,ws,e,Rep.mono k r,Reps.mono k rs⟩
end
theorem Reps.len {X:Addr->Prop} {H:Hp}:∀{ds:List Dt} {vs:List V},Reps P w X H ds vs->vs.length=ds.length
 | [],_,e=>by cases e;rfl
 | _::_,_,⟨v,ws,e,_,rs⟩=>by subst e;rw [List.length_cons,List.length_cons,Reps.len rs]
theorem Reps.at {X:Addr->Prop} {H:Hp}:∀{ds:List Dt} {vs:List V} {i:Nat} {v:V},Reps P w X H ds vs->vs[i]? = some v->∃d,ds[i]? = some d/\Rep P w X H d v
 | [],_,i,v,e,x=>by cases e;simp at x
 | d::ds,_,i,v,⟨w',ws,e,r,rs⟩,x=>by
  subst e
  cases i with
  | zero=>cases x;exact ⟨d,rfl,r⟩
  | succ n=>exact Reps.at (ds:=ds) (i:=n) rs x
theorem Reps.append {X:Addr->Prop} {H:Hp}:∀{ds es:List Dt} {vs ws:List V},Reps P w X H ds vs->Reps P w X H es ws->Reps P w X H (ds++es) (vs++ws)
 | [],_,_,_,e,r=>by cases e;exact r
 | _::_,_,_,_,⟨v,us,e,r,rs⟩,r2=>by subst e;exact ⟨v,us++_,rfl,r,Reps.append rs r2⟩
theorem Reps.drop {X:Addr->Prop} {H:Hp}:∀{ds:List Dt} {vs:List V} (n:Nat),Reps P w X H ds vs->Reps P w X H (ds.drop n) (vs.drop n)
 | _,_,0,r=>r
 | [],_,n+1,e=>by cases e;rfl
 | _::ds,_,n+1,⟨v,us,e,_,rs⟩=>by subst e;exact Reps.drop n rs
theorem Reps.take {X:Addr->Prop} {H:Hp}:∀{ds:List Dt} {vs:List V} (n:Nat),Reps P w X H ds vs->Reps P w X H (ds.take n) (vs.take n)
 | _,_,0,r=>by simp only [List.take_zero];rfl
 | [],_,n+1,e=>by cases e;rfl
 | _::ds,_,n+1,⟨v,us,e,r,rs⟩=>by subst e;exact ⟨v,us.take n,rfl,r,Reps.take n rs⟩
theorem Reps.one {X:Addr->Prop} {H:Hp} {d:Dt} {v:V} (r:Rep P w X H d v):Reps P w X H [d] [v]:=⟨v,[],rfl,r,rfl⟩
theorem Rep.two {X:Addr->Prop} {H:Hp} {d e:Dt} {p:Addr} {a b:V} (hp:H p=some (.tup [a,b])) (r:Rep P w X H d a) (s:Rep P w X H e b):Rep P w X H (.tup [d,e]) (.ref p):=⟨p,_,rfl,hp,_,_,rfl,r,_,_,rfl,s,rfl⟩
end
instance (s:Str):Decidable (Nm s):=by unfold Nm;infer_instance
def isNameD:Dt->Bool
 | .str s=>decide (Nm s)
 | _=>false
def isLitD:Dt->Bool
 | .tup [d,.bl _]=>isNameD d
 | _=>false
def nmD:Dt->Str
 | .tup (.str s::_)=>s
 | _=>Str.ofString ""
def incD:List Dt->Bool
 | a::b::l=>decide ((nmD a).cps.toList < (nmD b).cps.toList) && incD (b::l)
 | _=>true
def isClD:Dt->Bool
 | .tup ds=>ds.all isLitD && incD ds
 | _=>false
def litD (x:Str×Bool):Dt:=.tup [.str x.1,.bl x.2]
def Nms (cl:Cl):Prop:=∀x∈cl,Nm x.1
theorem lits_rep {P:Program} {w:World} {X:Addr->Prop} {H:Hp}:∀{qs:List Addr} {cl:Cl},Lits H qs cl->Nms cl->Reps P w X H (cl.map litD) (List.map V.ref qs)
 | [],[],_,_=>rfl
 | [],_::_,l,_=>by have:=l.1;simp at this
 | _::_,[],l,_=>by have:=l.1;simp at this
 | q::qs,x::cl,l,n=>⟨_,_,rfl,Rep.two (l.2 0 q x rfl rfl) ⟨rfl,Nat.le_trans (n x List.mem_cons_self).2.1 (by decide)⟩ rfl,lits_rep (qs:=qs) (cl:=cl) ⟨by have:=l.1;simpa using this,fun i q' x' e f=>l.2 (i+1) q' x' e f⟩ fun y hy=>n y (List.mem_cons_of_mem _ hy)⟩
theorem cl_rep {P:Program} {w:World} {X:Addr->Prop} {C:Addr} {H:Hp} {cl:Cl} (c:ClAt H cl C) (n:Nms cl):Rep P w X H (.tup (cl.map litD)) (.ref C):=let ⟨qs,hC,l⟩:=c;⟨C,_,rfl,hC,lits_rep l n⟩
theorem lit_good {x:Str×Bool} (h:Nm x.1):isLitD (litD x)=true:=decide_eq_true h
theorem inc_good:∀{cl:Cl},Inc (cl.map (·.1))->incD (cl.map litD)=true
 | [],_=>rfl
 | [_],_=>rfl
 | a::b::l,h=>by
  have h':=List.pairwise_cons.mp h
  show (decide _ && incD ((b::l).map litD))=true
  rw [inc_good (cl:=b::l) h'.2,Bool.and_true]
  exact decide_eq_true (h'.1 b.1 (by simp))
theorem cl_good {cl:Cl} (i:Inc (cl.map (·.1))) (n:Nms cl):isClD (.tup (cl.map litD))=true:=by
 show ((cl.map litD).all isLitD && incD (cl.map litD))=true
 rw [inc_good i,Bool.and_true,List.all_map,List.all_eq_true]
 exact fun x hx=>lit_good (n x hx)
theorem bad_mid {xs ys:List Dt} {d:Dt} (h:isLitD d=false):isClD (.tup (xs++[d]++ys))=false:=by
 show ((xs++[d]++ys).all isLitD && _)=false
 rw [List.all_append,List.all_append]
 simp [h]
theorem inc_mid:∀{xs ys:List Dt} {d e:Dt},¬(nmD d).cps.toList < (nmD e).cps.toList->incD (xs++[d,e]++ys)=false
 | [],ys,d,e,h=>by
  show (decide _ && _)=false
  rw [decide_eq_false h];rfl
 | [x],ys,d,e,h=>by
  show (decide _ && incD ([]++[d,e]++ys))=false
  rw [inc_mid (xs:=[]) h,Bool.and_false]
 | x::y::l,ys,d,e,h=>by
  show (decide _ && incD ((y::l)++[d,e]++ys))=false
  rw [inc_mid (xs:=y::l) h,Bool.and_false]
theorem bad_two {xs ys:List Dt} {d e:Dt} (h:¬(nmD d).cps.toList < (nmD e).cps.toList):isClD (.tup (xs++[d,e]++ys))=false:=by
 show (_ && incD (xs++[d,e]++ys))=false
 rw [inc_mid h,Bool.and_false]
theorem kit_same (K:PySem.W.Frag) (T:String):PySem.W.kitOne K (.type T) (.type T)=some true:=by
 unfold PySem.W.kitOne
 rw [if_pos (by simp)]
theorem kit_no {K:PySem.W.Frag} {A B:String} (h:(Value.type A == Value.type B)=false) (e:PySem.W.kitCls K (.type A) (.type B)=some false):PySem.W.kitOne K (.type A) (.type B)=some false:=by
 unfold PySem.W.kitOne
 rw [if_neg (by rw [h];exact Bool.false_ne_true)]
 exact e
theorem rep_tup (K:PySem.W.Frag) {P:Program} {w:World} {X:Addr->Prop} {H:Hp}:∀{d:Dt} {v:V},Rep P w X H d v->(∃x:List Dt,d=.tup x)\/((∀x:List Dt,d≠.tup x)/\∃t,TyC P w K H v t/\PySem.W.kitOne K t (.type "tuple")=some false)
 | .int i,_,e=>.inr ⟨fun _ z=>(nomatch z),Value.type "int",by rw [show _=V.int i from e];exact .inl (.int i),kit_no (by decide) rfl⟩
 | .str s,_,e=>.inr ⟨fun _ z=>(nomatch z),Value.type "str",by rw [e.1];exact .inl (.str s),kit_no (by decide) rfl⟩
 | .bl b,_,e=>.inr ⟨fun _ z=>(nomatch z),Value.type "bool",by rw [show _=V.bl b from e];exact .inl (.bl b),kit_no (by decide) rfl⟩
 | .non,_,e=>.inr ⟨fun _ z=>(nomatch z),Value.type "NoneType",by rw [show _=V.non from e];exact .inl (.non),kit_no (by decide) rfl⟩
 | .tup ds,_,_=>.inl ⟨ds,rfl⟩
 | .lst,_,⟨p,vs,e,_,hp⟩=>.inr ⟨fun _ z=>(nomatch z),Value.type "list",by rw [e];exact .inl (.lst hp),kit_no (by decide) rfl⟩
 | .dct,_,⟨p,e,_,hp⟩=>.inr ⟨fun _ z=>(nomatch z),Value.type "dict",by rw [e];exact .inl (.dK hp),kit_no (by decide) rfl⟩
 | .oth,_,⟨p,ks,e,_,hp⟩=>.inr ⟨fun _ z=>(nomatch z),Value.type "dict",.inr ⟨p,ks,e,hp,rfl⟩,kit_no (by decide) rfl⟩
theorem rep_str (K:PySem.W.Frag) {P:Program} {w:World} {X:Addr->Prop} {H:Hp}:∀{d:Dt} {v:V},Rep P w X H d v->(∃x:Str,d=.str x)\/((∀x:Str,d≠.str x)/\∃t,TyC P w K H v t/\PySem.W.kitOne K t (.type "str")=some false)
 | .int i,_,e=>.inr ⟨fun _ z=>(nomatch z),Value.type "int",by rw [show _=V.int i from e];exact .inl (.int i),kit_no (by decide) rfl⟩
 | .str s,_,_=>.inl ⟨s,rfl⟩
 | .bl b,_,e=>.inr ⟨fun _ z=>(nomatch z),Value.type "bool",by rw [show _=V.bl b from e];exact .inl (.bl b),kit_no (by decide) rfl⟩
 | .non,_,e=>.inr ⟨fun _ z=>(nomatch z),Value.type "NoneType",by rw [show _=V.non from e];exact .inl (.non),kit_no (by decide) rfl⟩
 | .tup ds,_,⟨p,vs,e,hp,_⟩=>.inr ⟨fun _ z=>(nomatch z),Value.type "tuple",by rw [e];exact .inl (.tup hp),kit_no (by decide) rfl⟩
 | .lst,_,⟨p,vs,e,_,hp⟩=>.inr ⟨fun _ z=>(nomatch z),Value.type "list",by rw [e];exact .inl (.lst hp),kit_no (by decide) rfl⟩
 | .dct,_,⟨p,e,_,hp⟩=>.inr ⟨fun _ z=>(nomatch z),Value.type "dict",by rw [e];exact .inl (.dK hp),kit_no (by decide) rfl⟩
 | .oth,_,⟨p,ks,e,_,hp⟩=>.inr ⟨fun _ z=>(nomatch z),Value.type "dict",.inr ⟨p,ks,e,hp,rfl⟩,kit_no (by decide) rfl⟩
theorem rep_bool (K:PySem.W.Frag) {P:Program} {w:World} {X:Addr->Prop} {H:Hp}:∀{d:Dt} {v:V},Rep P w X H d v->(∃x:Bool,d=.bl x)\/((∀x:Bool,d≠.bl x)/\∃t,TyC P w K H v t/\PySem.W.kitOne K t (.type "bool")=some false)
 | .int i,_,e=>.inr ⟨fun _ z=>(nomatch z),Value.type "int",by rw [show _=V.int i from e];exact .inl (.int i),kit_no (by decide) rfl⟩
 | .str s,_,e=>.inr ⟨fun _ z=>(nomatch z),Value.type "str",by rw [e.1];exact .inl (.str s),kit_no (by decide) rfl⟩
 | .bl b,_,_=>.inl ⟨b,rfl⟩
 | .non,_,e=>.inr ⟨fun _ z=>(nomatch z),Value.type "NoneType",by rw [show _=V.non from e];exact .inl (.non),kit_no (by decide) rfl⟩
 | .tup ds,_,⟨p,vs,e,hp,_⟩=>.inr ⟨fun _ z=>(nomatch z),Value.type "tuple",by rw [e];exact .inl (.tup hp),kit_no (by decide) rfl⟩
 | .lst,_,⟨p,vs,e,_,hp⟩=>.inr ⟨fun _ z=>(nomatch z),Value.type "list",by rw [e];exact .inl (.lst hp),kit_no (by decide) rfl⟩
 | .dct,_,⟨p,e,_,hp⟩=>.inr ⟨fun _ z=>(nomatch z),Value.type "dict",by rw [e];exact .inl (.dK hp),kit_no (by decide) rfl⟩
 | .oth,_,⟨p,ks,e,_,hp⟩=>.inr ⟨fun _ z=>(nomatch z),Value.type "dict",.inr ⟨p,ks,e,hp,rfl⟩,kit_no (by decide) rfl⟩
def spIsNameD (P:Program) (w:World):Sp:=fun vs H Q _=>∃v,vs=[v]/\∃X d,Rep P w X H d v/\∀H',Same H H'->Q (.bl (isNameD d)) H'
def spIsLitD (P:Program) (w:World):Sp:=fun vs H Q _=>∃v,vs=[v]/\∃X d,Rep P w X H d v/\∀H',Same H H'->Q (.bl (isLitD d)) H'
def spIsClD (P:Program) (w:World):Sp:=fun vs H Q _=>∃v,vs=[v]/\∃X d,Rep P w X H d v/\(∀ds,d=.tup ds->ds.length<=700)/\∀H',Same H H'->Q (.bl (isClD d)) H'
theorem one_lt' {a b:Nat}:(!decide ([a] < [b]))=decide (b<=a):=by
 rw [Bool.eq_iff_iff]
 simp only [Bool.not_eq_true',decide_eq_false_iff_not,decide_eq_true_eq,List.cons_lt_cons_iff]
 constructor
 ·intro z
  exact Nat.le_of_not_lt fun y=>z (.inl y)
 ·rintro z (y | ⟨_,y⟩)
  ·omega
  ·exact absurd y (List.not_lt_nil _)
section
variable {P:Program} {w:World} {K:PySem.W.Frag} {mg:Str->Option Value} {base:Heap} {t:Adr}
theorem ok_isNameD (T : Txt K mg t) : FnOk P w K mg base CX0 1 t.a_is_name t.d_is_name ["thing"] (spIsNameD P w) := by
  refine T.F_is_name.okZ sc_is_name (fun vs H Q E h => ?_) (fun cdv A outer s H vs Q E hr h hc hf => ?_)
  · obtain ⟨v, rfl, _⟩ := h; rfl
  obtain ⟨v, rfl, hd, d, rp, q⟩ := h
  have hu := hu_of hr
  have hu0 := hr.units0
  refine ⟨_, (by apply zqss_cons; exact (zqs_if (zPWpt (zpw_or (zpt_not (zpt_val (zpe_callB call_isiC (glk hc (by decide +kernel)) T.z_isinstance b_isinstance (zpa_cons (zpvk hc 0 (by decide +kernel)) (zpa_cons (zpe_bltn (v := V.ty "str") (glk hc (by decide +kernel)) T.z_str b_str rfl) zpa_nil))))) (zpw_or1 (zpt_not (zpt_chain op_le op_le zpe_int (zpe_callB call_len_str (glk hc (by decide +kernel)) T.z_len b_len (zpa_cons (zpvk hc 0 (by decide +kernel)) zpa_nil)) (zpe_glob (v := .int 8) (glk hc (by decide +kernel)) T.g_MOST_LETTERS ⟨_, rfl⟩)))))) (by exact zqss_one (zps_ret zpe_bl)) zqss_nil); exact zqss_one (zps_ret (zpe_callB (call_allB hr.hd) (glk hc (by decide +kernel)) T.z_all b_all (zpa_cons (zpek_comp hc ["sign"] [] rfl (by decide +kernel) (zpi_str (zpvk hc 0 (by decide +kernel))) (fun _ hc => zpgb hc (by decide +kernel) 0 (by decide +kernel)) (fun _ _ => zpifs_nil) (fun _ hc => (zpe_chain op_le_str op_le_str zpe_str (zpvk hc 0 (by decide +kernel)) zpe_str))) zpa_nil)))), ?_⟩
  repeat (first | walk_at "rd" | simp only [iStr])
  rcases rep_str K rp with ⟨z, rfl⟩ | ⟨nd, ty, ht, hk⟩
  · obtain ⟨rfl, lz⟩ := rp
    refine ⟨_, .inl (.str _), true, kit_same _ _, ?_⟩
    rw [if_neg (by simp)]
    repeat (first | walk_at "rd" | simp only [tChain])
    refine ⟨small1000' (by lia), ?_⟩
    have fin0 : ¬ (1 ≤ z.length ∧ z.length ≤ 8) → isNameD (.str z) = false := fun n => decide_eq_false fun m => n ⟨m.1, m.2.1⟩
    split
    · rename_i h1
      split
      · rename_i h8
        have e := fin0 (by simp at h8; lia)
        rw [← e]
        exact q _ (Same.refl H)
      · rename_i h8
        have h1' : 1 ≤ z.length := by lia
        have h8' : z.length ≤ 8 := by simp at h8; lia
        obtain ⟨Pc, hPc⟩ : ∃ Pc : Addr → Nat → List V → Hp → Prop, ∀ Z i ys H', Pc Z i ys H' ↔ ∃ bs : List Bool, ys = List.map V.bl bs ∧ bs = (z.cps.toList.take i).map (fun c => decide (97 ≤ c) && decide (c ≤ 122)) ∧ Same H H' ∧ H' Z = some (.lst ys) := ⟨_, fun _ _ _ _ => Iff.rfl⟩
        refine compAll_str Pc (fun Z hZ => (hPc _ _ _ _).mpr ⟨[], rfl, rfl, same_new hZ _, upd_same⟩) (fun Z hZ i c0 ys H' ec pv cb => ?_) (fun Z hZ ys H' pv => ?_)
        · obtain ⟨bs, rfl, hbl, sZ, hZZ⟩ := (hPc _ _ _ _).mp pv
          have hi : i < z.cps.size := (Array.getElem?_eq_some_iff.mp ec).1
          have hl : z.cps.size = z.length := rfl
          have ec' : z.cps.toList[i]? = some c0 := by rw [Array.getElem?_toList]; exact ec
          have lb : bs.length ≤ 8 := by rw [hbl, List.length_map, List.length_take]; lia
          have step : bs ++ [decide (97 ≤ c0) && decide (c0 ≤ 122)] = (z.cps.toList.take (i + 1)).map (fun c => decide (97 ≤ c) && decide (c ≤ 122)) := by
            rw [List.take_add_one, ec', List.map_append, hbl]; rfl
          walk_at "rc"
          repeat (first | walk_at "rd" | simp only [tChain, qLeS])
          have ea : (Str.ofString "a").cps.toList = [97] := by decide +kernel
          have ez : (Str.ofString "z").cps.toList = [122] := by decide +kernel
          rw [ea, ez, one_lt', one_lt']
          have fin : ∀ b : Bool, b = (decide (97 ≤ c0) && decide (c0 ≤ 122)) → H' Z = some (.lst (List.map V.bl bs)) ∧ bs.length < sizeLine ∧ Pc Z (i + 1) (List.map V.bl bs ++ [V.bl b]) (upd H' Z (.lst (List.map V.bl bs ++ [V.bl b]))) := fun b eb =>
            ⟨hZZ, small1000 (by lia), (hPc _ _ _ _).mpr ⟨bs ++ [b], by simp, by rw [eb]; exact step, same_put' sZ hZ, upd_same⟩⟩
          by_cases h97 : 97 ≤ c0
          · rw [decide_eq_true h97, if_pos rfl]
            refine fin _ ?_
            rw [decide_eq_true h97]; rfl
          · rw [decide_eq_false h97, if_neg Bool.false_ne_true]
            refine fin _ ?_
            rw [decide_eq_false h97]; rfl
        · obtain ⟨bs, rfl, hbl, sZ, hZZ⟩ := (hPc _ _ _ _).mp pv
          refine ⟨Z, rfl, bs, hZZ, ?_⟩
          have e : bs.all id = isNameD (.str z) := by
            show _ = decide (Nm z)
            rw [hbl, Bool.eq_iff_iff, decide_eq_true_eq, List.all_map, List.all_eq_true]
            have et : z.cps.toList.take z.cps.size = z.cps.toList := List.take_of_length_le (by simp)
            rw [et]
            constructor
            · intro al
              exact ⟨h1', h8', fun c hc => by have := al c hc; simp at this; exact this⟩
            · intro nm c hc
              have := nm.2.2 c hc
              simp [this.1, this.2]
          rw [e]
          exact q _ sZ
    · rename_i h1
      have e := fin0 (by lia)
      first
        | (split
           · rw [← e]; exact q _ (Same.refl H)
           · rename_i hx; exact absurd rfl hx)
        | (rw [← e]; exact q _ (Same.refl H))
  · refine ⟨_, ht, false, hk, ?_⟩
    rw [if_pos (by simp)]
    have e : isNameD d = false := by
      cases d with
      | str z => exact absurd rfl (nd z)
      | _ => rfl
    rw [← e]
    exact q _ (Same.refl H)
end
local macro_rules | `(tactic| walk_at "rd") => `(tactic| walk_at "rc")
local macro_rules | `(tactic| walk_at "rl") => `(tactic| first | (refine seq_op fun R hR => ?_) | walk_at "ry" | (refine Nx.to (by assumption) _ _ ?_))
section
variable {P:Program} {w:World} {K:PySem.W.Frag} {mg:Str->Option Value} {base:Heap} {t:Adr}
theorem lit_no {d:Dt} (h:∀ds,d≠.tup ds):isLitD d=false:=by
 cases d with
 | tup ds=>exact absurd rfl (h ds)
 | _=>rfl
theorem cl_no {d:Dt} (h:∀ds,d≠.tup ds):isClD d=false:=by
 cases d with
 | tup ds=>exact absurd rfl (h ds)
 | _=>rfl
theorem lit_len {ds:List Dt} (h:ds.length≠2):isLitD (.tup ds)=false:=by
 match ds,h with
 | [],_=>rfl
 | [_],_=>rfl
 | [_,_],h=>exact absurd rfl h
 | _::b::_::_,_=>cases b <;> rfl
theorem lit_bl {d e:Dt} (h:∀b,e≠.bl b):isLitD (.tup [d,e])=false:=by
 cases e with
 | bl b=>exact absurd rfl (h b)
 | _=>rfl
theorem ok_isLitD (T:Txt K mg t):FnOk P w K mg base CX0 2 t.a_is_literal t.d_is_literal ["thing"] (spIsLitD P w):=by
 have G_is_name:=ok_isNameD (P:=P) (w:=w) (base:=base) T
 refine T.F_is_literal.okZ sc_is_literal (fun vs H Q E h=>?_) (fun cdv A outer s H vs Q E hr h hc hf=>?_)
 ·obtain ⟨v,rfl,_⟩:=h;rfl
 obtain ⟨v,rfl,hd,d,rp,q⟩:=h
 have hu:=hu_of hr
 have hu0:=hr.units0
 refine ⟨_,(by exact zqss_one (zps_ret (zpe_and (zpe_callB call_isiC (glk hc (by decide +kernel)) T.z_isinstance b_isinstance (zpa_cons (zpvk hc 0 (by decide +kernel)) (zpa_cons (zpe_bltn (v:=V.ty "tuple") (glk hc (by decide +kernel)) T.z_tuple b_tuple rfl) zpa_nil))) (zpe_and (zpe_cmpR op_eq (zpe_callB call_lenT (glk hc (by decide +kernel)) T.z_len b_len (zpa_cons (zpvk hc 0 (by decide +kernel)) zpa_nil)) zpe_int (nomark _)) (zpe_and (zpe_call G_is_name (hr.mono (by omega)) (glk hc (by decide +kernel)) T.m_is_name T.F_is_name.kp T.b_is_name .nil pass0 (zpa_cons (zpe_ix ix_t (zpvk hc 0 (by decide +kernel)) zpe_int (fun _ _=>rfl)) zpa_nil)) (zpe_one (zpe_callB call_isiC (glk hc (by decide +kernel)) T.z_isinstance b_isinstance (zpa_cons (zpe_ix ix_t (zpvk hc 0 (by decide +kernel)) zpe_int (fun _ _=>rfl)) (zpa_cons (zpe_bltn (v:=V.ty "bool") (glk hc (by decide +kernel)) T.z_bool b_bool rfl) zpa_nil))))))))),?_⟩
 repeat (walk_at "rl")
 rcases rep_tup K rp with ⟨ds,rfl⟩ | ⟨nd,ty,ht,hk⟩
 ·obtain ⟨p,vs,rfl,hp,rs⟩:=rp
  have hl:=rs.len
  refine ⟨_,.inl (.tup hp),true,kit_same _ _,?_⟩
  repeat (first | walk_at "rl" | simp only [hp])
  by_cases h2:ds.length=2
  ·rw [if_pos (by lia)]
   obtain ⟨d1,d2,rfl⟩:∃d1 d2,ds=[d1,d2]:=by
    match ds,h2 with
    | [d1,d2],_=>exact ⟨d1,d2,rfl⟩
   obtain ⟨v1,w1,rfl,r1,v2,w2,rfl,r2,rfl⟩:=rs
   repeat (first | walk_at "rl" | simp only [hp])
   refine ⟨v1,rfl,hd,d1,r1,fun H1 s1=>?_⟩
   have hp1:=s1 _ _ hp
   have r21:=r2.mono (Kp.of s1)
   by_cases hn:isNameD d1=true
   ·rw [hn]
    repeat (first | walk_at "rl" | simp only [hp1])
    rcases rep_bool K r21 with ⟨b,rfl⟩ | ⟨nb,ty,ht,hk⟩
    ·have e2:v2=.bl b:=r21
     subst e2
     refine ⟨_,.inl (.bl b),true,kit_same _ _,?_⟩
     have:=q H1 s1
     rw [show isLitD (.tup [d1,.bl b])=isNameD d1 from rfl,hn] at this
     exact this
    ·refine ⟨ty,ht,false,hk,?_⟩
     have:=q H1 s1
     rw [lit_bl nb] at this
     exact this
   ·rw [Bool.eq_false_iff.mpr hn]
    repeat (first | walk_at "rl" | simp only [hp1])
    have:=q H1 s1
    have e:isLitD (.tup [d1,d2])=false:=by
     cases d2 with
     | bl b=>exact Bool.eq_false_iff.mpr hn
     | _=>rfl
    rw [e] at this
    exact this
  ·rw [if_neg (by lia)]
   have:=q H (Same.refl H)
   rw [lit_len h2] at this
   exact this
 ·refine ⟨ty,ht,false,hk,?_⟩
  repeat (walk_at "rl")
  have:=q H (Same.refl H)
  rw [lit_no nd] at this
  exact this
theorem lit_nm:∀{d:Dt},isLitD d=true->∃s b,d=.tup [.str s,.bl b]/\nmD d=s
 | .tup [.str s,.bl b],_=>⟨s,b,rfl,rfl⟩
 | .tup [.int _,.bl _],h=>by cases h
 | .tup [.bl _,.bl _],h=>by cases h
 | .tup [.non,.bl _],h=>by cases h
 | .tup [.tup _,.bl _],h=>by cases h
 | .tup [.lst,.bl _],h=>by cases h
 | .tup [.dct,.bl _],h=>by cases h
 | .tup [.oth,.bl _],h=>by cases h
theorem incD_at:∀{ds:List Dt},(∀(i:Nat) a b,ds[i]? = some a->ds[i+1]? = some b->(nmD a).cps.toList < (nmD b).cps.toList)↔incD ds=true
 | []=>by simp [incD]
 | [a]=>by simp [incD]
 | a::b::l=>by
  show _↔(decide _ && incD (b::l))=true
  rw [Bool.and_eq_true,decide_eq_true_eq,<-incD_at (ds:=b::l)]
  constructor
  ·intro h
   exact ⟨h 0 a b rfl rfl,fun i x y e f=>h (i+1) x y (by simpa using e) (by simpa using f)⟩
  ·rintro ⟨h1,h2⟩ i x y e f
   cases i with
   | zero=>cases e;cases f;exact h1
   | succ n=>exact h2 n x y (by simpa using e) (by simpa using f)
theorem ok_isClD (T:Txt K mg t):FnOk P w K mg base CX0 3 t.a_is_clause t.d_is_clause ["thing"] (spIsClD P w):=by
 have G_is_literal:=ok_isLitD (P:=P) (w:=w) (base:=base) T
 refine T.F_is_clause.okZ sc_is_clause (fun vs H Q E h=>?_) (fun cdv A outer s H vs Q E hr h hc hf=>?_)
 ·obtain ⟨v,rfl,_⟩:=h;rfl
 obtain ⟨v,rfl,hd,d,rp,l7,q⟩:=h
 have hu:=hu_of hr
 have hu0:=hr.units0
 refine ⟨_,(by apply zqss_cons;exact (zqs_if (zPWpt (zpw_or (zpt_not (zpt_val (zpe_callB call_isiC (glk hc (by decide +kernel)) T.z_isinstance b_isinstance (zpa_cons (zpvk hc 0 (by decide +kernel)) (zpa_cons (zpe_bltn (v:=V.ty "tuple") (glk hc (by decide +kernel)) T.z_tuple b_tuple rfl) zpa_nil))))) (zpw_or1 (zpt_not (zpt_val (zpe_callB (call_allB hr.hd) (glk hc (by decide +kernel)) T.z_all b_all (zpa_cons (zpek_comp hc ["part"] [] rfl (by decide +kernel) (zpi_tup (zpvk hc 0 (by decide +kernel))) (fun _ hc=>zpgb hc (by decide +kernel) 0 (by decide +kernel)) (fun _ _=>zpifs_nil) (fun _ hc=>(zpe_call G_is_literal (hr.mono (by omega)) (glk hc (by decide +kernel)) T.m_is_literal T.F_is_literal.kp T.b_is_literal .nil pass0 (zpa_cons (zpvk hc 0 (by decide +kernel)) zpa_nil)))) zpa_nil))))))) (by exact zqss_one (zps_ret zpe_bl)) zqss_nil);exact zqss_one (zps_ret (zpe_callB (call_allB hr.hd) (glk hc (by decide +kernel)) T.z_all b_all (zpa_cons (zpek_comp hc ["place"] [0] rfl (by decide +kernel) (zpi_range2 (glk hc (by decide +kernel)) T.z_range (zpa_cons zpe_int (zpa_cons (zpe_callB call_lenT (glk hc (by decide +kernel)) T.z_len b_len (zpa_cons (zpvk hc 0 (by decide +kernel)) zpa_nil)) zpa_nil))) (fun _ hc=>zpgb hc (by decide +kernel) 0 (by decide +kernel)) (fun _ _=>zpifs_nil) (fun _ hc=>(zpe_cmpR op_lt_str (zpe_ix ix_t (zpe_ix ix_t (zpvk hc 1 (by decide +kernel)) (zpe_op op_sub (zpvk hc 0 (by decide +kernel)) zpe_int) (fun _ _=>rfl)) zpe_int (fun _ _=>rfl)) (zpe_ix ix_t (zpe_ix ix_t (zpvk hc 1 (by decide +kernel)) (zpvk hc 0 (by decide +kernel)) (fun _ _=>rfl)) zpe_int (fun _ _=>rfl)) (nomark _)))) zpa_nil)))),?_⟩
 repeat (walk_at "rl")
 rcases rep_tup K rp with ⟨ds,rfl⟩ | ⟨nd,ty,ht,hk⟩
 ·obtain ⟨p,vs,rfl,hp,rs⟩:=rp
  have hl:=rs.len
  have l7':=l7 ds rfl
  refine ⟨_,.inl (.tup hp),true,kit_same _ _,?_⟩
  try rw [if_neg (by simp)]
  repeat (walk_at "rl")
  refine ⟨⟨_,sqT_of hp⟩,?_⟩
  obtain ⟨Pc,hPc⟩:∃Pc:Addr->Nat->List V->Hp->Prop,∀Z i ys H',Pc Z i ys H'↔ys=List.map V.bl ((ds.take i).map isLitD)/\Same H H'/\H' Z=some (.lst ys):=⟨_,fun _ _ _ _=>Iff.rfl⟩
  refine compAll_tup (zs:=vs) Pc (fun Z hZ=>(hPc _ _ _ _).mpr ⟨rfl,same_new hZ _,upd_same⟩) (fun Z hZ i ys H' _ pc=>?_) (fun Z hZ i z ys H' hz pc cb=>?_) (fun Z hZ ys H' pc=>?_)
  ·obtain ⟨_,s,_⟩:=(hPc _ _ _ _).mp pc
   exact s _ _ hp
  ·obtain ⟨rfl,sZ,hZZ⟩:=(hPc _ _ _ _).mp pc
   obtain ⟨d0,ed,r0⟩:=rs.at hz
   have hi:i < ds.length:=(List.getElem?_eq_some_iff.mp ed).1
   walk_at "rc"
   repeat (walk_at "rl")
   refine ⟨z,rfl,hd,d0,r0.mono (Kp.of sZ),fun H1 s1=>?_⟩
   refine ⟨s1 _ _ hZZ,small1000 (by have:=List.length_take (i:=i) (l:=ds);simp;lia),(hPc _ _ _ _).mpr ⟨?_,same_put' (sZ.trans s1) hZ,upd_same⟩⟩
   rw [take_at ed]
   simp
  ·obtain ⟨rfl,sZ,hZZ⟩:=(hPc _ _ _ _).mp pc
   rw [hl,List.take_length] at hZZ
   refine ⟨Z,rfl,_,hZZ,?_⟩
   have e0:(ds.map isLitD).all id=ds.all isLitD:=by rw [List.all_map];rfl
   rw [e0]
   have hpZ:=sZ _ _ hp
   by_cases ha:ds.all isLitD=true
   ·rw [ha]
    try rw [if_neg (by simp)]
    repeat (first | walk_at "rl" | simp only [hpZ])
    have lits:=List.all_eq_true.mp ha
    refine ⟨by lia,by lia,?_⟩
    obtain ⟨Pe,hPe⟩:∃Pe:Addr->Nat->List V->Hp->Prop,∀Y i ys H',Pe Y i ys H'↔∃bs:List Bool,ys=List.map V.bl bs/\bs.length=i/\(bs.all id=true↔∀j,j < i->∀a b,ds[j]? = some a->ds[j+1]? = some b->(nmD a).cps.toList < (nmD b).cps.toList)/\Same H H'/\H' Y=some (.lst ys):=⟨_,fun _ _ _ _=>Iff.rfl⟩
    refine compAll_rng Pe (fun Y hY=>(hPe _ _ _ _).mpr ⟨[],rfl,rfl,by simp,sZ.trans (same_new hY _),upd_same⟩) (fun Y hY i ys H2 hi pe c=>?_) (fun Y hY ys H2 pe=>?_)
    ·obtain ⟨bs,rfl,hbl,al,s2,hYY⟩:=(hPe _ _ _ _).mp pe
     have i1:i < vs.length:=by lia
     have i2:i+1 < vs.length:=by lia
     obtain ⟨da,ea,ra⟩:=rs.at (List.getElem?_eq_getElem i1)
     obtain ⟨db,eb,rb⟩:=rs.at (List.getElem?_eq_getElem i2)
     obtain ⟨sa,ba,rfl,na⟩:=lit_nm (lits da (List.mem_of_getElem? ea))
     obtain ⟨sb,bb,rfl,nb⟩:=lit_nm (lits db (List.mem_of_getElem? eb))
     obtain ⟨pa,va,epa,hpa,xa,wa,rfl,⟨rfl,_⟩,_⟩:=ra
     obtain ⟨pb,vb,epb,hpb,xb,wb,rfl,⟨rfl,_⟩,_⟩:=rb
     have hp2:=s2 _ _ hp
     have hpa2:=s2 _ _ hpa
     have hpb2:=s2 _ _ hpb
     have a1:atI vs ((1:Int)+(i:Int) - 1)=some (.ref pa):=by
      rw [show (1:Int)+(i:Int) - 1=(i:Int) by lia]
      exact atI_nat (by rw [List.getElem?_eq_getElem i1,epa])
     have a2:atI vs ((1:Int)+(i:Int))=some (.ref pb):=by
      rw [show (1:Int)+(i:Int)=((i+1:Nat):Int) by lia]
      exact atI_nat (by rw [List.getElem?_eq_getElem i2,epb])
     walk_at "rc"
     repeat (first | walk_at "rl" | simp only [hp2,a1,a2,hpa2,hpb2])
     refine ⟨hYY,small1000 (by lia),(hPe _ _ _ _).mpr ⟨bs++[decide (sa.cps.toList < sb.cps.toList)],by simp,by simp [hbl],?_,same_put' s2 (sZ.free hY),upd_same⟩⟩
     rw [List.all_append,Bool.and_eq_true,al]
     simp only [List.all_cons,List.all_nil,Bool.and_true,id,decide_eq_true_eq]
     constructor
     ·rintro ⟨h1,h2⟩ j hj a b e f
      rcases Nat.lt_or_ge j i with z | z
      ·exact h1 j z a b e f
      ·have:j=i:=by lia
       subst this
       rw [ea] at e
       rw [eb] at f
       cases e;cases f
       exact h2
     ·intro h
      exact ⟨fun j hj=>h j (by lia),h i (Nat.lt_succ_self _) _ _ ea eb⟩
    ·obtain ⟨bs,rfl,hbl,al,s2,hYY⟩:=(hPe _ _ _ _).mp pe
     refine ⟨Y,rfl,bs,hYY,?_⟩
     have:=q H2 s2
     rw [show isClD (.tup ds)=(ds.all isLitD && incD ds) from rfl,ha,Bool.true_and] at this
     have e:bs.all id=incD ds:=by
      rw [Bool.eq_iff_iff,al,<-incD_at]
      constructor
      ·intro h i a b e f
       exact h i (by have:=(List.getElem?_eq_some_iff.mp f).1;lia) a b e f
      ·intro h j _ a b e f
       exact h j a b e f
     rw [e]
     exact this
   ·rw [Bool.eq_false_iff.mpr ha]
    try rw [if_pos (by simp)]
    repeat (walk_at "rl")
    have:=q H' sZ
    rw [show isClD (.tup ds)=(ds.all isLitD && incD ds) from rfl,Bool.eq_false_iff.mpr ha] at this
    exact this
 ·refine ⟨ty,ht,false,hk,?_⟩
  try rw [if_pos (by simp)]
  repeat (walk_at "rl")
  have:=q H (Same.refl H)
  rw [cl_no nd] at this
  exact this
end
local macro_rules | `(tactic| walk_at "rd") => `(tactic| walk_at "rc")
local macro_rules | `(tactic| walk_at "rl") => `(tactic| first | (refine seq_op fun R hR => ?_) | walk_at "ry" | (refine Nx.to (by assumption) _ _ ?_))
def spSpoilt (P:Program) (w:World):Sp:=fun vs H Q _=>∃h C,vs=[.ref h,.ref C]/\∃cl,∃X:Addr->Prop,HandAt H h/\X h/\(∀p,X p->H p≠none)/\ClAt H cl C/\Inc (cl.map (·.1))/\Nms cl/\1<=cl.length/\cl.length<=8/\
 ∀v d H',Dr h H H'->Rep P w X H' d v->(∀ds,d=.tup ds->ds.length<=700)->isClD d=false->Q v H'
theorem mid_rep {P:Program} {w:World} {X:Addr->Prop} {p:Addr} {H:Hp} {qs:List Addr} {cl:Cl} {a c:Nat} {Y:List V} {dX:List Dt} (l:Lits H qs cl) (n:Nms cl) (r:Reps P w X H dX Y) (hp:H p=some (.tup (List.map V.ref (qs.take a)++Y++List.map V.ref (qs.drop c)))) :
  Rep P w X H (.tup ((cl.map litD).take a++dX++(cl.map litD).drop c)) (.ref p):=by
 refine ⟨p,_,rfl,hp,?_⟩
 rw [List.map_take,List.map_drop]
 exact (((lits_rep l n).take a).append r).append ((lits_rep l n).drop c)
theorem mid_len {cl:Cl} {a c:Nat} {dX:List Dt} (h:cl.length<=8) (k:dX.length<=2):∀ds,Dt.tup ((cl.map litD).take a++dX++(cl.map litD).drop c)=.tup ds->ds.length<=700:=fun ds e=>by
 injection e with e
 rw [<-e,List.length_append,List.length_append,List.length_take,List.length_drop,List.length_map]
 omega
theorem no_len {d:Dt} (h:∀ds,d≠.tup ds):∀ds,d=.tup ds->ds.length<=700:=fun ds e=>absurd e (h ds)
theorem bad_sign {s:Str} {c:Nat} (h:c∈s.cps.toList) (n:¬(97<=c/\c<=122)):¬Nm s:=fun m=>n (m.2.2 c h)
theorem signs_bad:∀n:Nat,n < 68->∃c,(Str.ofString " !\"#$&'()*+,-./0123456789:;<=>?@ABCDEFGHIJKLMNOPQRSTUVWXYZ[\\]^_`{|}~").cps.toList[n]? = some c/\¬(97<=c/\c<=122):=by
 have h:∀n:Nat,n < 68->((Str.ofString " !\"#$&'()*+,-./0123456789:;<=>?@ABCDEFGHIJKLMNOPQRSTUVWXYZ[\\]^_`{|}~").cps.toList[n]?.map fun c=>decide (¬(97<=c/\c<=122)))=some true:=by decide +kernel
 intro n hn
 have:=h n hn
 cases e:(Str.ofString " !\"#$&'()*+,-./0123456789:;<=>?@ABCDEFGHIJKLMNOPQRSTUVWXYZ[\\]^_`{|}~").cps.toList[n]? with
 | none=>rw [e] at this;cases this
 | some c=>rw [e] at this;exact ⟨c,rfl,of_decide_eq_true (Option.some.inj this)⟩
theorem sign_at (i:Int) (h0:0<=i) (h:i < 68):∃c,atI (Str.ofString " !\"#$&'()*+,-./0123456789:;<=>?@ABCDEFGHIJKLMNOPQRSTUVWXYZ[\\]^_`{|}~").cps.toList i=some c/\¬(97<=c/\c<=122):=by
 obtain ⟨c,e,n⟩:=signs_bad i.toNat (by omega)
 refine ⟨c,?_,n⟩
 have:i=(i.toNat:Int):=by omega
 rw [this]
 exact atI_nat e
theorem if_or {c d:Prop} [Decidable c] [Decidable d] {X Y:Prop} (h1:X) (h2:¬c->¬d->Y):if c then X else if d then X else Y:=by
 split
 ·exact h1
 ·split
  ·exact h1
  ·exact h2 ‹_› ‹_›
def MidF (P:Program) (w:World) (X:Addr->Prop) (h:Addr) (cl:Cl) (a c:Nat) (H0 H':Hp) (Q':VK):Prop:=∀m Y dX H2,Dr h H0 H2->Tups H' H2->H2 m=some (.tup Y)->Reps P w X H2 dX Y->dX.length<=2->isClD (.tup ((cl.map litD).take a++dX++(cl.map litD).drop (a+c)))=false->Q' (.ref m) H2
theorem lit_one {P:Program} {w:World} {X:Addr->Prop} {h:Addr} {cl:Cl} {a c:Nat} {H0 H' H4:Hp} {Q':VK} {y:V} {d:Dt} (fin:MidF P w X h cl a c H0 H' Q') (D:Dr h H0 H4) (t:Tups H' H4) (r:Rep P w X H4 d y) (bad:isLitD d=false) :
  1<=sizeLine/\∀p,H4 p=none->Q' (.ref p) (upd H4 p (.tup [y])):=
 ⟨by decide,fun p hp=>fin p [y] [d] _ (D.new hp) (fun q xs e=>tups_new hp _ _ (t q xs e)) upd_same (Reps.one (r.mono (Kp.of (same_new hp _)))) (by simp) (bad_mid bad)⟩
theorem lit_two {P:Program} {w:World} {X:Addr->Prop} {h:Addr} {cl:Cl} {a c:Nat} {H0 H' H4:Hp} {Q':VK} {y1 y2:V} {d1 d2:Dt} (fin:MidF P w X h cl a c H0 H' Q') (D:Dr h H0 H4) (t:Tups H' H4) (r1:Rep P w X H4 d1 y1) (r2:Rep P w X H4 d2 y2) (bad:isLitD (.tup [d1,d2])=false) :
  2<=sizeLine/\∀p,H4 p=none->1<=sizeLine/\∀p',upd H4 p (.tup [y1,y2]) p'=none->Q' (.ref p') (upd (upd H4 p (.tup [y1,y2])) p' (.tup [.ref p])):=
 ⟨by decide,fun p hp=>lit_one fin (D.new hp) (fun q xs e=>tups_new hp _ _ (t q xs e)) (Rep.two upd_same (r1.mono (Kp.of (same_new hp _))) (r2.mono (Kp.of (same_new hp _)))) bad⟩
theorem cutV_from' (xs:List V) {k:Int} (hk:0<=k):cutV xs (some k) none=xs.drop k.toNat:=by
 have e:HT.sIx xs.length 0 (some k)=min k.toNat xs.length:=by
  show (if k < 0 then _ else min k.toNat xs.length)=_
  rw [if_neg (by omega)]
 have e0:HT.sIx xs.length xs.length none=xs.length:=rfl
 unfold cutV
 rw [e,e0,List.take_of_length_le (by rw [List.length_drop];omega)]
 rcases Nat.le_total k.toNat xs.length with h | h
 ·rw [Nat.min_eq_left h]
 ·rw [Nat.min_eq_right h,List.drop_of_length_le (Nat.le_refl _),List.drop_of_length_le h]
theorem mid_ret {P:Program} {w:World} {X:Addr->Prop} {h C:Addr} {a c:Nat} {qs:List Addr} {cl:Cl} {tM:TE} {R:St->Hp->Prop} {Q:VK} {σ:St} {H0 H:Hp} (hd:HandAt H0 h) (d:Dr h H0 H) (h1:σ[1]? = some (some (.ref C))) (h2:σ[2]? = some (some (.int (a:Int))))
  (hC:H0 C=some (.tup (List.map V.ref qs))) (lits:Lits H0 qs cl) (nms:Nms cl) (ha:a < qs.length) (l8:cl.length<=8) (hc0:0 < c)
  (q:∀v d H',Dr h H0 H'->Rep P w X H' d v->(∀ds,d=.tup ds->ds.length<=700)->isClD d=false->Q v H')
  (hM:∀H' (Q':VK),Dr h H0 H'->Same H H'->MidF P w X h cl a c H0 H' Q'->tM σ H' Q') :
  tRet (tOp qCatT (tOp qCatT (tSl qSlT (tVar 1) tNoPart (tPart (tVar 2))) tM) (tSl qSlT (tVar 1) (tPart (tOp (rI0 fun i j=>V.int (i+j)) (tVar 2) (tC (V.int (c:Int))))) tNoPart)) { nx:=R,rt:=Q } σ H:=by
 have lq:=lits.1
 have hC1:=d.tups hd _ _ hC
 repeat (first | walk_at "ry" | simp only [h1,h2,hC1])
 have ct:cutV (List.map V.ref qs) none (some (a:Int))=List.map V.ref (qs.take a):=by rw [cutV_to _ (by omega),Int.toNat_natCast,List.map_take]
 have cd:cutV (List.map V.ref qs) (some ((a:Int)+(c:Int))) none=List.map V.ref (qs.drop (a+c)):=by rw [cutV_from' _ (by omega),show ((a:Int)+(c:Int)).toNat=a+c by omega,List.map_drop]
 have w1:¬(HT.sIx qs.length 0 none=0/\HT.sIx qs.length qs.length (some (a:Int))=qs.length):=fun z=>by
  have:=z.2
  rw [HT.sIx_nat] at this
  omega
 have w2:¬(HT.sIx (List.map V.ref qs).length 0 (some ((a:Int)+(c:Int)))=0/\HT.sIx (List.map V.ref qs).length (List.map V.ref qs).length none=(List.map V.ref qs).length):=fun z=>by
  have:=z.1
  rw [show (a:Int)+(c:Int)=((a+c:Nat):Int) by omega,HT.sIx_nat,List.length_map] at this
  omega
 refine ⟨w1,fun p hp=>?_⟩
 rw [ct]
 have dp:=d.new (o:=.tup (List.map V.ref (qs.take a))) hp
 refine hM _ _ dp (same_new hp _) fun m Y dX H2 d2 t2 hm rX lX bad=>?_
 have hp2:=t2 _ _ (upd_same (H:=H) (a:=p) (o:=.tup (List.map V.ref (qs.take a))))
 have lX':=rX.len
 refine ⟨m,rfl,_,hp2,_,hm,by rw [List.length_map,List.length_take];exact Nat.le_of_lt (small1000 (by omega)),fun p' H3 s3 _ hp3=>?_⟩
 have D3:=d2.same s3
 refine ⟨_,D3.tups hd _ _ hC,w2,fun p4 hp4=>?_⟩
 rw [cd]
 have D4:=D3.new (o:=.tup (List.map V.ref (qs.drop (a+c)))) hp4
 have s4:=same_new hp4 (.tup (List.map V.ref (qs.drop (a+c))))
 refine ⟨_,s4 _ _ hp3,by rw [List.length_append,List.length_map,List.length_map,List.length_take,List.length_drop];exact Nat.le_of_lt (small1000 (by omega)),fun p5 H5 s5 _ hp5=>?_⟩
 have D5:=D4.same s5
 exact q _ _ H5 D5 (mid_rep (lits.mono (D5.tups hd)) nms (rX.mono (Kp.of (s3.trans (s4.trans s5)))) hp5) (mid_len l8 lX) bad
section
variable {P:Program} {w:World} {K:PySem.W.Frag} {mg:Str->Option Value} {base:Heap} {t:Adr}
theorem ok_spoilt (T:Txt K mg t):FnOk P w K mg base CX0 4 t.a__law_spoilt t.d__law_spoilt ["_law_hand_here","_law_clause_here"] (spSpoilt P w):=by
 have G__law_draw:=ok_draw (P:=P) (w:=w) (base:=base) T
 refine T.F__law_spoilt.okZ sc__law_spoilt (fun vs H Q E h=>?_) (fun cdv A outer s H vs Q E hr h hc hf=>?_)
 ·obtain ⟨h,C,rfl,_⟩:=h;rfl
 obtain ⟨h,C,rfl,cl,X,hd,Xh,Xe,⟨qs,hC,lits⟩,inc,nms,l1,l8,q⟩:=h
 have nX:∀{p:Addr} {H':Hp},Dr h H H'->H' p=none->¬X p:=fun d hp hx=>Xe _ hx (d.free hd hp)
 have hu:=hu_of hr
 have hu0:=hr.units0
 have lq:=lits.1
 refine ⟨_,(by apply zqss_cons;exact (zpsk_set hc sc__law_spoilt.nd hf 2 (by decide +kernel) (zpe_call G__law_draw (hr.mono (by omega)) (glk hc (by decide +kernel)) T.m__law_draw T.F__law_draw.kp T.b__law_draw .nil pass0 (zpa_cons (zpvk hc 0 (by decide +kernel)) (zpa_cons (zpe_callB call_lenT (glk hc (by decide +kernel)) T.z_len b_len (zpa_cons (zpvk hc 1 (by decide +kernel)) zpa_nil)) zpa_nil))));apply zqss_cons;exact (zpsk_set hc sc__law_spoilt.nd hf 3 (by decide +kernel) (zpe_ix ix_t (zpvk hc 1 (by decide +kernel)) (zpvk hc 2 (by decide +kernel)) (fun _ _=>rfl)));apply zqss_cons;exact (zpsk_set hc sc__law_spoilt.nd hf 4 (by decide +kernel) (zpe_call G__law_draw (hr.mono (by omega)) (glk hc (by decide +kernel)) T.m__law_draw T.F__law_draw.kp T.b__law_draw .nil pass0 (zpa_cons (zpvk hc 0 (by decide +kernel)) (zpa_cons zpe_int zpa_nil))));apply zqss_cons;exact (zqs_if (zpt_cmpR op_eq (zpvk hc 4 (by decide +kernel)) zpe_int (nomark _)) (by exact zqss_one (zps_ret (zpe_ix ix_l (zpe_lst (zpa_cons (zpe_callTy call_listT (glk hc (by decide +kernel)) T.z_list b_list (zpa_cons (zpvk hc 1 (by decide +kernel)) zpa_nil)) (zpa_cons zpe_non (zpa_cons zpe_str (zpa_cons (zpe_dlitC hr.units (zpvk hc 1 (by decide +kernel)) zpe_bl) (zpa_cons (zpe_ix ix_t (zpe_ix ix_t (zpvk hc 1 (by decide +kernel)) zpe_int (fun _ _=>rfl)) zpe_int (fun _ _=>rfl)) (zpa_cons zpe_int (zpa_cons zpe_bl zpa_nil)))))))) (zpe_call G__law_draw (hr.mono (by omega)) (glk hc (by decide +kernel)) T.m__law_draw T.F__law_draw.kp T.b__law_draw .nil pass0 (zpa_cons (zpvk hc 0 (by decide +kernel)) (zpa_cons zpe_int zpa_nil))) (fun _ _=>rfl)))) zqss_nil);apply zqss_cons;exact (zqs_if (zpt_cmpR op_eq (zpvk hc 4 (by decide +kernel)) zpe_int (nomark _)) (by apply zqss_cons;exact (zpsk_set hc sc__law_spoilt.nd hf 5 (by decide +kernel) zpe_str);apply zqss_cons;exact (zpsk_set hc sc__law_spoilt.nd hf 6 (by decide +kernel) (zpe_call G__law_draw (hr.mono (by omega)) (glk hc (by decide +kernel)) T.m__law_draw T.F__law_draw.kp T.b__law_draw .nil pass0 (zpa_cons (zpvk hc 0 (by decide +kernel)) (zpa_cons (zpe_callB call_len_str (glk hc (by decide +kernel)) T.z_len b_len (zpa_cons (zpe_ix ix_t (zpvk hc 3 (by decide +kernel)) zpe_int (fun _ _=>rfl)) zpa_nil)) zpa_nil))));apply zqss_cons;exact (zpsk_set hc sc__law_spoilt.nd hf 7 (by decide +kernel) (zpe_op op_add_str (zpe_op op_add_str (zpe_slice sl_str (zpe_ix ix_t (zpvk hc 3 (by decide +kernel)) zpe_int (fun _ _=>rfl)) zpo_none (zpo_some (zpvk hc 6 (by decide +kernel)))) (zpe_ix ix_s (zpvk hc 5 (by decide +kernel)) (zpe_call G__law_draw (hr.mono (by omega)) (glk hc (by decide +kernel)) T.m__law_draw T.F__law_draw.kp T.b__law_draw .nil pass0 (zpa_cons (zpvk hc 0 (by decide +kernel)) (zpa_cons zpe_int zpa_nil))) (fun _ _=>rfl))) (zpe_slice sl_str (zpe_ix ix_t (zpvk hc 3 (by decide +kernel)) zpe_int (fun _ _=>rfl)) (zpo_some (zpe_op op_add (zpvk hc 6 (by decide +kernel)) zpe_int)) zpo_none)));apply zqss_cons;exact (zpsk_set hc sc__law_spoilt.nd hf 8 (by decide +kernel) (zpe_lst (zpa_cons zpe_str (zpa_cons (zpe_op op_add_str (zpe_ix ix_t (zpvk hc 3 (by decide +kernel)) zpe_int (fun _ _=>rfl)) zpe_str) (zpa_cons (zpvk hc 7 (by decide +kernel)) (zpa_cons (zpvk hc 7 (by decide +kernel)) (zpa_cons (zpvk hc 7 (by decide +kernel)) (zpa_cons (zpvk hc 7 (by decide +kernel)) (zpa_cons zpe_int (zpa_cons zpe_non (zpa_cons (zpe_tup (zpa_cons zpe_str zpa_nil)) (zpa_cons (zpe_lst (zpa_cons zpe_str zpa_nil)) (zpa_cons zpe_dnewK zpa_nil)))))))))))));exact zqss_one (zps_ret (zpe_op op_catTQ (zpe_op op_catTQ (zpe_slice sl_t (zpvk hc 1 (by decide +kernel)) zpo_none (zpo_some (zpvk hc 2 (by decide +kernel)))) (zpe_tup (zpa_cons (zpe_tup (zpa_cons (zpe_ix ix_l (zpvk hc 8 (by decide +kernel)) (zpe_call G__law_draw (hr.mono (by omega)) (glk hc (by decide +kernel)) T.m__law_draw T.F__law_draw.kp T.b__law_draw .nil pass0 (zpa_cons (zpvk hc 0 (by decide +kernel)) (zpa_cons zpe_int zpa_nil))) (fun _ _=>rfl)) (zpa_cons (zpe_ix ix_t (zpvk hc 3 (by decide +kernel)) zpe_int (fun _ _=>rfl)) zpa_nil))) zpa_nil))) (zpe_slice sl_t (zpvk hc 1 (by decide +kernel)) (zpo_some (zpe_op op_add (zpvk hc 2 (by decide +kernel)) zpe_int)) zpo_none)))) zqss_nil);apply zqss_cons;exact (zqs_if (zpt_cmpR op_eq (zpvk hc 4 (by decide +kernel)) zpe_int (nomark _)) (by apply zqss_cons;exact (zpsk_set hc sc__law_spoilt.nd hf 9 (by decide +kernel) (zpe_lst (zpa_cons zpe_int (zpa_cons zpe_int (zpa_cons zpe_non (zpa_cons zpe_str (zpa_cons (zpe_lst zpa_nil) (zpa_cons (zpe_un un_neg zpe_int) zpa_nil))))))));exact zqss_one (zps_ret (zpe_op op_catTQ (zpe_op op_catTQ (zpe_slice sl_t (zpvk hc 1 (by decide +kernel)) zpo_none (zpo_some (zpvk hc 2 (by decide +kernel)))) (zpe_tup (zpa_cons (zpe_tup (zpa_cons (zpe_ix ix_t (zpvk hc 3 (by decide +kernel)) zpe_int (fun _ _=>rfl)) (zpa_cons (zpe_ix ix_l (zpvk hc 9 (by decide +kernel)) (zpe_call G__law_draw (hr.mono (by omega)) (glk hc (by decide +kernel)) T.m__law_draw T.F__law_draw.kp T.b__law_draw .nil pass0 (zpa_cons (zpvk hc 0 (by decide +kernel)) (zpa_cons zpe_int zpa_nil))) (fun _ _=>rfl)) zpa_nil))) zpa_nil))) (zpe_slice sl_t (zpvk hc 1 (by decide +kernel)) (zpo_some (zpe_op op_add (zpvk hc 2 (by decide +kernel)) zpe_int)) zpo_none)))) zqss_nil);apply zqss_cons;exact (zqs_if (zPWpt (zpw_or (zpt_cmpR op_eq (zpvk hc 4 (by decide +kernel)) zpe_int (nomark _)) (zpw_or1 (zpt_cmpR op_eq (zpe_op op_add (zpvk hc 2 (by decide +kernel)) zpe_int) (zpe_callB call_lenT (glk hc (by decide +kernel)) T.z_len b_len (zpa_cons (zpvk hc 1 (by decide +kernel)) zpa_nil)) (nomark _))))) (by apply zqss_cons;exact (zpsk_set hc sc__law_spoilt.nd hf 10 (by decide +kernel) (zpe_lst (zpa_cons (zpe_lst (zpa_cons (zpe_ix ix_t (zpvk hc 3 (by decide +kernel)) zpe_int (fun _ _=>rfl)) (zpa_cons (zpe_ix ix_t (zpvk hc 3 (by decide +kernel)) zpe_int (fun _ _=>rfl)) zpa_nil))) (zpa_cons (zpe_tup (zpa_cons (zpe_ix ix_t (zpvk hc 3 (by decide +kernel)) zpe_int (fun _ _=>rfl)) zpa_nil)) (zpa_cons (zpe_op op_catTQ (zpvk hc 3 (by decide +kernel)) (zpe_tup (zpa_cons zpe_bl zpa_nil))) (zpa_cons (zpe_ix ix_t (zpvk hc 3 (by decide +kernel)) zpe_int (fun _ _=>rfl)) (zpa_cons zpe_non (zpa_cons zpe_dnewK (zpa_cons (zpe_tup (zpa_cons (zpvk hc 3 (by decide +kernel)) zpa_nil)) zpa_nil)))))))));exact zqss_one (zps_ret (zpe_op op_catTQ (zpe_op op_catTQ (zpe_slice sl_t (zpvk hc 1 (by decide +kernel)) zpo_none (zpo_some (zpvk hc 2 (by decide +kernel)))) (zpe_tup (zpa_cons (zpe_ix ix_l (zpvk hc 10 (by decide +kernel)) (zpe_call G__law_draw (hr.mono (by omega)) (glk hc (by decide +kernel)) T.m__law_draw T.F__law_draw.kp T.b__law_draw .nil pass0 (zpa_cons (zpvk hc 0 (by decide +kernel)) (zpa_cons zpe_int zpa_nil))) (fun _ _=>rfl)) zpa_nil))) (zpe_slice sl_t (zpvk hc 1 (by decide +kernel)) (zpo_some (zpe_op op_add (zpvk hc 2 (by decide +kernel)) zpe_int)) zpo_none)))) zqss_nil);apply zqss_cons;exact (zpsk_set hc sc__law_spoilt.nd hf 11 (by decide +kernel) (zpe_lst (zpa_cons (zpe_tup (zpa_cons (zpe_ix ix_t (zpvk hc 1 (by decide +kernel)) (zpe_op op_add (zpvk hc 2 (by decide +kernel)) zpe_int) (fun _ _=>rfl)) (zpa_cons (zpvk hc 3 (by decide +kernel)) zpa_nil))) (zpa_cons (zpe_tup (zpa_cons (zpvk hc 3 (by decide +kernel)) (zpa_cons (zpvk hc 3 (by decide +kernel)) zpa_nil))) (zpa_cons (zpe_tup (zpa_cons (zpvk hc 3 (by decide +kernel)) (zpa_cons (zpe_tup (zpa_cons (zpe_ix ix_t (zpvk hc 3 (by decide +kernel)) zpe_int (fun _ _=>rfl)) (zpa_cons (zpe_not (zpe_ix ix_t (zpvk hc 3 (by decide +kernel)) zpe_int (fun _ _=>rfl))) zpa_nil))) zpa_nil))) (zpa_cons (zpe_tup (zpa_cons (zpe_tup (zpa_cons (zpe_ix ix_t (zpvk hc 3 (by decide +kernel)) zpe_int (fun _ _=>rfl)) (zpa_cons (zpe_not (zpe_ix ix_t (zpvk hc 3 (by decide +kernel)) zpe_int (fun _ _=>rfl))) zpa_nil))) (zpa_cons (zpvk hc 3 (by decide +kernel)) zpa_nil))) zpa_nil))))));exact zqss_one (zps_ret (zpe_op op_catTQ (zpe_op op_catTQ (zpe_slice sl_t (zpvk hc 1 (by decide +kernel)) zpo_none (zpo_some (zpvk hc 2 (by decide +kernel)))) (zpe_ix ix_l (zpvk hc 11 (by decide +kernel)) (zpe_call G__law_draw (hr.mono (by omega)) (glk hc (by decide +kernel)) T.m__law_draw T.F__law_draw.kp T.b__law_draw .nil pass0 (zpa_cons (zpvk hc 0 (by decide +kernel)) (zpa_cons zpe_int zpa_nil))) (fun _ _=>rfl))) (zpe_slice sl_t (zpvk hc 1 (by decide +kernel)) (zpo_some (zpe_op op_add (zpvk hc 2 (by decide +kernel)) zpe_int)) zpo_none)))),?_⟩
 repeat (first | walk_at "rl" | simp only [hC])
 refine draw_by hd Dr.refl (by omega) (by omega) fun at0 H1 a0 a1 d1 k1=>?_
 have t1:Tups H H1:=d1.tups hd
 have hC1:=t1 _ _ hC
 obtain ⟨a,rfl⟩:∃a:Nat,at0=(a:Int):=⟨at0.toNat,by omega⟩
 have ha:a < qs.length:=by omega
 have eq0:qs[a]? = some qs[a]:=List.getElem?_eq_getElem ha
 obtain ⟨x,b,ex,hx⟩:=lits.at eq0
 have hx1:=t1 _ _ hx
 have nmx:Nm x:=nms (x,b) (List.mem_of_getElem? ex)
 have x1:=nmx.1
 have x8:=nmx.2.1
 have aq:atI (List.map V.ref qs) (a:Int)=some (.ref qs[a]):=atI_nat (by rw [List.getElem?_map,eq0];rfl)
 repeat (first | walk_at "rl" | simp only [hC1,aq])
 refine draw_by hd d1 (by decide) (by decide) fun way H2 w0 w5 d2 k2=>?_
 have t2:Tups H H2:=d2.tups hd
 have hC2:=t2 _ _ hC
 have hx2:=t2 _ _ hx
 have lits2:=lits.mono t2
 generalize qs[a]=qa at eq0 hx hx1 hx2 aq
 have a0q:∃q0 x0 b0,atI (List.map V.ref qs) 0=some (.ref q0)/\H q0=some (.tup [.str x0,.bl b0])/\Nm x0:=by
  have e0:qs[0]? = some (qs[0]'(by omega)):=List.getElem?_eq_getElem (by omega)
  obtain ⟨x0,b0,ex0,hx0⟩:=lits.at e0
  exact ⟨_,x0,b0,atI_nat (j:=0) (by rw [List.getElem?_map,e0];rfl),hx0,nms (x0,b0) (List.mem_of_getElem? ex0)⟩
 repeat (first | walk_at "rl" | simp only [hC2])
 split
 ·obtain ⟨q0,x0,b0,aq0,hq0,nm0⟩:=a0q
  have hq02:=t2 _ _ hq0
  intro L hL
  have sL:=same_new hL (.lst (List.map V.ref qs))
  have dL:=d2.new (o:=.lst (List.map V.ref qs)) hL
  have nL:L≠h:=(d2.handAt hd).ne hL
  have xL:=nX d2 hL
  have eL:upd H2 L (.lst (List.map V.ref qs)) L=some (.lst (List.map V.ref qs)):=upd_same
  generalize upd H2 L (.lst (List.map V.ref qs))=G1 at sL dL eL ⊢
  intro p hp
  have np:p≠h:=(dL.handAt hd).ne hp
  have xP:=nX dL hp
  have sP:=same_new hp (DCl P w p [(cl,C)])
  have sP0:=same_new hp (DCl P w p [])
  have dP:=dL.new (o:=DCl P w p [(cl,C)]) hp
  refine ⟨cl,⟨qs,sP0 _ _ (sL _ _ hC2),lits2.mono (tups_of (sL.trans sP0))⟩,_,sP _ _ (sL _ _ hC2),_,aq0,q0,rfl,_,sP _ _ (sL _ _ hq02),_,rfl,by decide,fun M hM=>?_⟩
  have hM':upd G1 p (DCl P w p [(cl,C)]) M=none:=hM
  have nM:M≠h:=(dP.handAt hd).ne hM'
  have sM:=same_new hM' (.lst [V.ref L,V.non,V.str (Str.ofString "is a"),V.ref p,V.str x0,V.int 7,V.bl true])
  have dM:=dP.new (o:=.lst [V.ref L,V.non,V.str (Str.ofString "is a"),V.ref p,V.str x0,V.int 7,V.bl true]) hM'
  refine draw_by hd dM (by decide) (by decide) fun i H3 i0 i7 d3 k3=>?_
  have eM:H3 M=some (.lst [V.ref L,V.non,V.str (Str.ofString "is a"),V.ref p,V.str x0,V.int 7,V.bl true]):=by rw [k3 M nM];exact upd_same
  have eL3:H3 L=some (.lst (List.map V.ref qs)):=by rw [k3 L nL];exact sM _ _ (sP _ _ eL)
  have eP3:H3 p=some (DCl P w p [(cl,C)]):=by rw [k3 p np];exact sM _ _ upd_same
  have hi:i=0\/i=1\/i=2\/i=3\/i=4\/i=5\/i=6:=by omega
  rcases hi with rfl | rfl | rfl | rfl | rfl | rfl | rfl
  ·exact ⟨_,rfl,_,eM,_,rfl,q _ .lst H3 d3 ⟨L,_,rfl,xL,eL3⟩ (no_len fun _ z=>nomatch z) rfl⟩
  ·exact ⟨_,rfl,_,eM,_,rfl,q _ .non H3 d3 rfl (no_len fun _ z=>nomatch z) rfl⟩
  ·exact ⟨_,rfl,_,eM,_,rfl,q _ (.str _) H3 d3 ⟨rfl,by decide⟩ (no_len fun _ z=>nomatch z) rfl⟩
  ·exact ⟨_,rfl,_,eM,_,rfl,q _ .oth H3 d3 ⟨p,_,rfl,xP,eP3⟩ (no_len fun _ z=>nomatch z) rfl⟩
  ·exact ⟨_,rfl,_,eM,_,rfl,q _ (.str _) H3 d3 ⟨rfl,Nat.le_trans nm0.2.1 (by decide)⟩ (no_len fun _ z=>nomatch z) rfl⟩
  ·exact ⟨_,rfl,_,eM,_,rfl,q _ (.int _) H3 d3 rfl (no_len fun _ z=>nomatch z) rfl⟩
  ·exact ⟨_,rfl,_,eM,_,rfl,q _ (.bl _) H3 d3 rfl (no_len fun _ z=>nomatch z) rfl⟩
 ·repeat (first | walk_at "rl" | simp only [hx2])
  split
  ·repeat (first | walk_at "rl" | simp only [hx2])
   refine ⟨small1000' (by omega),draw_by hd d2 (by omega) (by omega) fun sp H3 s0 s8 d3 k3=>?_⟩
   have hx3:=d3.tups hd _ _ hx
   repeat (first | walk_at "rl" | simp only [hx3])
   refine ⟨small1000' (by omega),draw_by hd d3 (by decide) (by decide) fun i H4 i0 i68 D4 k4=>⟨i,rfl,by decide +kernel,?_⟩⟩
   obtain ⟨c,ec,nc⟩:=sign_at i i0 i68
   have lc:(⟨#[c]⟩:Str).length=1:=rfl
   have hx4:=D4.tups hd _ _ hx
   have e1:(cutS x none (some sp)).cps.toList=x.cps.toList.take sp.toNat:=cutS_to x s0
   have e2:(cutS x (some (sp+1)) none).cps.toList=x.cps.toList.drop (sp+1).toNat:=cutS_from x (by omega)
   have lx:=len_cps x
   have l1':(cutS x none (some sp)).length<=8:=by rw [<-len_cps,e1,List.length_take];omega
   have l2':(cutS x (some (sp+1)) none).length<=8:=by rw [<-len_cps,e2,List.length_drop];omega
   have la:=Str.length_append (cutS x none (some sp)) ⟨#[c]⟩
   refine ⟨c,ec,small1000' (by omega),_,hx4,_,rfl,_,rfl,small1000' (by omega),small1000' (by omega),?_⟩
   have nb:¬Nm (cutS x none (some sp) ++ ⟨#[c]⟩++cutS x (some (sp+1)) none):=bad_sign (c:=c) (by rw [app_cps,app_cps];simp) nc
   have mb:(cutS x none (some sp) ++ ⟨#[c]⟩++cutS x (some (sp+1)) none).length<=100:=by rw [Str.length_append,la];omega
   generalize cutS x none (some sp) ++ ⟨#[c]⟩++cutS x (some (sp+1)) none=B at nb mb ⊢
   have l8a:(Str.ofString "abcdefgh").length=8:=by decide +kernel
   repeat (first | walk_at "rl" | simp only [hx4])
   refine ⟨small1000' (by omega),by decide,fun p0 hp0=>?_⟩
   have na:¬Nm (x++Str.ofString "abcdefgh"):=fun m=>by have:=m.2.1;rw [Str.length_append] at this;omega
   have ma:(x++Str.ofString "abcdefgh").length<=100:=by rw [Str.length_append];omega
   generalize x++Str.ofString "abcdefgh" = A1 at na ma ⊢
   have D0:=D4.new (o:=.tup [V.str (Str.ofString "a")]) hp0
   have e0:upd H4 p0 (.tup [V.str (Str.ofString "a")]) p0=some (.tup [V.str (Str.ofString "a")]):=upd_same
   generalize upd H4 p0 (.tup [V.str (Str.ofString "a")])=G0 at D0 e0 ⊢
   refine ⟨by decide,fun p1 hp1=>?_⟩
   have n1:p1≠h:=(D0.handAt hd).ne hp1
   have m1:=nX D0 hp1
   have s1':=same_new hp1 (.lst [V.str (Str.ofString "a")])
   have D1:=D0.new (o:=.lst [V.str (Str.ofString "a")]) hp1
   have f1:upd G0 p1 (.lst [V.str (Str.ofString "a")]) p1=some (.lst [V.str (Str.ofString "a")]):=upd_same
   replace e0:=s1' _ _ e0
   generalize upd G0 p1 (.lst [V.str (Str.ofString "a")])=G1 at D1 e0 f1 ⊢
   intro p2 hp2
   have n2:p2≠h:=(D1.handAt hd).ne hp2
   have m2:=nX D1 hp2
   have s2':=same_new hp2 (.dK [])
   have D2:=D1.new (o:=.dK []) hp2
   have f2:upd G1 p2 (.dK []) p2=some (.dK []):=upd_same
   replace e0:=s2' _ _ e0
   replace f1:=s2' _ _ f1
   generalize upd G1 p2 (.dK [])=G2 at D2 e0 f1 f2 ⊢
   refine ⟨by decide,fun p3 hp3=>?_⟩
   have n3:p3≠h:=(D2.handAt hd).ne hp3
   have s3':=same_new hp3 (.lst [V.str (Str.ofString ""),V.str A1,V.str B,V.str B,V.str B,V.str B,V.int 7,V.non,V.ref p0,V.ref p1,V.ref p2])
   have D3:=D2.new (o:=.lst [V.str (Str.ofString ""),V.str A1,V.str B,V.str B,V.str B,V.str B,V.int 7,V.non,V.ref p0,V.ref p1,V.ref p2]) hp3
   have f3:upd G2 p3 (.lst [V.str (Str.ofString ""),V.str A1,V.str B,V.str B,V.str B,V.str B,V.int 7,V.non,V.ref p0,V.ref p1,V.ref p2]) p3=some (.lst [V.str (Str.ofString ""),V.str A1,V.str B,V.str B,V.str B,V.str B,V.int 7,V.non,V.ref p0,V.ref p1,V.ref p2]):=upd_same
   replace e0:=s3' _ _ e0
   replace f1:=s3' _ _ f1
   replace f2:=s3' _ _ f2
   generalize upd G2 p3 (.lst [V.str (Str.ofString ""),V.str A1,V.str B,V.str B,V.str B,V.str B,V.int 7,V.non,V.ref p0,V.ref p1,V.ref p2])=G3 at D3 e0 f1 f2 f3 ⊢
   refine Nx.to (by assumption) _ _ ?_
   refine mid_ret (a:=a) (c:=1) hd D3 rfl rfl hC lits nms ha l8 (by decide) q fun H' Q' dr' ss fin=>?_
   have hx':=dr'.tups hd _ _ hx
   have f3':=ss _ _ f3
   repeat (first | walk_at "ry" | simp only [hx',f3'])
   refine draw_by hd dr' (by decide) (by decide) fun i H5 i0 i11 D5 k5=>?_
   have t5:Tups H' H5:=fun q' ys e=>by rw [k5 q' ((dr'.handAt hd).ntup e)];exact e
   have g3:=f3'
   rw [<-k5 p3 n3] at g3
   have g0:=t5 _ _ (ss _ _ e0)
   have g1:=ss _ _ f1
   rw [<-k5 p1 n1] at g1
   have g2:=ss _ _ f2
   rw [<-k5 p2 n2] at g2
   have hx5:=t5 _ _ hx'
   have rb:Rep P w X H5 (.bl b) (.bl b):=rfl
   have hi:i=0\/i=1\/i=2\/i=3\/i=4\/i=5\/i=6\/i=7\/i=8\/i=9\/i=10:=by omega
   rcases hi with rfl | rfl | rfl | rfl | rfl | rfl | rfl | rfl | rfl | rfl | rfl
   ·exact ⟨_,rfl,_,g3,_,rfl,_,hx5,_,rfl,lit_two (d1:=.str _) fin D5 t5 ⟨rfl,by decide⟩ rb (show decide (Nm (Str.ofString ""))=false from decide_eq_false fun m=>absurd m.1 (by decide))⟩
   ·exact ⟨_,rfl,_,g3,_,rfl,_,hx5,_,rfl,lit_two (d1:=.str _) fin D5 t5 ⟨rfl,ma⟩ rb (decide_eq_false na)⟩
   ·exact ⟨_,rfl,_,g3,_,rfl,_,hx5,_,rfl,lit_two (d1:=.str _) fin D5 t5 ⟨rfl,mb⟩ rb (decide_eq_false nb)⟩
   ·exact ⟨_,rfl,_,g3,_,rfl,_,hx5,_,rfl,lit_two (d1:=.str _) fin D5 t5 ⟨rfl,mb⟩ rb (decide_eq_false nb)⟩
   ·exact ⟨_,rfl,_,g3,_,rfl,_,hx5,_,rfl,lit_two (d1:=.str _) fin D5 t5 ⟨rfl,mb⟩ rb (decide_eq_false nb)⟩
   ·exact ⟨_,rfl,_,g3,_,rfl,_,hx5,_,rfl,lit_two (d1:=.str _) fin D5 t5 ⟨rfl,mb⟩ rb (decide_eq_false nb)⟩
   ·exact ⟨_,rfl,_,g3,_,rfl,_,hx5,_,rfl,lit_two (d1:=.int 7) fin D5 t5 rfl rb rfl⟩
   ·exact ⟨_,rfl,_,g3,_,rfl,_,hx5,_,rfl,lit_two (d1:=.non) fin D5 t5 rfl rb rfl⟩
   ·exact ⟨_,rfl,_,g3,_,rfl,_,hx5,_,rfl,lit_two (d1:=.tup [.str (Str.ofString "a")]) fin D5 t5 ⟨p0,_,rfl,g0,Reps.one ⟨rfl,by decide⟩⟩ rb rfl⟩
   ·exact ⟨_,rfl,_,g3,_,rfl,_,hx5,_,rfl,lit_two (d1:=.lst) fin D5 t5 ⟨p1,_,rfl,m1,g1⟩ rb rfl⟩
   ·exact ⟨_,rfl,_,g3,_,rfl,_,hx5,_,rfl,lit_two (d1:=.dct) fin D5 t5 ⟨p2,rfl,m2,g2⟩ rb rfl⟩
  ·repeat (first | walk_at "rl" | simp only [hx2])
   split
   ·repeat (first | walk_at "rl" | simp only [hx2])
    refine ⟨by decide,fun p0 hp0=>?_⟩
    have n0:p0≠h:=(d2.handAt hd).ne hp0
    have m0:=nX d2 hp0
    have D0:=d2.new (o:=.lst []) hp0
    have e0:upd H2 p0 (.lst []) p0=some (.lst []):=upd_same
    generalize upd H2 p0 (.lst [])=G0 at D0 e0 ⊢
    refine ⟨by decide,fun p1 hp1=>?_⟩
    have n1:p1≠h:=(D0.handAt hd).ne hp1
    have s1':=same_new hp1 (.lst [V.int 1,V.int 0,V.non,V.str (Str.ofString "True"),V.ref p0,V.int (-1)])
    have D1:=D0.new (o:=.lst [V.int 1,V.int 0,V.non,V.str (Str.ofString "True"),V.ref p0,V.int (-1)]) hp1
    have e1:upd G0 p1 (.lst [V.int 1,V.int 0,V.non,V.str (Str.ofString "True"),V.ref p0,V.int (-1)]) p1=some (.lst [V.int 1,V.int 0,V.non,V.str (Str.ofString "True"),V.ref p0,V.int (-1)]):=upd_same
    replace e0:=s1' _ _ e0
    generalize upd G0 p1 (.lst [V.int 1,V.int 0,V.non,V.str (Str.ofString "True"),V.ref p0,V.int (-1)])=G1 at D1 e0 e1 ⊢
    refine Nx.to (by assumption) _ _ ?_
    refine mid_ret (a:=a) (c:=1) hd D1 rfl rfl hC lits nms ha l8 (by decide) q fun H' Q' dr' ss fin=>?_
    have hx':=dr'.tups hd _ _ hx
    have e0':=ss _ _ e0
    have e1':=ss _ _ e1
    repeat (first | walk_at "ry" | simp only [hx',e1'])
    refine draw_by hd dr' (by decide) (by decide) fun i H4 i0 i6 D4 k4=>?_
    have t4:Tups H' H4:=fun q' ys e=>by rw [k4 q' ((dr'.handAt hd).ntup e)];exact e
    have e14:H4 p1=some (.lst [V.int 1,V.int 0,V.non,V.str (Str.ofString "True"),V.ref p0,V.int (-1)]):=by rw [k4 p1 n1];exact e1'
    have e04:H4 p0=some (.lst []):=by rw [k4 p0 n0];exact e0'
    have rx:Rep P w X H4 (.str x) (.str x):=⟨rfl,by omega⟩
    have hi:i=0\/i=1\/i=2\/i=3\/i=4\/i=5:=by omega
    rcases hi with rfl | rfl | rfl | rfl | rfl | rfl
    ·exact ⟨_,rfl,_,e14,_,rfl,lit_two (d2:=.int 1) fin D4 t4 rx rfl rfl⟩
    ·exact ⟨_,rfl,_,e14,_,rfl,lit_two (d2:=.int 0) fin D4 t4 rx rfl rfl⟩
    ·exact ⟨_,rfl,_,e14,_,rfl,lit_two (d2:=.non) fin D4 t4 rx rfl rfl⟩
    ·exact ⟨_,rfl,_,e14,_,rfl,lit_two (d2:=.str _) fin D4 t4 rx ⟨rfl,by decide⟩ rfl⟩
    ·exact ⟨_,rfl,_,e14,_,rfl,lit_two (d2:=.lst) fin D4 t4 rx ⟨p0,_,rfl,m0,e04⟩ rfl⟩
    ·exact ⟨_,rfl,_,e14,_,rfl,lit_two (d2:=.int (-1)) fin D4 t4 rx rfl rfl⟩
   ·repeat (first | walk_at "rl" | simp only [hx2,hC2])
    refine if_or ?_ fun z1 z2=>?_
    ·repeat (first | walk_at "rl" | simp only [hx2])
     refine ⟨by decide,fun p0 hp0=>?_⟩
     have n0:p0≠h:=(d2.handAt hd).ne hp0
     have m0:=nX d2 hp0
     have s0:=same_new hp0 (.lst [V.str x,V.bl b])
     have D0:=d2.new (o:=.lst [V.str x,V.bl b]) hp0
     have e0:upd H2 p0 (.lst [V.str x,V.bl b]) p0=some (.lst [V.str x,V.bl b]):=upd_same
     generalize upd H2 p0 (.lst [V.str x,V.bl b])=G0 at s0 D0 e0 ⊢
     refine ⟨_,s0 _ _ hx2,_,rfl,by decide,fun p1 hp1=>?_⟩
     have s1:=same_new hp1 (.tup [V.str x])
     have D1:=D0.new (o:=.tup [V.str x]) hp1
     have e1:upd G0 p1 (.tup [V.str x]) p1=some (.tup [V.str x]):=upd_same
     generalize upd G0 p1 (.tup [V.str x])=G1 at s1 D1 e1 ⊢
     refine ⟨by decide,fun p2 hp2=>?_⟩
     have s2:=same_new hp2 (.tup [V.bl true])
     have D2:=D1.new (o:=.tup [V.bl true]) hp2
     generalize upd G1 p2 (.tup [V.bl true])=G2 at s2 D2 ⊢
     have s02:=s0.trans (s1.trans s2)
     refine ⟨_,s02 _ _ hx2,by show 3<=sizeLine;decide,fun p3 G3 s3 _ hp3=>?_⟩
     have s03:=s02.trans s3
     have D3:=D2.same s3
     refine ⟨_,s03 _ _ hx2,_,rfl,fun p4 hp4=>?_⟩
     have n4:p4≠h:=(D3.handAt hd).ne hp4
     have m4:=nX D3 hp4
     have s4:=same_new hp4 (.dK [])
     have D4:=D3.new (o:=.dK []) hp4
     have e4:upd G3 p4 (.dK []) p4=some (.dK []):=upd_same
     generalize upd G3 p4 (.dK [])=G4 at s4 D4 e4 ⊢
     refine ⟨by decide,fun p5 hp5=>?_⟩
     have s5:=same_new hp5 (.tup [V.ref qa])
     have D5:=D4.new (o:=.tup [V.ref qa]) hp5
     have e5:upd G4 p5 (.tup [V.ref qa]) p5=some (.tup [V.ref qa]):=upd_same
     generalize upd G4 p5 (.tup [V.ref qa])=G5 at s5 D5 e5 ⊢
     refine ⟨by decide,fun p6 hp6=>?_⟩
     have n6:p6≠h:=(D5.handAt hd).ne hp6
     have s6:=same_new hp6 (.lst [V.ref p0,V.ref p1,V.ref p3,V.str x,V.non,V.ref p4,V.ref p5])
     have D6:=D5.new (o:=.lst [V.ref p0,V.ref p1,V.ref p3,V.str x,V.non,V.ref p4,V.ref p5]) hp6
     have e6:upd G5 p6 (.lst [V.ref p0,V.ref p1,V.ref p3,V.str x,V.non,V.ref p4,V.ref p5]) p6=some (.lst [V.ref p0,V.ref p1,V.ref p3,V.str x,V.non,V.ref p4,V.ref p5]):=upd_same
     generalize upd G5 p6 (.lst [V.ref p0,V.ref p1,V.ref p3,V.str x,V.non,V.ref p4,V.ref p5])=G6 at s6 D6 e6 ⊢
     have s46:=s4.trans (s5.trans s6)
     refine Nx.to (by assumption) _ _ ?_
     refine mid_ret (a:=a) (c:=1) hd D6 rfl rfl hC lits nms ha l8 (by decide) q fun H' Q' dr' ss fin=>?_
     have g6:=ss _ _ e6
     repeat (first | walk_at "ry" | simp only [g6])
     refine draw_by hd dr' (by decide) (by decide) fun i H7 i0 i7 D7 k7=>?_
     have t7:Tups H' H7:=fun q' ys e=>by rw [k7 q' ((dr'.handAt hd).ntup e)];exact e
     rw [<-k7 p6 n6] at g6
     have g0:=ss _ _ (s46 _ _ (s3 _ _ (s2 _ _ (s1 _ _ e0))))
     rw [<-k7 p0 n0] at g0
     have g1:=t7 _ _ (ss _ _ (s46 _ _ (s3 _ _ (s2 _ _ e1))))
     have g3:=t7 _ _ (ss _ _ (s46 _ _ hp3))
     have g4:=ss _ _ (s6 _ _ (s5 _ _ e4))
     rw [<-k7 p4 n4] at g4
     have g5:=t7 _ _ (ss _ _ (s6 _ _ e5))
     have hx7:=t7 _ _ (dr'.tups hd _ _ hx)
     have rx:Rep P w X H7 (.str x) (.str x):=⟨rfl,by omega⟩
     have hi:i=0\/i=1\/i=2\/i=3\/i=4\/i=5\/i=6:=by omega
     rcases hi with rfl | rfl | rfl | rfl | rfl | rfl | rfl
     ·exact ⟨_,rfl,_,g6,_,rfl,lit_one (d:=.lst) fin D7 t7 ⟨p0,_,rfl,m0,g0⟩ rfl⟩
     ·exact ⟨_,rfl,_,g6,_,rfl,lit_one (d:=.tup [.str x]) fin D7 t7 ⟨p1,_,rfl,g1,Reps.one rx⟩ rfl⟩
     ·exact ⟨_,rfl,_,g6,_,rfl,lit_one (d:=.tup [.str x,.bl b,.bl true]) fin D7 t7 ⟨p3,_,rfl,g3,_,_,rfl,rx,_,_,rfl,rfl,_,_,rfl,rfl,rfl⟩ rfl⟩
     ·exact ⟨_,rfl,_,g6,_,rfl,lit_one (d:=.str x) fin D7 t7 rx rfl⟩
     ·exact ⟨_,rfl,_,g6,_,rfl,lit_one (d:=.non) fin D7 t7 rfl rfl⟩
     ·exact ⟨_,rfl,_,g6,_,rfl,lit_one (d:=.dct) fin D7 t7 ⟨p4,rfl,m4,g4⟩ rfl⟩
     ·exact ⟨_,rfl,_,g6,_,rfl,lit_one (d:=.tup [litD (x,b)]) fin D7 t7 ⟨p5,_,rfl,g5,Reps.one (Rep.two hx7 rx rfl)⟩ rfl⟩
    ·have a2:a+1 < qs.length:=by omega
     have eq1:qs[a+1]? = some (qs[a+1]'a2):=List.getElem?_eq_getElem a2
     obtain ⟨x',b',ex',hx'0⟩:=lits.at eq1
     have nmx':Nm x':=nms (x',b') (List.mem_of_getElem? ex')
     have x8':=nmx'.2.1
     have aq1:atI (List.map V.ref qs) ((a:Int)+1)=some (.ref (qs[a+1]'a2)):=atI_nat (j:=a+1) (by rw [List.getElem?_map,eq1];rfl)
     have lt:x.cps.toList < x'.cps.toList:=by
      obtain ⟨j1,g1⟩:=List.getElem?_eq_some_iff.mp ex
      obtain ⟨j2,g2⟩:=List.getElem?_eq_some_iff.mp ex'
      have:=List.pairwise_iff_getElem.mp inc a (a+1) (by rw [List.length_map];exact j1) (by rw [List.length_map];exact j2) (Nat.lt_succ_self a)
      rw [List.getElem_map,List.getElem_map,g1,g2] at this
      exact this
     generalize qs[a+1]'a2=qb at eq1 hx'0 aq1
     repeat (first | walk_at "rl" | simp only [hx2,hC2,aq1])
     refine ⟨by decide,fun p0 hp0=>?_⟩
     have s0:=same_new hp0 (.tup [V.ref qb,V.ref qa])
     have D0:=d2.new (o:=.tup [V.ref qb,V.ref qa]) hp0
     have e0:upd H2 p0 (.tup [V.ref qb,V.ref qa]) p0=some (.tup [V.ref qb,V.ref qa]):=upd_same
     generalize upd H2 p0 (.tup [V.ref qb,V.ref qa])=G0 at s0 D0 e0 ⊢
     refine ⟨by decide,fun p1 hp1=>?_⟩
     have s1:=same_new hp1 (.tup [V.ref qa,V.ref qa])
     have D1:=D0.new (o:=.tup [V.ref qa,V.ref qa]) hp1
     have e1:upd G0 p1 (.tup [V.ref qa,V.ref qa]) p1=some (.tup [V.ref qa,V.ref qa]):=upd_same
     generalize upd G0 p1 (.tup [V.ref qa,V.ref qa])=G1 at s1 D1 e1 ⊢
     have hxA:=s1 _ _ (s0 _ _ hx2)
     refine ⟨_,hxA,_,rfl,_,hxA,_,rfl,_,rfl,by decide,fun p2 hp2=>?_⟩
     have s2:=same_new hp2 (.tup [V.str x,V.bl !b])
     have D2:=D1.new (o:=.tup [V.str x,V.bl !b]) hp2
     have e2:upd G1 p2 (.tup [V.str x,V.bl !b]) p2=some (.tup [V.str x,V.bl !b]):=upd_same
     generalize upd G1 p2 (.tup [V.str x,V.bl !b])=G2 at s2 D2 e2 ⊢
     refine ⟨by decide,fun p3 hp3=>?_⟩
     have s3:=same_new hp3 (.tup [V.ref qa,V.ref p2])
     have D3:=D2.new (o:=.tup [V.ref qa,V.ref p2]) hp3
     have e3:upd G2 p3 (.tup [V.ref qa,V.ref p2]) p3=some (.tup [V.ref qa,V.ref p2]):=upd_same
     generalize upd G2 p3 (.tup [V.ref qa,V.ref p2])=G3 at s3 D3 e3 ⊢
     have hxB:=s3 _ _ (s2 _ _ hxA)
     refine ⟨_,hxB,_,rfl,_,hxB,_,rfl,_,rfl,by decide,fun p4 hp4=>?_⟩
     have s4:=same_new hp4 (.tup [V.str x,V.bl !b])
     have D4:=D3.new (o:=.tup [V.str x,V.bl !b]) hp4
     have e4:upd G3 p4 (.tup [V.str x,V.bl !b]) p4=some (.tup [V.str x,V.bl !b]):=upd_same
     generalize upd G3 p4 (.tup [V.str x,V.bl !b])=G4 at s4 D4 e4 ⊢
     refine ⟨by decide,fun p5 hp5=>?_⟩
     have s5:=same_new hp5 (.tup [V.ref p4,V.ref qa])
     have D5:=D4.new (o:=.tup [V.ref p4,V.ref qa]) hp5
     have e5:upd G4 p5 (.tup [V.ref p4,V.ref qa]) p5=some (.tup [V.ref p4,V.ref qa]):=upd_same
     generalize upd G4 p5 (.tup [V.ref p4,V.ref qa])=G5 at s5 D5 e5 ⊢
     refine ⟨by decide,fun p6 hp6=>?_⟩
     have n6:p6≠h:=(D5.handAt hd).ne hp6
     have s6:=same_new hp6 (.lst [V.ref p0,V.ref p1,V.ref p3,V.ref p5])
     have D6:=D5.new (o:=.lst [V.ref p0,V.ref p1,V.ref p3,V.ref p5]) hp6
     have e6:upd G5 p6 (.lst [V.ref p0,V.ref p1,V.ref p3,V.ref p5]) p6=some (.lst [V.ref p0,V.ref p1,V.ref p3,V.ref p5]):=upd_same
     generalize upd G5 p6 (.lst [V.ref p0,V.ref p1,V.ref p3,V.ref p5])=G6 at s6 D6 e6 ⊢
     refine Nx.to (by assumption) _ _ ?_
     refine mid_ret (a:=a) (c:=2) hd D6 rfl rfl hC lits nms ha l8 (by decide) q fun H' Q' dr' ss fin=>?_
     have g6:=ss _ _ e6
     repeat (first | walk_at "ry" | simp only [g6])
     refine draw_by hd dr' (by decide) (by decide) fun i H7 i0 i7 D7 k7=>?_
     have t7:Tups H' H7:=fun q' ys e=>by rw [k7 q' ((dr'.handAt hd).ntup e)];exact e
     rw [<-k7 p6 n6] at g6
     have up:∀{G:Hp} {q':Addr} {ys:List V},Same G G6->G q'=some (.tup ys)->H7 q'=some (.tup ys):=fun sm e=>t7 _ _ (ss _ _ (sm _ _ e))
     have s56:=s5.trans s6
     have s36:=s3.trans (s4.trans s56)
     have ra:Rep P w X H7 (litD (x,b)) (.ref qa):=Rep.two (D7.tups hd _ _ hx) ⟨rfl,Nat.le_trans (by assumption) (by decide:8<=100)⟩ rfl
     have rb:Rep P w X H7 (litD (x',b')) (.ref qb):=Rep.two (D7.tups hd _ _ hx'0) ⟨rfl,Nat.le_trans (by assumption) (by decide:8<=100)⟩ rfl
     have rn2:Rep P w X H7 (litD (x,!b)) (.ref p2):=Rep.two (up s36 e2) ⟨rfl,Nat.le_trans (by assumption) (by decide:8<=100)⟩ rfl
     have rn4:Rep P w X H7 (litD (x,!b)) (.ref p4):=Rep.two (up s56 e4) ⟨rfl,Nat.le_trans (by assumption) (by decide:8<=100)⟩ rfl
     have two:∀{u v:V} {d e:Dt},Rep P w X H7 d u->Rep P w X H7 e v->Reps P w X H7 [d,e] [u,v]:=fun r r'=>⟨_,_,rfl,r,_,_,rfl,r',rfl⟩
     have irr:¬x.cps.toList < x.cps.toList:=List.lt_irrefl _
     have hi:i=0\/i=1\/i=2\/i=3:=by omega
     rcases hi with rfl | rfl | rfl | rfl
     ·exact ⟨_,rfl,_,g6,_,rfl,fin _ _ _ H7 D7 t7 (up (s1.trans (s2.trans s36)) e0) (two rb ra) (by simp) (bad_two (fun z=>irr (List.lt_trans lt z)))⟩
     ·exact ⟨_,rfl,_,g6,_,rfl,fin _ _ _ H7 D7 t7 (up (s2.trans s36) e1) (two ra ra) (by simp) (bad_two irr)⟩
     ·exact ⟨_,rfl,_,g6,_,rfl,fin _ _ _ H7 D7 t7 (up (s4.trans s56) e3) (two ra rn2) (by simp) (bad_two irr)⟩
     ·exact ⟨_,rfl,_,g6,_,rfl,fin _ _ _ H7 D7 t7 (up s6 e5) (two rn4 ra) (by simp) (bad_two irr)⟩
end
local macro_rules | `(tactic| walk_at "rd") => `(tactic| walk_at "rc")
local macro_rules | `(tactic| walk_at "rl") => `(tactic| first | (refine seq_op fun R hR => ?_) | walk_at "ry" | (refine Nx.to (by assumption) _ _ ?_))
def wn (k:Nat):Str:=(⟨#[97+k / 26]⟩:Str) ++ ⟨#[97+k % 26]⟩
theorem wn_cps (k:Nat):(wn k).cps.toList=[97+k / 26,97+k % 26]:=by unfold wn;rw [app_cps];rfl
theorem wn_nm {k:Nat} (h:k < 676):Nm (wn k):=nm_of (wn_cps k) (by simp) (by simp) fun c hc=>by
 simp only [List.mem_cons,List.not_mem_nil,or_false] at hc
 rcases hc with rfl | rfl <;> omega
theorem wn_lt {j k:Nat} (h:j < k) (hk:k < 676):(wn j).cps.toList < (wn k).cps.toList:=by
 rw [wn_cps,wn_cps,List.cons_lt_cons_iff,List.cons_lt_cons_iff]
 by_cases e:j / 26=k / 26
 ·exact .inr ⟨by rw [e],.inl (by omega)⟩
 ·exact .inl (by omega)
theorem wide_inc {cl:Cl} (hl:cl.length<=676) (h:∀(j:Nat) x,cl[j]? = some x->x.1=wn j):Inc (cl.map (·.1))/\Nms cl:=by
 constructor
 ·refine List.pairwise_iff_getElem.mpr fun i j hi hj hij=>?_
  rw [List.length_map] at hi hj
  rw [List.getElem_map,List.getElem_map,h i _ (List.getElem?_eq_getElem hi),h j _ (List.getElem?_eq_getElem hj)]
  exact wn_lt hij (by omega)
 ·intro x hx
  obtain ⟨j,hj⟩:=List.getElem?_of_mem hx
  rw [h j x hj]
  exact wn_nm (by have:=(List.getElem?_eq_some_iff.mp hj).1;omega)
def spLaw (K:PySem.W.Frag):Sp:=fun vs H Q _=>∃(a:Addr) (ns:List Int),vs=[.ref a]/\SqL K H a (List.map V.int ns)/\ns.length<=63/\∀H',Q (.bl true) H'
def GB (P:Program) (w:World) (X:Addr->Prop) (H:Hp) (c:Bool) (v:V):Prop:=∃d,Rep P w X H d v/\(∀ds,d=.tup ds->ds.length<=700)/\isClD d=c
theorem GB.mono {P:Program} {w:World} {X:Addr->Prop} {H H':Hp} {c:Bool} {v:V} (g:GB P w X H c v) (k:Kp X H H'):GB P w X H' c v:=let ⟨d,r,l,e⟩:=g;⟨d,r.mono k,l,e⟩
theorem GB.cl {P:Program} {w:World} {X:Addr->Prop} {C:Addr} {H:Hp} {cl:Cl} (c:ClAt H cl C) (i:Inc (cl.map (·.1))) (n:Nms cl) (l:cl.length<=700):GB P w X H true (.ref C):=⟨_,cl_rep c n,fun ds e=>by injection e with e;rw [<-e,List.length_map];exact l,cl_good i n⟩
def GT (H:Hp) (C:Addr):Prop:=∃cl,ClAt H cl C/\Inc (cl.map (·.1))/\Nms cl/\cl.length<=700
theorem GT.mono {H H':Hp} {C:Addr} (g:GT H C) (k:Tups H H'):GT H' C:=let ⟨cl,a,b,c,d⟩:=g;⟨cl,a.mono k,b,c,d⟩
def AskAt (P:Program) (w:World) (X:Addr->Prop) (H0 H:Hp) (y:V):Prop:=∃p u c,y=.ref p/\H p=some (.tup [u,.bl c])/\GB P w X H0 c u
theorem AskAt.mono {P:Program} {w:World} {X:Addr->Prop} {H0 H H':Hp} {y:V} (g:AskAt P w X H0 H y) (k:Tups H H'):AskAt P w X H0 H' y:=let ⟨p,u,c,a,b,d⟩:=g;⟨p,u,c,a,k _ _ b,d⟩
theorem comp_ask {P:Program} {w:World} {X:Addr->Prop} {K:PySem.W.Frag} {G:Addr} {us:List V} {c:Bool} {σ:St} {H0 H1:Hp} {Q:VK} (s01:Same H0 H1) (hG:H1 G=some (.lst us)) (hu:∀u∈us,GB P w X H0 c u) (hl:us.length<=100)
  (q:∀Z ys H',Same H1 H'->H1 Z=none->H' Z=some (.lst ys)->ys.length=us.length->(∀y∈ys,AskAt P w X H0 H' y)->Q (.ref Z) H') :
  CompAll (Itl K G) 1 [] (fun _=>gName 0) (fun _=>tYes) (fun _=>tTup (tCons (tVar 0) (tCons (tC (V.bl c)) tNil))) σ Q H1:=by
 obtain ⟨Pc,hPc⟩:∃Pc:Addr->Nat->List V->Hp->Prop,∀Z i ys H',Pc Z i ys H'↔Same H1 H'/\H' Z=some (.lst ys)/\ys.length=i/\∀y∈ys,AskAt P w X H0 H' y:=⟨_,fun _ _ _ _=>Iff.rfl⟩
 refine compAll_list (zs:=us) Pc (fun Z hZ=>(hPc _ _ _ _).mpr ⟨same_new hZ _,upd_same,rfl,fun _ z=>nomatch z⟩) (fun Z hZ i ys H' _ pc=>?_) (fun Z hZ i z ys H' hz pc cb=>?_) (fun Z hZ ys H' pc=>?_)
 ·exact ((hPc _ _ _ _).mp pc).1 _ _ hG
 ·obtain ⟨sZ,hZZ,ly,al⟩:=(hPc _ _ _ _).mp pc
  have hi:i < us.length:=(List.getElem?_eq_some_iff.mp hz).1
  walk_at "rc"
  repeat (walk_at "ry")
  refine ⟨by decide,fun p hp=>?_⟩
  have sp:=same_new hp (.tup [z,V.bl c])
  have hZp:=sp _ _ hZZ
  have tp:=tups_put (o:=.lst (ys++[V.ref p])) hZp
  refine ⟨hZp,small1000 (by omega),(hPc _ _ _ _).mpr ⟨same_put' (sZ.trans sp) hZ,upd_same,by simp [ly],fun y hy=>?_⟩⟩
  rcases List.mem_append.mp hy with e | e
  ·exact ((al y e).mono (tups_of sp)).mono tp
  ·rw [List.mem_singleton.mp e]
   exact ⟨p,z,c,rfl,tp _ _ upd_same,hu z (List.mem_of_getElem? hz)⟩
 ·obtain ⟨sZ,hZZ,ly,al⟩:=(hPc _ _ _ _).mp pc
  exact q Z ys H' sZ hZ hZZ ly al
section
variable {P:Program} {w:World} {K:PySem.W.Frag} {mg:Str->Option Value} {base:Heap} {t:Adr}
theorem ok_law (T:Txt K mg t):FnOk P w K mg base CX0 5 t.a_law t.d_law ["_law_script"] (spLaw K):=by
 have G__law_draw:=ok_draw (P:=P) (w:=w) (base:=base) T
 have G__law_hand:=ok_hand (P:=P) (w:=w) (base:=base) T
 have G__law_names:=ok_names (P:=P) (w:=w) (base:=base) T
 have G__law_clause:=ok_clause (P:=P) (w:=w) (base:=base) T
 have G__law_spoilt:=ok_spoilt (P:=P) (w:=w) (base:=base) T
 have G_is_clause:=ok_isClD (P:=P) (w:=w) (base:=base) T
 refine T.F_law.okZ sc_law (fun vs H Q E h=>?_) (fun cdv A outer s H vs Q E hr h hc hf=>?_)
 ·obtain ⟨a,ns,rfl,_⟩:=h;rfl
 obtain ⟨a,ns,rfl,hS,h63,q⟩:=h
 have hu:=hu_of hr
 have hu0:=hr.units0
 refine ⟨_,(by apply zqss_cons;exact (zpsk_set hc sc_law.nd hf 1 (by decide +kernel) (zpe_call G__law_hand (hr.mono (by omega)) (glk hc (by decide +kernel)) T.m__law_hand T.F__law_hand.kp T.b__law_hand .nil pass0 (zpa_cons (zpvk hc 0 (by decide +kernel)) zpa_nil)));apply zqss_cons;exact (zpsk_set hc sc_law.nd hf 2 (by decide +kernel) (zpe_call G__law_names (hr.mono (by omega)) (glk hc (by decide +kernel)) T.m__law_names T.F__law_names.kp T.b__law_names .nil pass0 (zpa_cons (zpvk hc 1 (by decide +kernel)) (zpa_cons zpe_int zpa_nil))));apply zqss_cons;exact (zpsk_set hc sc_law.nd hf 3 (by decide +kernel) (zpe_lst (zpa_cons (zpe_tup zpa_nil) (zpa_cons (zpe_call G__law_clause (hr.mono (by omega)) (glk hc (by decide +kernel)) T.m__law_clause T.F__law_clause.kp T.b__law_clause .nil pass0 (zpa_cons (zpvk hc 1 (by decide +kernel)) (zpa_cons (zpvk hc 2 (by decide +kernel)) zpa_nil))) (zpa_cons (zpe_call G__law_clause (hr.mono (by omega)) (glk hc (by decide +kernel)) T.m__law_clause T.F__law_clause.kp T.b__law_clause .nil pass0 (zpa_cons (zpvk hc 1 (by decide +kernel)) (zpa_cons (zpe_slice sl_l (zpvk hc 2 (by decide +kernel)) zpo_none (zpo_some zpe_int)) zpa_nil))) zpa_nil)))));apply zqss_cons;exact (zpsk_set hc sc_law.nd hf 4 (by decide +kernel) zpe_str);apply zqss_cons;exact (zpsk_set hc sc_law.nd hf 5 (by decide +kernel) (zpe_call G__law_draw (hr.mono (by omega)) (glk hc (by decide +kernel)) T.m__law_draw T.F__law_draw.kp T.b__law_draw .nil pass0 (zpa_cons (zpvk hc 1 (by decide +kernel)) (zpa_cons zpe_int zpa_nil))));apply zqss_cons;exact (zps_expr (zpe_bm PySem.F.plainAttrs_list PySem.F.slot_list_append PySem.F.type_list_append mt_append (zpvk hc 3 (by decide +kernel)) (zpa_cons (zpe_callTy call_tupleL (glk hc (by decide +kernel)) T.z_tuple b_tuple (zpa_cons (zpek_comp hc ["_law_k"] [4,5] rfl (by decide +kernel) (zpi_range1 (glk hc (by decide +kernel)) T.z_range (zpa_cons (zpvk hc 5 (by decide +kernel)) zpa_nil)) (fun _ hc=>zpgb hc (by decide +kernel) 0 (by decide +kernel)) (fun _ _=>zpifs_nil) (fun _ hc=>(zpe_tup (zpa_cons (zpe_op op_add_str (zpe_ix ix_s (zpvk hc 1 (by decide +kernel)) (zpe_op op_fdiv (zpvk hc 0 (by decide +kernel)) zpe_int) (fun _ _=>rfl)) (zpe_ix ix_s (zpvk hc 1 (by decide +kernel)) (zpe_op op_mod (zpvk hc 0 (by decide +kernel)) zpe_int) (fun _ _=>rfl))) (zpa_cons (zpe_cmpR op_eq (zpe_op op_mod (zpe_op op_mul (zpvk hc 0 (by decide +kernel)) (zpvk hc 2 (by decide +kernel))) zpe_int) zpe_int (nomark _)) zpa_nil))))) zpa_nil)) zpa_nil)));apply zqss_cons;exact (zpsk_set hc sc_law.nd hf 6 (by decide +kernel) (zpe_lst zpa_nil));apply zqss_cons;exact (zqs_for PassesOwn.never rfl (zpi_range1 (glk hc (by decide +kernel)) T.z_range (zpa_cons zpe_int zpa_nil)) (zpgk hc sc_law.nd hf 7 (by decide +kernel)) (by apply zqss_cons;exact (zpsk_set hc sc_law.nd hf 8 (by decide +kernel) (zpe_op op_add zpe_int (zpe_call G__law_draw (hr.mono (by omega)) (glk hc (by decide +kernel)) T.m__law_draw T.F__law_draw.kp T.b__law_draw .nil pass0 (zpa_cons (zpvk hc 1 (by decide +kernel)) (zpa_cons zpe_int zpa_nil)))));apply zqss_cons;exact (zpsk_set hc sc_law.nd hf 9 (by decide +kernel) (zpe_callTy call_tupleL (glk hc (by decide +kernel)) T.z_tuple b_tuple (zpa_cons (zpek_comp hc ["_law_name"] [1] rfl (by decide +kernel) (zpi_list (zpe_callB call_sortedS (glk hc (by decide +kernel)) T.z_sorted b_sorted (zpa_cons (zpe_slice sl_l (zpvk hc 2 (by decide +kernel)) zpo_none (zpo_some (zpvk hc 8 (by decide +kernel)))) zpa_nil))) (fun _ hc=>zpgb hc (by decide +kernel) 0 (by decide +kernel)) (fun _ _=>zpifs_nil) (fun _ hc=>(zpe_tup (zpa_cons (zpvk hc 0 (by decide +kernel)) (zpa_cons (zpe_cmpR op_eq (zpe_call G__law_draw (hr.mono (by omega)) (glk hc (by decide +kernel)) T.m__law_draw T.F__law_draw.kp T.b__law_draw .nil pass0 (zpa_cons (zpvk hc 1 (by decide +kernel)) (zpa_cons zpe_int zpa_nil))) zpe_int (nomark _)) zpa_nil))))) zpa_nil)));apply zqss_cons;exact (zps_expr (zpe_bm PySem.F.plainAttrs_list PySem.F.slot_list_append PySem.F.type_list_append mt_append (zpvk hc 3 (by decide +kernel)) (zpa_cons (zpvk hc 9 (by decide +kernel)) zpa_nil)));exact zqss_one (zps_expr (zpe_bm PySem.F.plainAttrs_list PySem.F.slot_list_append PySem.F.type_list_append mt_append (zpvk hc 6 (by decide +kernel)) (zpa_cons (zpe_call G__law_spoilt (hr.mono (by omega)) (glk hc (by decide +kernel)) T.m__law_spoilt T.F__law_spoilt.kp T.b__law_spoilt .nil pass0 (zpa_cons (zpvk hc 1 (by decide +kernel)) (zpa_cons (zpvk hc 9 (by decide +kernel)) zpa_nil))) zpa_nil)))));apply zqss_cons;exact (zpsk_set hc sc_law.nd hf 10 (by decide +kernel) (zpe_op op_cat (zpek_comp hc ["_law_thing"] [] rfl (by decide +kernel) (zpi_list (zpvk hc 3 (by decide +kernel))) (fun _ hc=>zpgb hc (by decide +kernel) 0 (by decide +kernel)) (fun _ _=>zpifs_nil) (fun _ hc=>(zpe_tup (zpa_cons (zpvk hc 0 (by decide +kernel)) (zpa_cons zpe_bl zpa_nil))))) (zpek_comp hc ["_law_thing"] [] rfl (by decide +kernel) (zpi_list (zpvk hc 6 (by decide +kernel))) (fun _ hc=>zpgb hc (by decide +kernel) 0 (by decide +kernel)) (fun _ _=>zpifs_nil) (fun _ hc=>(zpe_tup (zpa_cons (zpvk hc 0 (by decide +kernel)) (zpa_cons zpe_bl zpa_nil)))))));apply zqss_cut;exact (zqs_if (zpt_cmpR op_eq (zpe_call G__law_draw (hr.mono (by omega)) (glk hc (by decide +kernel)) T.m__law_draw T.F__law_draw.kp T.b__law_draw .nil pass0 (zpa_cons (zpvk hc 1 (by decide +kernel)) (zpa_cons zpe_int zpa_nil))) zpe_int (nomark _)) (by exact zqss_one (zpsk_set hc sc_law.nd hf 10 (by decide +kernel) (zpe_rev (zpvk hc 10 (by decide +kernel)) (zpe_un un_neg zpe_int)))) zqss_nil);apply zqss_cons;exact (zqs_for PassesOwn.never rfl (zpi_list (zpvk hc 10 (by decide +kernel))) (zpg_tup rfl (zpgs_cons (zpgk hc sc_law.nd hf 11 (by decide +kernel)) (zpgs_cons (zpgk hc sc_law.nd hf 12 (by decide +kernel)) zpgs_nil))) (by apply zqss_cons;exact (zpsk_set hc sc_law.nd hf 13 (by decide +kernel) (zpe_call G_is_clause (hr.mono (by omega)) (glk hc (by decide +kernel)) T.m_is_clause T.F_is_clause.kp T.b_is_clause .nil pass0 (zpa_cons (zpvk hc 11 (by decide +kernel)) zpa_nil)));exact zqss_one (zqs_if (zPWpt (zpw_or (zpt_not (zpt_val (zpe_callB call_isiC (glk hc (by decide +kernel)) T.z_isinstance b_isinstance (zpa_cons (zpvk hc 13 (by decide +kernel)) (zpa_cons (zpe_bltn (v:=V.ty "bool") (glk hc (by decide +kernel)) T.z_bool b_bool rfl) zpa_nil))))) (zpw_or1 (zpt_cmpR op_ne (zpvk hc 13 (by decide +kernel)) (zpvk hc 12 (by decide +kernel)) (nomark _))))) (by exact zqss_one (zps_ret zpe_bl)) zqss_nil)));exact zqss_one (zps_ret zpe_bl)),?_⟩
 repeat (walk_at "rl")
 refine ⟨a,ns,rfl,hS,fun h H1 s1 hh hd=>?_⟩
 repeat (walk_at "rl")
 refine ⟨h,_,rfl,by decide,by decide,hd,fun N ss H2 d2 hN hN2 ls nd nm=>?_⟩
 have hd2:=d2.handAt hd
 have hNh:=hd2.nstr hN2
 have l8:ss.length=8:=ls
 clear d2 hN hd hh s1
 repeat (walk_at "rl")
 refine ⟨by decide,fun e0 he0=>?_⟩
 have D0:=Dr.refl.new (h:=h) (o:=.tup []) he0
 have g0:ClAt (upd H2 e0 (.tup [])) [] e0:=⟨[],upd_same,Lits.nil⟩
 generalize upd H2 e0 (.tup [])=G0 at D0 g0 ⊢
 refine ⟨h,N,rfl,ss,D0.handAt hd2,D0.keep _ _ hNh hN2,by omega,nd,fun c1 G1 D1' hc1 ok1=>?_⟩
 have D1:=D0.trans D1'
 have hN1:=D1.keep _ _ hNh hN2
 repeat (first | walk_at "rl" | simp only [hN1])
 have nms:∀{cl:Cl},(∀x∈cl,x.1∈ss)->Nms cl:=fun hs x hx=>nm _ (hs x hx)
 have okG:∀{H':Hp} {C:Addr},ClOk H' ss C->GT H' C:=fun ⟨cl,c,i,hs,l⟩=>⟨cl,c,i,nms hs,by omega⟩
 intro S3 hS3
 have ct:∀{k:Int},0<=k->cutV (List.map V.str ss) none (some k)=List.map V.str (ss.take k.toNat):=fun hk=>by rw [cutV_to _ hk];exact List.map_take.symm
 rw [ct (by decide)]
 have D1s:=D1.new (o:=.lst (List.map V.str (ss.take (3:Int).toNat))) hS3
 refine ⟨h,S3,rfl,ss.take (3:Int).toNat,D1s.handAt hd2,upd_same,by rw [List.length_take];omega,nd.sublist (List.take_sublist ..),fun c2 G2 D2' hc2 ok2=>⟨by decide,fun G hG=>?_⟩⟩
 have D2:=D1s.trans D2'
 have nG:G≠h:=(D2.handAt hd2).ne hG
 have fG:H2 G=none:=D2.free hd2 hG
 have t01:Tups G0 G1:=D1'.tups (D0.handAt hd2)
 have t12:Tups G1 G2:=fun q' ys e=>D2'.tups (D1s.handAt hd2) _ _ (tups_new hS3 _ _ e)
 have sG:=same_new hG (.lst (List.map V.ref [e0,c1,c2]))
 have D3:=D2.new (o:=.lst (List.map V.ref [e0,c1,c2])) hG
 have eG:upd G2 G (.lst (List.map V.ref [e0,c1,c2])) G=some (.lst (List.map V.ref [e0,c1,c2])):=upd_same
 have gs3:∀v∈[e0,c1,c2],GT (upd G2 G (.lst (List.map V.ref [e0,c1,c2]))) v:=fun v hv=>by
  have t2G:=tups_of sG
  simp only [List.mem_cons,List.not_mem_nil,or_false] at hv
  rcases hv with rfl | rfl | rfl
  ·exact ⟨[],((g0.mono t01).mono t12).mono t2G,.nil,(fun _ z=>nomatch z),by decide⟩
  ·exact okG ((ok1.mono t12).mono t2G)
  ·exact okG ((ok2.sub fun x hx=>List.mem_of_mem_take hx).mono t2G)
 rw [show HO.lst [V.ref e0,V.ref c1,V.ref c2]=HO.lst (List.map V.ref [e0,c1,c2]) from rfl]
 generalize upd G2 G (.lst (List.map V.ref [e0,c1,c2]))=G3 at sG D3 eG gs3 ⊢
 clear D2 D2' D1s D1 D1' D0 t01 t12 ok1 ok2 g0 hN1 hS3 hc1 hc2 sG
 repeat (walk_at "rl")
 refine draw_by hd2 D3 (by decide) (by decide) fun wd G4 w0 w677 D4 k4=>?_
 have hd4:=D4.handAt hd2
 have t34:Tups G3 G4:=fun q' ys e=>by rw [k4 q' ((D3.handAt hd2).ntup e)];exact e
 have eG4:=eG
 rw [<-k4 G nG] at eG4
 have gs4:∀v∈[e0,c1,c2],GT G4 v:=fun v hv=>(gs3 v hv).mono t34
 repeat (first | walk_at "rl" | simp only [eG4])
 refine ⟨.inl ⟨rfl,_,sqL_of eG4⟩,by omega,by omega,?_⟩
 obtain ⟨Pc,hPc⟩:∃Pc:Addr->Nat->List V->Hp->Prop,∀Z i ys H',Pc Z i ys H'↔∃(rs:List Addr) (cl:Cl),ys=List.map V.ref rs/\Same G4 H'/\H' Z=some (.lst ys)/\Lits H' rs cl/\cl.length=i/\∀(j:Nat) x,cl[j]? = some x->x.1=wn j:=⟨_,fun _ _ _ _=>Iff.rfl⟩
 refine compAll_rng Pc (fun Z hZ=>(hPc _ _ _ _).mpr ⟨[],[],rfl,same_new hZ _,upd_same,Lits.nil,rfl,fun j x e=>by simp at e⟩) (fun Z hZ i ys H' hi pc cb=>?_) (fun Z hZ ys H' pc=>?_)
 ·obtain ⟨rs,cl,rfl,sZ,hZZ,lt,lcl,wns⟩:=(hPc _ _ _ _).mp pc
  have lrs:=lt.1
  have hi':i < 676:=by omega
  walk_at "rc"
  repeat (walk_at "rl")
  have d0:(0:Int)<=(i:Int) / 26:=by omega
  have d1:(i:Int) / 26 < 26:=by omega
  have m0:(0:Int)<=(i:Int) % 26:=by omega
  have m1:(i:Int) % 26 < 26:=by omega
  refine ⟨⟨by decide,by decide⟩,by decide,_,atI_letters d0 d1,by decide,_,atI_letters m0 m1,by show 1+1<=sizeLine;decide,.inl ⟨by omega,by omega⟩,by decide,fun p hp=>?_⟩
  have ew:(⟨#[97+((i:Int) / 26).toNat]⟩:Str) ++ ⟨#[97+((i:Int) % 26).toNat]⟩=wn i:=by
   unfold wn
   rw [show ((i:Int) / 26).toNat=i / 26 by omega,show ((i:Int) % 26).toNat=i % 26 by omega]
  rw [ew]
  have sp:=same_new hp (.tup [V.str (wn i),V.bl (decide ((i:Int) * wd % 3=0))])
  have hZp:=sp _ _ hZZ
  refine ⟨hZp,small1000 (by omega),(hPc _ _ _ _).mpr ⟨rs++[p],cl++[(wn i,decide ((i:Int) * wd % 3=0))],by simp,same_put' (sZ.trans sp) hZ,upd_same,?_,by simp [lcl],fun j x e=>?_⟩⟩
  ·exact ((lt.mono (tups_of sp)).snoc (show LitAt _ p (wn i,_) from upd_same)).mono (tups_put hZp)
  ·rcases Nat.lt_or_ge j cl.length with z | z
   ·rw [List.getElem?_append_left z] at e
    exact wns j x e
   ·have hj:=(List.getElem?_eq_some_iff.mp e).1
    rw [List.length_append,List.length_singleton] at hj
    have:j=i:=by omega
    subst this
    rw [List.getElem?_append_right (by omega),lcl,Nat.sub_self] at e
    cases e
    rfl
 obtain ⟨rs,cl,rfl,sZ,hZZ,lt,lcl,wns⟩:=(hPc _ _ _ _).mp pc
 have lcl':cl.length<=676:=by omega
 obtain ⟨winc,wnm⟩:=wide_inc lcl' wns
 refine ⟨Z,rfl,_,hZZ,fun W hW=>?_⟩
 have sW:=same_new hW (.tup (List.map V.ref rs))
 have D5:=(D4.same sZ).new (o:=.tup (List.map V.ref rs)) hW
 have s5:=sZ.trans sW
 have cW:GT (upd H' W (.tup (List.map V.ref rs))) W:=⟨cl,⟨rs,upd_same,lt.mono (tups_of sW)⟩,winc,wnm,by omega⟩
 generalize upd H' W (.tup (List.map V.ref rs))=G5 at sW D5 s5 cW ⊢
 have eG5:=s5 _ _ eG4
 refine ⟨_,eG5,small1000 (by simp),?_⟩
 have D6:=D5.put (o':=.lst (List.map V.ref [e0,c1,c2]++[V.ref W])) fG
 have eG6:upd G5 G (.lst (List.map V.ref [e0,c1,c2]++[V.ref W])) G=some (.lst (List.map V.ref [e0,c1,c2,W])):=upd_same
 have gs6:∀v∈[e0,c1,c2,W],GT (upd G5 G (.lst (List.map V.ref [e0,c1,c2]++[V.ref W]))) v:=fun v hv=>by
  have tp:=tups_put (o:=.lst (List.map V.ref [e0,c1,c2]++[V.ref W])) eG5
  simp only [List.mem_cons,List.not_mem_nil,or_false] at hv
  rcases hv with rfl | rfl | rfl | rfl
  ·exact ((gs4 _ (by simp)).mono (tups_of s5)).mono tp
  ·exact ((gs4 _ (by simp)).mono (tups_of s5)).mono tp
  ·exact ((gs4 _ (by simp)).mono (tups_of s5)).mono tp
  ·exact cW.mono tp
 generalize upd G5 G (.lst (List.map V.ref [e0,c1,c2]++[V.ref W]))=G6 at D6 eG6 gs6 ⊢
 clear hPc pc Pc gs4 gs3 cW sW s5 D5 eG5 lt hZZ sZ wns winc wnm k4 eG4 t34 D4 hd4
 repeat (walk_at "rl")
 refine ⟨by decide,fun B hB=>?_⟩
 have nB:B≠h:=(D6.handAt hd2).ne hB
 have fB:H2 B=none:=D6.free hd2 hB
 have nBG:B≠G:=fun z=>by rw [z,eG6] at hB;cases hB
 have D7:=D6.new (o:=.lst []) hB
 have sB:=same_new hB (.lst [])
 have eB:upd G6 B (.lst []) B=some (.lst []):=upd_same
 have eG7:=sB _ _ eG6
 have gs7:∀v∈[e0,c1,c2,W],GT (upd G6 B (.lst [])) v:=fun v hv=>(gs6 v hv).mono (tups_of sB)
 generalize upd G6 B (.lst [])=G7 at D7 sB eB eG7 gs7 ⊢
 repeat (walk_at "rl")
 obtain ⟨X,hX⟩:∃X:Addr->Prop,∀p,X p↔p=h\/p=G\/p=B:=⟨_,fun _=>Iff.rfl⟩
 have Xh:X h:=(hX _).mpr (.inl rfl)
 have kpG:∀{H':Hp} {o:HO} {xs:List V},H' G=some (.lst xs)->Kp X H' (upd H' G o):=fun e=>⟨tups_put e,fun p' o' n e'=>by rw [upd_ne fun z=>n ((hX _).mpr (.inr (.inl z)))];exact e'⟩
 have kpB:∀{H':Hp} {o:HO} {xs:List V},H' B=some (.lst xs)->Kp X H' (upd H' B o):=fun e=>⟨tups_put e,fun p' o' n e'=>by rw [upd_ne fun z=>n ((hX _).mpr (.inr (.inr z)))];exact e'⟩
 obtain ⟨Pv,hPv⟩:∃Pv:Nat->St->Hp->Prop,∀i σ' H',Pv i σ' H'↔∃(x1 x2 x3:Option V) (gs:List Addr) (bs:List V),σ'=[some (.ref a),some (.ref h),some (.ref N),some (.ref G),some (.str (Str.ofString "abcdefghijklmnopqrstuvwxyz")),some (.int wd),some (.ref B),x1,x2,x3,none,none,none,none]/\Dr h H2 H'/\H' G=some (.lst (List.map V.ref gs))/\(∀v∈gs,GT H' v)/\gs.length<=4+i/\H' B=some (.lst bs)/\(∀v∈bs,GB P w X H' false v)/\bs.length<=i:=⟨_,fun _ _ _=>Iff.rfl⟩
 refine forAll_rng Pv ((hPv _ _ _).mpr ⟨none,none,none,[e0,c1,c2,W],[],rfl,D7,eG7,gs7,by simp,eB,(fun _ z=>nomatch z),Nat.le_refl _⟩) (fun i σ' H8 hi pv=>?_) (fun σ' H8 pv=>?_)
 ·obtain ⟨x1,x2,x3,gs,bs,rfl,D8,eG8,gt8,lg,eB8,gb8,lb⟩:=(hPv _ _ _).mp pv
  have hi4:i < 4:=hi
  repeat (walk_at "rl")
  refine draw_by hd2 D8 (by decide) (by decide) fun m H9 m0 m8 D9 k9=>?_
  have hd9:=D9.handAt hd2
  have hN9:=D9.keep _ _ hNh hN2
  have kp89:Kp X H8 H9:=⟨fun q' ys e=>by rw [k9 q' ((D8.handAt hd2).ntup e)];exact e,fun q' o n e=>by rw [k9 q' fun z=>n (by rw [z];exact Xh)];exact e⟩
  have eG9:=eG8
  rw [<-k9 G nG] at eG9
  have eB9:=eB8
  rw [<-k9 B nB] at eB9
  have gt9:∀v∈gs,GT H9 v:=fun v hv=>(gt8 v hv).mono kp89.tup
  have gb9:∀v∈bs,GB P w X H9 false v:=fun v hv=>(gb8 v hv).mono kp89
  repeat (first | walk_at "rl" | simp only [hN9])
  intro S hS
  refine ⟨ss.take (1+m).toNat,ct (by omega),by rw [List.length_take];omega,fun ts pm srt S2 hS2=>?_⟩
  rw [ct (by omega)] at hS2 ⊢
  have lts:ts.length=(1+m).toNat:=by rw [pm.length_eq,List.length_take];omega
  have ndt:ts.Nodup:=pm.nodup_iff.mpr (nd.sublist (List.take_sublist ..))
  have inct:=inc_of srt ndt
  have DS:=D9.new (o:=.lst (List.map V.str (ss.take (1+m).toNat))) hS
  have DS2:=DS.new (o:=.lst (List.map V.str ts)) hS2
  have nS2:S2≠h:=(DS.handAt hd2).ne hS2
  have sa:=(same_new hS (.lst (List.map V.str (ss.take (1+m).toNat)))).trans (same_new hS2 (.lst (List.map V.str ts)))
  have eS2:upd (upd H9 S (.lst (List.map V.str (ss.take (1+m).toNat)))) S2 (.lst (List.map V.str ts)) S2=some (.lst (List.map V.str ts)):=upd_same
  generalize upd (upd H9 S (.lst (List.map V.str (ss.take (1+m).toNat)))) S2 (.lst (List.map V.str ts))=Ha at DS2 sa eS2 ⊢
  have hda:=DS2.handAt hd2
  refine ⟨⟨_,sqL_of eS2⟩,?_⟩
  obtain ⟨Pe,hPe⟩:∃Pe:Addr->Nat->List V->Hp->Prop,∀Z j ys H',Pe Z j ys H'↔∃(rs:List Addr) (cl:Cl),ys=List.map V.ref rs/\Dr h Ha H'/\H' Z=some (.lst ys)/\Lits H' rs cl/\cl.map (·.1)=ts.take j:=⟨_,fun _ _ _ _=>Iff.rfl⟩
  refine compAll_list (zs:=List.map V.str ts) Pe (fun Z hZ=>(hPe _ _ _ _).mpr ⟨[],[],rfl,Dr.refl.new hZ,upd_same,Lits.nil,rfl⟩) (fun Z hZ j ys H' _ pe=>?_) (fun Z hZ j z ys H' hz pe cb=>?_) (fun Z hZ ys H' pe=>?_)
  ·obtain ⟨_,_,_,d,_⟩:=(hPe _ _ _ _).mp pe
   exact d.keep _ _ nS2 eS2
  ·obtain ⟨rs,cl,rfl,dz,hZZ,lt,nmz⟩:=(hPe _ _ _ _).mp pe
   obtain ⟨n,en,rfl⟩:=str_at hz
   have hj:j < ts.length:=(List.getElem?_eq_some_iff.mp en).1
   have nZ:Z≠h:=hda.ne hZ
   have lrs:rs.length<=8:=by
    have h1:=lt.1
    have h2:=congrArg List.length nmz
    rw [List.length_map,List.length_take] at h2
    omega
   walk_at "rc"
   repeat (walk_at "rl")
   refine draw_by hda dz (by decide) (by decide) fun r Hb r0 r2 db kb=>?_
   repeat (walk_at "rl")
   refine ⟨by decide,fun p hp=>?_⟩
   have hZb:=hZZ
   rw [<-kb Z nZ] at hZb
   have sp:=same_new hp (.tup [V.str n,V.bl (decide (r=0))])
   have hZp:=sp _ _ hZb
   have ltb:Lits Hb rs cl:=lt.mono fun q' ys e=>by rw [kb q' ((dz.handAt hda).ntup e)];exact e
   refine ⟨hZp,small1000 (by omega),(hPe _ _ _ _).mpr ⟨rs++[p],cl++[(n,decide (r=0))],by simp,(db.new hp).put hZ,upd_same,?_,by rw [List.map_append,nmz,take_at en];rfl⟩⟩
   exact ((ltb.mono (tups_of sp)).snoc (show LitAt _ p (n,_) from upd_same)).mono (tups_put hZp)
  obtain ⟨rs,cl,rfl,dz,hZZ,lt,nmz⟩:=(hPe _ _ _ _).mp pe
  rw [List.length_map,List.take_length] at nmz
  have lcl:cl.length=ts.length:=by rw [<-nmz,List.length_map]
  have clI:Inc (cl.map (·.1)):=by rw [nmz];exact inct
  have clN:Nms cl:=fun x hx=>nm _ (List.mem_of_mem_take (pm.mem_iff.mp (by rw [<-nmz];exact List.mem_map.mpr ⟨x,hx,rfl⟩)))
  refine ⟨Z,rfl,_,hZZ,fun C hC=>?_⟩
  have D10:=DS2.trans dz
  have sC:=same_new hC (.tup (List.map V.ref rs))
  have D11:=D10.new (o:=.tup (List.map V.ref rs)) hC
  have cC:ClAt (upd H' C (.tup (List.map V.ref rs))) cl C:=⟨rs,upd_same,lt.mono (tups_of sC)⟩
  have kpC:Kp X H9 (upd H' C (.tup (List.map V.ref rs))):=((Kp.of sa).trans (Kp.dr hda Xh dz)).trans (Kp.of sC)
  have eG11:=sC _ _ (dz.keep _ _ nG (sa _ _ eG9))
  have eB11:=sC _ _ (dz.keep _ _ nB (sa _ _ eB9))
  generalize upd H' C (.tup (List.map V.ref rs))=Hc at sC D11 cC kpC eG11 eB11 ⊢
  clear hPe pe Pe dz hZZ lt hC D10 DS2 DS sa eS2 hda
  repeat (first | walk_at "rl" | simp only [eG11])
  refine ⟨.inl ⟨rfl,_,sqL_of eG11⟩,small1000 (by omega),?_⟩
  have kG:=kpG (o:=.lst (List.map V.ref gs++[V.ref C])) eG11
  have D12:=D11.put (o':=.lst (List.map V.ref gs++[V.ref C])) fG
  have eG12:upd Hc G (.lst (List.map V.ref gs++[V.ref C])) G=some (.lst (List.map V.ref (gs++[C]))):=by rw [upd_same,List.map_append];rfl
  have eB12:upd Hc G (.lst (List.map V.ref gs++[V.ref C])) B=some (.lst bs):=by rw [upd_ne nBG];exact eB11
  generalize upd Hc G (.lst (List.map V.ref gs++[V.ref C]))=Hd at kG D12 eG12 eB12 ⊢
  have cC12:=cC.mono kG.tup
  have hd12:=D12.handAt hd2
  repeat (first | walk_at "rl" | simp only [eB12])
  refine ⟨.inl ⟨rfl,_,sqL_of eB12⟩,?_⟩
  refine ⟨h,C,rfl,cl,X,hd12,Xh,(fun p hp=>?_),cC12,clI,clN,by omega,by omega,fun v d He De rep ld bad=>?_⟩
  ·rcases (hX p).mp hp with rfl | rfl | rfl
   ·obtain ⟨l,ns,oh,e1,_,_⟩:=hd12;rw [e1];intro z;cases z
   ·rw [eG12];intro z;cases z
   ·rw [eB12];intro z;cases z
  have kpe:Kp X Hd He:=Kp.dr hd12 Xh De
  have eBe:=De.keep _ _ nB eB12
  have eGe:=De.keep _ _ nG eG12
  refine ⟨_,eBe,small1000 (by omega),?_⟩
  have kB:=kpB (o:=.lst (bs++[v])) eBe
  have kall:=((kpC.trans kG).trans kpe).trans kB
  refine (hPv _ _ _).mpr ⟨_,_,_,gs++[C],bs++[v],rfl,(D12.trans De).put fB,by rw [upd_ne nBG.symm];exact eGe,fun u hu'=>?_,by simp;omega,upd_same,fun u hu'=>?_,by simp;omega⟩
  ·rcases List.mem_append.mp hu' with z | z
   ·exact (gt9 u z).mono kall.tup
   ·rw [List.mem_singleton.mp z]
    exact ⟨cl,(cC12.mono kpe.tup).mono kB.tup,clI,clN,by omega⟩
  ·rcases List.mem_append.mp hu' with z | z
   ·exact (gb9 u z).mono kall
   ·rw [List.mem_singleton.mp z]
    exact ⟨d,rep.mono kB,ld,bad⟩
 ·obtain ⟨x1,x2,x3,gs,bs,rfl,D8,eG8,gt8,lg,eB8,gb8,lb⟩:=(hPv _ _ _).mp pv
  repeat (walk_at "rl")
  refine ⟨⟨_,sqL_of eG8⟩,comp_ask (P:=P) (w:=w) (X:=X) (H0:=H8) (fun _ _ z=>z) eG8 (fun u hu'=>?_) (by rw [List.length_map];omega) fun Z1 ys1 H9 s9 hZ1 eZ1 ly1 al1=>?_⟩
  ·obtain ⟨C,hC,rfl⟩:=List.mem_map.mp hu'
   obtain ⟨cl,c,i,n,l⟩:=gt8 C hC
   exact GB.cl c i n l
  refine ⟨⟨_,sqL_of (s9 _ _ eB8)⟩,comp_ask (P:=P) (w:=w) (X:=X) (H0:=H8) s9 (s9 _ _ eB8) gb8 (by omega) fun Z2 ys2 H10 s10 hZ2 eZ2 ly2 al2=>?_⟩
  rw [List.length_map] at ly1
  have s8a:=s9.trans s10
  refine ⟨Z1,rfl,Z2,rfl,_,s10 _ _ eZ1,_,eZ2,Nat.le_of_lt (small1000 (by omega)),fun L hL=>?_⟩
  have sL:=same_new hL (.lst (ys1++ys2))
  have nL:L≠h:=((D8.same s8a).handAt hd2).ne hL
  have D11:=(D8.same s8a).new (o:=.lst (ys1++ys2)) hL
  have eL:upd H10 L (.lst (ys1++ys2)) L=some (.lst (ys1++ys2)):=upd_same
  have alL:∀y∈ys1++ys2,AskAt P w X H8 (upd H10 L (.lst (ys1++ys2))) y:=fun y hy=>by
   rcases List.mem_append.mp hy with e | e
   ·exact ((al1 y e).mono (tups_of s10)).mono (tups_of sL)
   ·exact (al2 y e).mono (tups_of sL)
  have s8L:=s8a.trans sL
  have lL:(ys1++ys2).length<=100:=by rw [List.length_append];omega
  generalize upd H10 L (.lst (ys1++ys2))=H11 at sL D11 eL alL s8L ⊢
  generalize ys1++ys2=ys at eL alL lL
  repeat (walk_at "rl")
  obtain ⟨N1,hN1⟩:∃N1:St->Hp->Prop,∀σ' H',N1 σ' H'↔∃(L:Addr) (ys:List V),σ'=[some (.ref a),some (.ref h),some (.ref N),some (.ref G),some (.str (Str.ofString "abcdefghijklmnopqrstuvwxyz")),some (.int wd),some (.ref B),x1,x2,x3,some (.ref L),none,none,none]/\Kp X H8 H'/\H' L=some (.lst ys)/\∀y∈ys,AskAt P w X H8 H' y:=⟨_,fun _ _=>Iff.rfl⟩
  unfold tCut
  refine ⟨N1,?_,fun σ' H12 hn1=>?_⟩
  ·repeat (walk_at "ry")
   refine draw_by hd2 D11 (by decide) (by decide) fun r H12 r0 r2 D12 k12=>?_
   have kp12:Kp X H8 H12:=(Kp.of s8L).trans ⟨fun q' ys e=>by rw [k12 q' ((D11.handAt hd2).ntup e)];exact e,fun q' o n e=>by rw [k12 q' fun z=>n (by rw [z];exact Xh)];exact e⟩
   have t12:Tups H11 H12:=fun q' ys e=>by rw [k12 q' ((D11.handAt hd2).ntup e)];exact e
   have eL12:=eL
   rw [<-k12 L nL] at eL12
   have al12:∀y∈ys,AskAt P w X H8 H12 y:=fun y hy=>(alL y hy).mono t12
   repeat (first | walk_at "ry" | simp only [eL12])
   split
   ·refine ⟨ys,sqL_of eL12,fun p hp=>(hN1 _ _).mpr ⟨p,ys.reverse,rfl,kp12.trans (Kp.of (same_new hp _)),upd_same,fun y hy=>(al12 y (List.mem_reverse.mp hy)).mono (tups_new hp)⟩⟩
   ·exact (hN1 _ _).mpr ⟨L,ys,rfl,kp12,eL12,al12⟩
  ·obtain ⟨L,ys,rfl,kp12,eL12,al12⟩:=(hN1 _ _).mp hn1
   repeat (walk_at "rl")
   refine ⟨⟨_,sqL_of eL12⟩,?_⟩
   obtain ⟨Pz,hPz⟩:∃Pz:Nat->St->Hp->Prop,∀i σ' H',Pz i σ' H'↔∃(y1 y2 y3:Option V),σ'=[some (.ref a),some (.ref h),some (.ref N),some (.ref G),some (.str (Str.ofString "abcdefghijklmnopqrstuvwxyz")),some (.int wd),some (.ref B),x1,x2,x3,some (.ref L),y1,y2,y3]/\Same H12 H':=⟨_,fun _ _ _=>Iff.rfl⟩
   refine forAll_list (xs:=ys) Pz ((hPz _ _ _).mpr ⟨none,none,none,rfl,fun _ _ z=>z⟩) (fun i σ' H' _ pz=>?_) (fun i z σ' H13 hz pz=>?_) (fun σ' H13 pz=>?_)
   ·obtain ⟨_,_,_,_,s⟩:=(hPz _ _ _).mp pz
    exact s _ _ eL12
   ·obtain ⟨y1,y2,y3,rfl,s13⟩:=(hPz _ _ _).mp pz
    obtain ⟨p,u,c,rfl,hp,d,rep,ld,ec⟩:=al12 z (List.mem_of_getElem? hz)
    refine ⟨p,_,rfl,sqT_of (s13 _ _ hp),rfl,?_⟩
    repeat (first | walk_at "rl" | simp only [gCons,gNil])
    refine ⟨u,rfl,X,d,(rep.mono kp12).mono (Kp.of s13),ld,fun H14 s14=>?_⟩
    rw [ec]
    repeat (walk_at "rl")
    refine ⟨_,.inl (.bl _),true,kit_same _ _,?_⟩
    rw [if_neg (by simp),if_neg (by simp)]
    exact (hPz _ _ _).mpr ⟨_,_,_,rfl,s13.trans s14⟩
   ·obtain ⟨y1,y2,y3,rfl,s13⟩:=(hPz _ _ _).mp pz
    repeat (walk_at "rl")
    exact q _
end
local macro_rules | `(tactic| walk_at "rd") => `(tactic| walk_at "rc")
local macro_rules | `(tactic| walk_at "rl") => `(tactic| first | (refine seq_op fun R hR => ?_) | walk_at "ry" | (refine Nx.to (by assumption) _ _ ?_))
theorem all_mk {l:PySem.W.OpenLaw} {w:World} {K:PySem.W.Frag} {h:Heap} {mg:Str->Option Value} {fa f0 f1 f2 f3 f4 f5 f6 f7 f8 f9 f10:Addr} (X:K.In h) (G:h.Ns mainGlobals mg) (hfa:mg "law" = some (.ref fa))
  {od0 an0 od1 an1 od2 an2 od3 an3 od4 an4 od5 an5 od6 an6 od7 an7 od8 an8 od9 an9 od10 an10:Option Addr} {sl0 sl1 sl2 sl3 sl4 sl5 sl6 sl7 sl8 sl9 sl10:Array (Option Value)} {oc0 kV0 dc0 pm0 cd0 ct0 oc1 kV1 dc1 pm1 cd1 ct1 oc2 kV2 dc2 pm2 cd2 ct2 oc3 kV3 dc3 pm3 cd3 ct3 oc4 kV4 dc4 pm4 cd4 ct4 oc5 kV5 dc5 pm5 cd5 ct5 oc6 kV6 dc6 pm6 cd6 ct6 oc7 kV7 dc7 pm7 cd7 ct7 oc8 kV8 dc8 pm8 cd8 ct8 oc9 kV9 dc9 pm9 cd9 ct9 oc10 kV10 dc10 pm10 cd10 ct10:Value}
  (a0:PySem.W.nsIn K mainGlobals "is_name" = some (some (.ref f0))) (l0:K.lookup f0=some ⟨oc0,od0,.func (PySem.W.fnOf "is_name" "is_name" (defArgs s_is_name) (defBody s_is_name) (defScope s_is_name) .none kV0 dc0 pm0 an0 cd0 ct0),sl0⟩) (c0:PySem.W.codeIn K cd0 "is_name" = true) (k0:PySem.W.keepIn K (.ref f0)=true)
  (a1:PySem.W.nsIn K mainGlobals "is_clause" = some (some (.ref f1))) (l1:K.lookup f1=some ⟨oc1,od1,.func (PySem.W.fnOf "is_clause" "is_clause" (defArgs s_is_clause) (defBody s_is_clause) (defScope s_is_clause) .none kV1 dc1 pm1 an1 cd1 ct1),sl1⟩) (c1:PySem.W.codeIn K cd1 "is_clause" = true) (k1:PySem.W.keepIn K (.ref f1)=true)
  (a2:PySem.W.nsIn K mainGlobals "is_literal" = some (some (.ref f2))) (l2:K.lookup f2=some ⟨oc2,od2,.func (PySem.W.fnOf "is_literal" "is_literal" (defArgs s_is_literal) (defBody s_is_literal) (defScope s_is_literal) .none kV2 dc2 pm2 an2 cd2 ct2),sl2⟩) (c2:PySem.W.codeIn K cd2 "is_literal" = true) (k2:PySem.W.keepIn K (.ref f2)=true)
  (a3:PySem.W.nsIn K mainGlobals "_law_hand" = some (some (.ref f3))) (l3:K.lookup f3=some ⟨oc3,od3,.func (PySem.W.fnOf "_law_hand" "_law_hand" (defArgs s__law_hand) (defBody s__law_hand) (defScope s__law_hand) .none kV3 dc3 pm3 an3 cd3 ct3),sl3⟩) (c3:PySem.W.codeIn K cd3 "_law_hand" = true) (k3:PySem.W.keepIn K (.ref f3)=true)
  (a4:PySem.W.nsIn K mainGlobals "_law_next" = some (some (.ref f4))) (l4:K.lookup f4=some ⟨oc4,od4,.func (PySem.W.fnOf "_law_next" "_law_next" (defArgs s__law_next) (defBody s__law_next) (defScope s__law_next) .none kV4 dc4 pm4 an4 cd4 ct4),sl4⟩) (c4:PySem.W.codeIn K cd4 "_law_next" = true) (k4:PySem.W.keepIn K (.ref f4)=true)
  (a5:PySem.W.nsIn K mainGlobals "_law_take" = some (some (.ref f5))) (l5:K.lookup f5=some ⟨oc5,od5,.func (PySem.W.fnOf "_law_take" "_law_take" (defArgs s__law_take) (defBody s__law_take) (defScope s__law_take) .none kV5 dc5 pm5 an5 cd5 ct5),sl5⟩) (c5:PySem.W.codeIn K cd5 "_law_take" = true) (k5:PySem.W.keepIn K (.ref f5)=true)
  (a6:PySem.W.nsIn K mainGlobals "_law_draw" = some (some (.ref f6))) (l6:K.lookup f6=some ⟨oc6,od6,.func (PySem.W.fnOf "_law_draw" "_law_draw" (defArgs s__law_draw) (defBody s__law_draw) (defScope s__law_draw) .none kV6 dc6 pm6 an6 cd6 ct6),sl6⟩) (c6:PySem.W.codeIn K cd6 "_law_draw" = true) (k6:PySem.W.keepIn K (.ref f6)=true)
  (a7:PySem.W.nsIn K mainGlobals "_law_names" = some (some (.ref f7))) (l7:K.lookup f7=some ⟨oc7,od7,.func (PySem.W.fnOf "_law_names" "_law_names" (defArgs s__law_names) (defBody s__law_names) (defScope s__law_names) .none kV7 dc7 pm7 an7 cd7 ct7),sl7⟩) (c7:PySem.W.codeIn K cd7 "_law_names" = true) (k7:PySem.W.keepIn K (.ref f7)=true)
  (a8:PySem.W.nsIn K mainGlobals "_law_clause" = some (some (.ref f8))) (l8:K.lookup f8=some ⟨oc8,od8,.func (PySem.W.fnOf "_law_clause" "_law_clause" (defArgs s__law_clause) (defBody s__law_clause) (defScope s__law_clause) .none kV8 dc8 pm8 an8 cd8 ct8),sl8⟩) (c8:PySem.W.codeIn K cd8 "_law_clause" = true) (k8:PySem.W.keepIn K (.ref f8)=true)
  (a9:PySem.W.nsIn K mainGlobals "_law_spoilt" = some (some (.ref f9))) (l9:K.lookup f9=some ⟨oc9,od9,.func (PySem.W.fnOf "_law_spoilt" "_law_spoilt" (defArgs s__law_spoilt) (defBody s__law_spoilt) (defScope s__law_spoilt) .none kV9 dc9 pm9 an9 cd9 ct9),sl9⟩) (c9:PySem.W.codeIn K cd9 "_law_spoilt" = true) (k9:PySem.W.keepIn K (.ref f9)=true)
  (a10:PySem.W.nsIn K mainGlobals "law" = some (some (.ref f10))) (l10:K.lookup f10=some ⟨oc10,od10,.func (PySem.W.fnOf "law" "law" (defArgs s_law) (defBody s_law) (defScope s_law) .none kV10 dc10 pm10 an10 cd10 ct10),sl10⟩) (c10:PySem.W.codeIn K cd10 "law" = true) (k10:PySem.W.keepIn K (.ref f10)=true)
  (z_abs:PySem.W.nsIn K mainGlobals "abs" = some none)
  (z_all:PySem.W.nsIn K mainGlobals "all" = some none)
  (z_bool:PySem.W.nsIn K mainGlobals "bool" = some none)
  (z_isinstance:PySem.W.nsIn K mainGlobals "isinstance" = some none)
  (z_len:PySem.W.nsIn K mainGlobals "len" = some none)
  (z_list:PySem.W.nsIn K mainGlobals "list" = some none)
  (z_range:PySem.W.nsIn K mainGlobals "range" = some none)
  (z_sorted:PySem.W.nsIn K mainGlobals "sorted" = some none)
  (z_str:PySem.W.nsIn K mainGlobals "str" = some none)
  (z_tuple:PySem.W.nsIn K mainGlobals "tuple" = some none)
  {kt_MOST_LETTERS:Tok} (g_MOST_LETTERS:PySem.W.nsIn K mainGlobals "MOST_LETTERS" = some (some (.int 8 kt_MOST_LETTERS)))
  : ∃fd:FuncData,(∀(s:Shared) (v:Value),BindsTo s fd ⟨[v],[]⟩ [("_law_script",v)])/\∀base:Heap,K.In base->base.Ns mainGlobals mg->FnOk l.prog w K mg base CX0 5 fa fd ["_law_script"] (spLaw K):=by
 have e:=hfa.symm.trans (PySem.W.mg_of X G a10)
 cases e
 have F0:=fun_mk (st:=s_is_name) l0 c0 k0
 have b0:=F0.binds (ps:=["thing"]) fun _ _ _ _ _ _=>of1 fun _=>rfl
 have F1:=fun_mk (st:=s_is_clause) l1 c1 k1
 have b1:=F1.binds (ps:=["thing"]) fun _ _ _ _ _ _=>of1 fun _=>rfl
 have F2:=fun_mk (st:=s_is_literal) l2 c2 k2
 have b2:=F2.binds (ps:=["thing"]) fun _ _ _ _ _ _=>of1 fun _=>rfl
 have F3:=fun_mk (st:=s__law_hand) l3 c3 k3
 have b3:=F3.binds (ps:=["_law_script"]) fun _ _ _ _ _ _=>of1 fun _=>rfl
 have F4:=fun_mk (st:=s__law_next) l4 c4 k4
 have b4:=F4.binds (ps:=["_law_hand_here"]) fun _ _ _ _ _ _=>of1 fun _=>rfl
 have F5:=fun_mk (st:=s__law_take) l5 c5 k5
 have b5:=F5.binds (ps:=["_law_hand_here"]) fun _ _ _ _ _ _=>of1 fun _=>rfl
 have F6:=fun_mk (st:=s__law_draw) l6 c6 k6
 have b6:=F6.binds (ps:=["_law_hand_here","_law_many"]) fun _ _ _ _ _ _=>of2 fun _ _=>rfl
 have F7:=fun_mk (st:=s__law_names) l7 c7 k7
 have b7:=F7.binds (ps:=["_law_hand_here","_law_many"]) fun _ _ _ _ _ _=>of2 fun _ _=>rfl
 have F8:=fun_mk (st:=s__law_clause) l8 c8 k8
 have b8:=F8.binds (ps:=["_law_hand_here","_law_names_here"]) fun _ _ _ _ _ _=>of2 fun _ _=>rfl
 have F9:=fun_mk (st:=s__law_spoilt) l9 c9 k9
 have b9:=F9.binds (ps:=["_law_hand_here","_law_clause_here"]) fun _ _ _ _ _ _=>of2 fun _ _=>rfl
 have F10:=fun_mk (st:=s_law) l10 c10 k10
 have b10:=F10.binds (ps:=["_law_script"]) fun _ _ _ _ _ _=>of1 fun _=>rfl
 have T:Txt K mg ⟨_,_,_,_,_,_,_,_,_,_,_,_,_,_,_,_,_,_,_,_,_,_,_⟩:=⟨F0,b0,PySem.W.mg_of X G a0,F1,b1,PySem.W.mg_of X G a1,F2,b2,PySem.W.mg_of X G a2,F3,b3,PySem.W.mg_of X G a3,F4,b4,PySem.W.mg_of X G a4,F5,b5,PySem.W.mg_of X G a5,F6,b6,PySem.W.mg_of X G a6,F7,b7,PySem.W.mg_of X G a7,F8,b8,PySem.W.mg_of X G a8,F9,b9,PySem.W.mg_of X G a9,F10,b10,PySem.W.mg_of X G a10,PySem.W.mg_none_of X G z_abs,PySem.W.mg_none_of X G z_all,PySem.W.mg_none_of X G z_bool,PySem.W.mg_none_of X G z_isinstance,PySem.W.mg_none_of X G z_len,PySem.W.mg_none_of X G z_list,PySem.W.mg_none_of X G z_range,PySem.W.mg_none_of X G z_sorted,PySem.W.mg_none_of X G z_str,PySem.W.mg_none_of X G z_tuple,PySem.W.mg_of X G g_MOST_LETTERS⟩
 exact ⟨PySem.W.fnOf "law" "law" (defArgs s_law) (defBody s_law) (defScope s_law) .none kV10 dc10 pm10 an10 cd10 ct10,fun s v=>.of_eq rfl,fun base _ _=>ok_law (P:=l.prog) (w:=w) (base:=base) T⟩
theorem walk {l:PySem.W.OpenLaw} {q:Program} {loose:List Str} {XP:(Str->Option Value)->Heap->Prop} {YP:World->Heap->Prop} {d:DefRec} {K:Params->PySem.W.Frag} (hn:l.most=some 63) (hdf:d.params.defaults=[])
  (hY:∀(w:World) (h:Heap),YP w h->(K w.params).In h)
  (F:∀(w:World) (mg:Str->Option Value) (fa:Addr) (h:Heap),(K w.params).In h->h.Ns mainGlobals mg->mg d.name=some (.ref fa)->
   ∃fd:FuncData,(∀(s:Shared) (u:Value),BindsTo s fd ⟨[u],[]⟩ [("_law_script",u)])/\∀base:Heap,(K w.params).In base->base.Ns mainGlobals mg->FnOk l.prog w (K w.params) mg base CX0 5 fa fd ["_law_script"] (spLaw (K w.params))) :
  PySem.W.WalkO q loose XP YP l.row.toRowW d [] (fun f vs=>PySem.call f vs):=
 L2.walk_of (n:=63) (k:=5) (x:="_law_script") (CX:=fun _=>CX0) (sp:=fun w=>spLaw (K w.params)) hn (by decide) hdf ⟨rfl,by decide,by decide⟩ hY F (fun _ _ a ns hl _ hS=>⟨a,ns,rfl,hS,hl,fun _=>rfl⟩) fun _ _ _ _ _ z=>z
end My
open PySem PySem.W PyProof.Rows
theorem PySem.Challenge.cw_truceroll_k21_what_is_a_clause_holds : PySem.Challenge.rw_truceroll_k21_what_is_a_clause.Holds := by
 w_on;o_law;k_head;(case hw=>w_witness2)
 k_fill
 refine My.walk (l:=PySem.Challenge.rw_truceroll_k21_what_is_a_clause) rfl rfl (fun w h Y=>PySem.W.kIn_of Y) ?F
 case F=>
  intro w mg fa h KX G hmg
  refine' My.all_mk KX G hmg ?a0 ?l0 ?c0 ?k0 ?a1 ?l1 ?c1 ?k1 ?a2 ?l2 ?c2 ?k2 ?a3 ?l3 ?c3 ?k3 ?a4 ?l4 ?c4 ?k4 ?a5 ?l5 ?c5 ?k5 ?a6 ?l6 ?c6 ?k6 ?a7 ?l7 ?c7 ?k7 ?a8 ?l8 ?c8 ?k8 ?a9 ?l9 ?c9 ?k9 ?a10 ?l10 ?c10 ?k10 ?z_abs ?z_all ?z_bool ?z_isinstance ?z_len ?z_list ?z_range ?z_sorted ?z_str ?z_tuple ?g_MOST_LETTERS
  (case a0=>k_is)
  (case l0=>k_is)
  (case c0=>k_is)
  (case k0=>k_is)
  (case a1=>k_is)
  (case l1=>k_is)
  (case c1=>k_is)
  (case k1=>k_is)
  (case a2=>k_is)
  (case l2=>k_is)
  (case c2=>k_is)
  (case k2=>k_is)
  (case a3=>k_is)
  (case l3=>k_is)
  (case c3=>k_is)
  (case k3=>k_is)
  (case a4=>k_is)
  (case l4=>k_is)
  (case c4=>k_is)
  (case k4=>k_is)
  (case a5=>k_is)
  (case l5=>k_is)
  (case c5=>k_is)
  (case k5=>k_is)
  (case a6=>k_is)
  (case l6=>k_is)
  (case c6=>k_is)
  (case k6=>k_is)
  (case a7=>k_is)
  (case l7=>k_is)
  (case c7=>k_is)
  (case k7=>k_is)
  (case a8=>k_is)
  (case l8=>k_is)
  (case c8=>k_is)
  (case k8=>k_is)
  (case a9=>k_is)
  (case l9=>k_is)
  (case c9=>k_is)
  (case k9=>k_is)
  (case a10=>k_is)
  (case l10=>k_is)
  (case c10=>k_is)
  (case k10=>k_is)
  (case z_abs=>k_is)
  (case z_all=>k_is)
  (case z_bool=>k_is)
  (case z_isinstance=>k_is)
  (case z_len=>k_is)
  (case z_list=>k_is)
  (case z_range=>k_is)
  (case z_sorted=>k_is)
  (case z_str=>k_is)
  (case z_tuple=>k_is)
  (case g_MOST_LETTERS=>k_is)
