import PyProof.Rows.All
import Wide.All
import OpenK.AllK
import Wide.FinOn
import Lean
import PyProof.EqAt
import PyProof.EqKinds
import PyProof.TupleCall
import PySem.Challenge.RW_truceroll_k26_shortest_clauses
set_option Elab.async false
set_option linter.all false
set_option maxRecDepth 100000
set_option maxHeartbeats 0
section
namespace L2
open PySem PySem.Spec PyProof.Rows
abbrev Key:=Sum Int Str
def keyIs:Key->Value->Bool
 | .inl k,v=>Value.isInt k v
 | .inr x,v=>Value.isStrOf x v
def keyH (w:World):Key->Int
 | .inl k=>hashInt k
 | .inr x=>hashStr w x
theorem keyIs_shape:∀{k:Key} {v:Value},keyIs k v=true->(∃i t,k=Sum.inl i/\v=Value.int i t)\/(∃x t,k=Sum.inr x/\v=Value.str x t)
 | .inl i,v,h=>by
  obtain ⟨t,e⟩:=Value.isInt_shape (k:=i) (v:=v) h
  exact .inl ⟨i,t,rfl,e⟩
 | .inr x,v,h=>by
  obtain ⟨t,e⟩:=Value.isStrOf_shape (x:=x) (v:=v) h
  exact .inr ⟨x,t,rfl,e⟩
theorem keyIs_int (i:Int) (t:Tok):keyIs (.inl i) (.int i t)=true:=by simp [keyIs,Value.isInt]
theorem keyIs_str (x:Str) (t:Tok):keyIs (.inr x) (.str x t)=true:=by simp [keyIs,Value.isStrOf]
theorem key_ll (a b:Int):decide ((Sum.inl a:Key)=Sum.inl b)=(a == b):=by
 by_cases e:a=b
 ·subst e;simp
 ·have h:¬(Sum.inl a:Key)=Sum.inl b:=fun q=>e (Sum.inl.inj q)
  rw [decide_eq_false h]
  exact (beq_eq_false_iff_ne.mpr e).symm
theorem key_rr (a b:Str):decide ((Sum.inr a:Key)=Sum.inr b)=decide (a=b):=by
 by_cases e:a=b
 ·subst e;simp
 ·have h:¬(Sum.inr a:Key)=Sum.inr b:=fun q=>e (Sum.inr.inj q)
  rw [decide_eq_false h,decide_eq_false e]
theorem key_lr (a:Int) (b:Str):decide ((Sum.inl a:Key)=Sum.inr b)=false:=decide_eq_false (fun q=>nomatch q)
theorem key_rl (a:Str) (b:Int):decide ((Sum.inr a:Key)=Sum.inl b)=false:=decide_eq_false (fun q=>nomatch q)
def mixKind (prog:Program) (w:World):PySem.KeyKind prog w Key where
 is:=keyIs
 hash:=keyH w
 inj:=fun v a b ha hb=>by
  rcases keyIs_shape ha with ⟨i,t,rfl,rfl⟩ | ⟨x,t,rfl,rfl⟩
  ·rcases keyIs_shape hb with ⟨j,u,rfl,e⟩ | ⟨y,u,rfl,e⟩
   ·injection e with e1 _;rw [e1]
   ·exact nomatch e
  ·rcases keyIs_shape hb with ⟨j,u,rfl,e⟩ | ⟨y,u,rfl,e⟩
   ·exact nomatch e
   ·injection e with e1 _;rw [e1]
 byValue:=fun k v h=>by
  rcases keyIs_shape h with ⟨i,t,rfl,rfl⟩ | ⟨x,t,rfl,rfl⟩ <;> rfl
 pyHash:=fun hv h=>by
  rcases keyIs_shape hv with ⟨i,t,rfl,rfl⟩ | ⟨x,t,rfl,rfl⟩
  ·exact wpAny_pyHash_int h
  ·exact wpAny_pyHash_str h
 eqBool:=fun hu hv h=>by
  rcases keyIs_shape hu with ⟨i,t,rfl,rfl⟩ | ⟨x,t,rfl,rfl⟩
  ·rcases keyIs_shape hv with ⟨j,u,rfl,rfl⟩ | ⟨y,u,rfl,rfl⟩
   ·rw [key_ll] at h;exact wpAny_eqBool_int h
   ·rw [key_lr] at h;exact SeqAt.EqAt.int_str i t y u _ _ _ _ h
  ·rcases keyIs_shape hv with ⟨j,u,rfl,rfl⟩ | ⟨y,u,rfl,rfl⟩
   ·rw [key_rl] at h;exact SeqAt.EqAt.str_int x t j u _ _ _ _ h
   ·rw [key_rr] at h;exact wpAny_eqBool_str h
 «strs»:=fun k x t v h=>by
  rcases keyIs_shape h with ⟨i,u,rfl,e⟩ | ⟨y,u,rfl,e⟩
  ·exact nomatch e
  ·injection e with e1 _
   subst e1
   cases v <;> rfl
theorem mixKind_int (prog:Program) (w:World) (i:Int) (t:Tok):(mixKind prog w).is (.inl i) (.int i t)=true:=keyIs_int i t
theorem mixKind_str (prog:Program) (w:World) (x:Str) (t:Tok):(mixKind prog w).is (.inr x) (.str x t)=true:=keyIs_str x t
end L2
namespace L2
open PySem PySem.Spec PyProof.Rows
inductive V where
 | non | bl (b:Bool) | int (i:Int) | str (x:Str) | byt (b:Array UInt8) | flt (b:UInt64) | ref (a:Addr) | ty (n:String)
 deriving DecidableEq
def RelV:V->Value->Prop
 | .non,u=>u=Value.none
 | .bl b,u=>u=Value.bool b
 | .int i,u=>∃t,u=Value.int i t
 | .str x,u=>∃t,u=Value.str x t
 | .byt b,u=>∃t,u=Value.bytes b t
 | .flt b,u=>∃t,u=Value.float b t
 | .ref a,u=>u=Value.ref a
 | .ty n,u=>u=Value.type n
abbrev Vals:List V->List Value->Prop:=Paired RelV
theorem Vals.length {xs:List V} {us:List Value} (r:Vals xs us):xs.length=us.length:=Paired.length r
theorem Vals.get:∀{xs:List V} {us:List Value} {i:Nat} {x:V},Vals xs us->xs[i]? = some x->∃u,us[i]? = some u/\RelV x u
 | _,_,_,_,.nil,e=>by simp at e
 | _,_,0,_,.cons r _,e=>by simp at e;subst e;exact ⟨_,rfl,r⟩
 | _,_,i+1,x,.cons _ t,e=>by
  obtain ⟨u,h1,h2⟩:=Vals.get (i:=i) (x:=x) t (by simpa using e)
  exact ⟨u,by simpa using h1,h2⟩
theorem Vals.set {x:V} {u:Value} (r:RelV x u):∀{xs:List V} {us:List Value} (i:Nat),Vals xs us->Vals (xs.set i x) (us.set i u)
 | _,_,_,.nil=>.nil
 | _,_,0,.cons _ t=>.cons r t
 | _,_,i+1,.cons q t=>.cons q (Vals.set r i t)
theorem Vals.append:∀{xs ys:List V} {us ws:List Value},Vals xs us->Vals ys ws->Vals (xs++ys) (us++ws)
 | _,_,_,_,.nil,s=>s
 | _,_,_,_,.cons r t,s=>.cons r (Vals.append t s)
theorem Vals.take:∀{xs:List V} {us:List Value} (n:Nat),Vals xs us->Vals (xs.take n) (us.take n)
 | _,_,0,_=>.nil
 | _,_,_+1,.nil=>.nil
 | _,_,n+1,.cons r t=>.cons r (Vals.take n t)
theorem Vals.drop:∀{xs:List V} {us:List Value} (n:Nat),Vals xs us->Vals (xs.drop n) (us.drop n)
 | _,_,0,r=>r
 | _,_,_+1,.nil=>.nil
 | _,_,n+1,.cons _ t=>Vals.drop n t
def RelO:Option V->Option Value->Prop
 | some v,some u=>RelV v u
 | none,none=>True
 | _,_=>False
def KV {κ:Type}:List (κ×V)->List (κ×Value)->Prop:=Paired fun (p:κ×V) (q:κ×Value)=>p.1=q.1/\RelV p.2 q.2
def kV:Key->V
 | .inl i=>.int i
 | .inr x=>.str x
inductive HO where
 | lst (xs:List V)
 | tup (xs:List V)
 | dK (kvs:List (Key×V)) | dT (kvs:List (List Key×V))
 | set (S:Int->Bool) (n:Nat)
 | ins (C dx:Addr) (fs:List (Str×V))
 | own (x:Addr)
 | xd (fs:List (Str×V))
 | met (f x:Addr)
 | rng (lo hi:Int)
 | frz (o:Obj) (u:HO)
 | tbl (ps:Array Value)
 | ext (φ:Heap->Prop)
abbrev Hp:=Addr->Option HO
def upd (H:Hp) (a:Addr) (o:HO):Hp:=fun b=>if b=a then some o else H b
theorem upd_same {H:Hp} {a:Addr} {o:HO}:upd H a o a=some o:=by unfold upd;rw [if_pos rfl]
theorem upd_ne {H:Hp} {a b:Addr} {o:HO} (h:b≠a):upd H a o b=H b:=by unfold upd;rw [if_neg h]
theorem upd_upd {H:Hp} {a:Addr} {o u:HO}:upd (upd H a o) a u=upd H a u:=by
 funext b;unfold upd;split <;> rfl
theorem ne_of {H:Hp} {a b:Addr} {o u:HO} (h:H a=some o) (h':H b=some u) (d:o≠u):a≠b:=by
 intro e;subst e;rw [h] at h';exact d (Option.some.inj h')
theorem ne_of_none {H:Hp} {a b:Addr} {o:HO} (h:H a=some o) (h':H b=none):a≠b:=by
 intro e;subst e;rw [h] at h';cases h'
section
variable (P:Program) (w:World)
def ObjOk (H:Hp) (h:Heap) (a:Addr):HO->Prop
 | .lst xs=>xs.length<=sizeLine/\∃(its:List Value) (n:Nat),Vals xs its/\h.get? a=some { cls:=.type "list",data:=.seq its.toArray n }
 | .tup xs=>xs.length<=sizeLine/\∃its:List Value,Vals xs its/\IsTup h a its.toArray
 | .dK kvs=>kvs.length<=sizeLine/\(a == sysModules)=false/\∃vs,KV kvs vs/\h.DictOf (mixKind P w) a vs
 | .dT kvs=>kvs.length<=sizeLine/\(a == sysModules)=false/\∃xs:List (List Key×Addr×Value),
   Paired (fun (p:List Key×V) (q:List Key×Addr×Value)=>p.1=q.1/\H q.2.1=some (.tup (p.1.map kV))/\RelV p.2 q.2.2) kvs xs/\
   ∃o es ep,h.get? a=some o/\o.ExactDict/\o.data=.dict es ep/\es.toList=xs.map (entryOfKey (tupleKind (mixKind P w)))/\(xs.map (·.1)).Nodup
 | .set S n=>h.SetOf (intKind P w) a S n
 | .ins C dx fs=>H dx=some (.own a)/\fs.length<=1000/\dx≠a/\h.get? a=some (PySem.W.instObj C dx)/\
   ∃mA,h.Ns1 dx mA/\(∀f,RelO (fs.lookup f) (mA f))/\PySem.Within mA (fs.map (·.1))
 | .own _=>∃o,h.get? a=some o
 | .xd fs=>∃mA,h.Ns1 a mA/\∀f,RelO (fs.lookup f) (mA f)
 | .rng lo hi=>∃t u v,h.get? a=some { cls:=.type "range",data:=.fields #[.int lo t,.int hi u,.int 1 v] }
 | .frz o u=>h.get? a=some o/\ObjOk H h a u
 | .tbl ps=>h.get? a=some { cls:=.none,data:=.fields ps }
 | .met f x=>h.get? a=some (PySem.W.methodObj (.ref f) (.ref x))
 | .ext φ=>φ h/\(∃o,h.get? a=some o)/\∀h1 h2:Heap,φ h1->(∀o,h1.get? a=some o->h2.get? a=some o)->φ h2
def HOk (H:Hp) (h:Heap):Prop:=∀a o,H a=some o->ObjOk P w H h a o
end
section
variable {P:Program} {w:World} {H H':Hp} {h h':Heap} {a:Addr} {o:HO}
theorem ObjOk.lt (x:ObjOk P w H h a o):a < h.objs.size:=by
 cases o with
 | lst xs=>obtain ⟨_,_,_,_,e⟩:=x;exact Heap.lt_size e
 | tup xs=>obtain ⟨_,_,_,p⟩:=x;exact p.lt
 | dK kvs=>obtain ⟨_,_,_,_,o,_,_,e,_⟩:=x;exact Heap.lt_size e
 | dT kvs=>obtain ⟨_,_,_,_,o,_,_,e,_⟩:=x;exact Heap.lt_size e
 | set S n=>obtain ⟨o,_,_,_,e,_⟩:=x;exact Heap.lt_size e
 | ins C dx fs=>obtain ⟨_,_,_,e,_⟩:=x;exact Heap.lt_size e
 | own y=>obtain ⟨_,e⟩:=x;exact Heap.lt_size e
 | xd fs=>obtain ⟨_,⟨_,_,_,e,_⟩,_⟩:=x;exact Heap.lt_size e
 | rng lo hi=>obtain ⟨_,_,_,e⟩:=x;exact Heap.lt_size e
 | frz ob u=>obtain ⟨e,_⟩:=x;exact Heap.lt_size e
 | tbl ps=>exact Heap.lt_size (show h.get? a=some _ from x)
 | met f y=>exact Heap.lt_size (show h.get? a=some _ from x)
 | ext φ=>obtain ⟨_,⟨_,e⟩,_⟩:=x;exact Heap.lt_size e
theorem Paired.mapP {α β:Type} {F G:α->β->Prop}:∀{l₁:List α} {l₂:List β},Paired F l₁ l₂->(∀a b,F a b->G a b)->Paired G l₁ l₂
 | _,_,.nil,_=>.nil
 | _,_,.cons r t,f=>.cons (f _ _ r) (Paired.mapP t f)
theorem ObjOk.stay (x:ObjOk P w H h a o) (k:∀b u,(b=a\/H b=some (.own a))->h.get? b=some u->h'.get? b=some u)
  (ho:∀b,H b=some (.own a)->H' b=some (.own a)) (ht:∀b xs,H b=some (.tup xs)->H' b=some (.tup xs)):ObjOk P w H' h' a o:=by
 induction o with
 | lst xs=>obtain ⟨z,its,n,r,e⟩:=x;exact ⟨z,its,n,r,k _ _ (.inl rfl) e⟩
 | tup xs=>obtain ⟨z,its,r,ob,e,c⟩:=x;exact ⟨z,its,r,ob,k _ _ (.inl rfl) e,c⟩
 | dK kvs=>obtain ⟨z,y,vs,r,ob,es,ep,e,c⟩:=x;exact ⟨z,y,vs,r,ob,es,ep,k _ _ (.inl rfl) e,c⟩
 | dT kvs=>
  obtain ⟨z,y,xs,r,ob,es,ep,e,c⟩:=x
  exact ⟨z,y,xs,Paired.mapP r fun p q z=>⟨z.1,ht _ _ z.2.1,z.2.2⟩,ob,es,ep,k _ _ (.inl rfl) e,c⟩
 | set S n=>obtain ⟨ob,es,ep,t,e,c⟩:=x;exact ⟨ob,es,ep,t,k _ _ (.inl rfl) e,c⟩
 | ins C dx fs=>
  obtain ⟨d,z,ne,e,mA,⟨od,es,ep,e2,c⟩,r⟩:=x
  exact ⟨ho _ d,z,ne,k _ _ (.inl rfl) e,mA,⟨od,es,ep,k _ _ (.inr d) e2,c⟩,r⟩
 | own y=>obtain ⟨ob,e⟩:=x;exact ⟨ob,k _ _ (.inl rfl) e⟩
 | xd fs=>obtain ⟨mA,⟨od,es,ep,e,c⟩,r⟩:=x;exact ⟨mA,⟨od,es,ep,k _ _ (.inl rfl) e,c⟩,r⟩
 | rng lo hi=>obtain ⟨t,u,v,e⟩:=x;exact ⟨t,u,v,k _ _ (.inl rfl) e⟩
 | frz ob u ih=>obtain ⟨e,q⟩:=x;exact ⟨k _ _ (.inl rfl) e,ih q⟩
 | tbl ps=>
  have e:h.get? a=some { cls:=.none,data:=.fields ps }:=x
  show h'.get? a=some { cls:=.none,data:=.fields ps }
  exact k a _ (.inl rfl) e
 | met f y=>
  have e:h.get? a=some (PySem.W.methodObj (.ref f) (.ref y)):=x
  show h'.get? a=some (PySem.W.methodObj (.ref f) (.ref y))
  exact k a _ (.inl rfl) e
 | ext φ=>obtain ⟨p,⟨o,e⟩,st⟩:=x;exact ⟨st _ _ p fun o q=>k _ _ (.inl rfl) q,⟨o,k _ _ (.inl rfl) e⟩,st⟩
theorem HOk.lt (x:HOk P w H h) (e:H a=some o):a < h.objs.size:=(x a o e).lt
theorem HOk.fresh (x:HOk P w H h) (e:h.objs.size<=a):H a=none:=by
 cases q:H a with
 | none=>rfl
 | some u=>exact absurd (Nat.lt_of_lt_of_le (x.lt q) e) (Nat.lt_irrefl _)
theorem HOk.kept (x:HOk P w H h) (k:∀b u,h.get? b=some u->h'.get? b=some u):HOk P w H h':=fun a o e=>
 (x a o e).stay (fun b u _ q=>k b u q) (fun _ q=>q) fun _ _ q=>q
theorem HOk.laid (x:HOk P w H h) (k:∀b u,h.get? b=some u->h'.get? b=some u) (hp:h.objs.size<=a) (new:ObjOk P w (upd H a o) h' a o):HOk P w (upd H a o) h':=fun b u e=>by
 have hn:=x.fresh hp
 by_cases hb:b=a
 ·subst hb;rw [upd_same] at e;cases e;exact new
 ·rw [upd_ne hb] at e
  exact (x b u e).stay (fun c v _ q=>k c v q) (fun c q=>by rw [upd_ne (ne_of_none q hn)];exact q) fun c xs q=>by rw [upd_ne (ne_of_none q hn)];exact q
end
def Rd (H:Hp) (a:Addr) (u:HO):Prop:=H a=some u\/∃o,H a=some (.frz o u)
theorem Rd.ok {P:Program} {w:World} {H:Hp} {h:Heap} {a:Addr} {u:HO} (r:Rd H a u) (x:HOk P w H h):ObjOk P w H h a u:=by
 rcases r with r | ⟨o,r⟩
 ·exact x a u r
 ·obtain ⟨_,q⟩:=x a _ r
  exact q
def Mut:Option HO->Prop
 | some (.lst _)=>True
 | some (.dK _)=>True
 | some (.dT _)=>True
 | some (.set _ _)=>True
 | some (.ins _ _ _)=>True
 | some (.ext _)=>True
 | _=>False
section
variable {P:Program} {w:World} {H:Hp} {h h':Heap} {x e:Addr} {o':HO}
theorem HOk.write (ok:HOk P w H h) (mu:Mut (H x)) (he:e=x\/H e=some (.own x)) (k:∀b u,b≠e->h.get? b=some u->h'.get? b=some u) (heo:∃u,h'.get? e=some u)
  (new:ObjOk P w (upd H x o') h' x o'):HOk P w (upd H x o') h':=fun b u q=>by
 have nown:∀c y,H c=some (.own y)->c≠x:=fun c y r z=>by subst z;rw [r] at mu;exact mu
 have ntup:∀c xs,H c=some (.tup xs)->c≠x:=fun c xs r z=>by subst z;rw [r] at mu;exact mu
 by_cases hb:b=x
 ·subst hb;rw [upd_same] at q;cases q;exact new
 ·rw [upd_ne hb] at q
  by_cases hbe:b=e
  ·have q':H b=some (.own x):=by
    rcases he with z | z
    ·exact absurd (hbe.trans z) hb
    ·rw [hbe];exact z
   rw [q] at q';cases q'
   obtain ⟨v,hv⟩:=heo
   exact ⟨v,by rw [hbe];exact hv⟩
  ·refine (ok b u q).stay (fun c v hc r=>k c v ?_ r) (fun c r=>by rw [upd_ne (nown c b r)];exact r) fun c xs r=>by rw [upd_ne (ntup c xs r)];exact r
   rcases hc with rfl | hc
   ·exact hbe
   ·rintro rfl
    rcases he with z | z
    ·exact nown c b hc z
    ·rw [hc] at z;cases z;exact hb rfl
end
structure Un (fs ex:List Addr) (H H':Hp) (h h':Heap):Prop where
 keep:∀b o,h.get? b=some o->H b=none->b∉fs->b∉ex->h'.get? b=some o
 slot:∀b o,h.get? b=some o->H b=none->b∈fs->b∉ex->∃sl,h'.get? b=some { o with slots:=sl }
 free:∀b o,h.get? b=some o->H b=none->b∉ex->H' b=none
 there:∀b o,h.get? b=some o->b∉ex->∃o',h'.get? b=some o'
 tups:∀b xs,H b=some (.tup xs)->H' b=some (.tup xs)
 frzs:∀b o u,H b=some (.frz o u)->H' b=some (.frz o u)
 tbls:∀b ps,H b=some (.tbl ps)->∃more,H' b=some (.tbl (ps++more))
section
variable {fs fs' ex ex':List Addr} {H H1 H2:Hp} {h h1 h2 h':Heap} {a x e:Addr} {o:HO}
theorem Un.any (u:Un fs ex H H1 h h1) {b:Addr} {ob:Obj} (q:h.get? b=some ob) (n:H b=none) (hx:b∉ex):∃sl,h1.get? b=some { ob with slots:=sl }:=by
 by_cases hb:b∈fs
 ·exact u.slot b ob q n hb hx
 ·exact ⟨ob.slots,u.keep b ob q n hb hx⟩
theorem Un.trans (a:Un fs ex H H1 h h1) (b:Un fs ex H1 H2 h1 h2):Un fs ex H H2 h h2 where
 keep:=fun c ob q n hc hx=>b.keep c ob (a.keep c ob q n hc hx) (a.free c ob q n hx) hc hx
 slot:=fun c ob q n hc hx=>by
  obtain ⟨sl,e1⟩:=a.slot c ob q n hc hx
  obtain ⟨sl',e2⟩:=b.slot c _ e1 (a.free c ob q n hx) hc hx
  exact ⟨sl',e2⟩
 free:=fun c ob q n hx=>by
  obtain ⟨o',e1⟩:=a.there c ob q hx
  exact b.free c o' e1 (a.free c ob q n hx) hx
 there:=fun c ob q hx=>by
  obtain ⟨o',e1⟩:=a.there c ob q hx
  exact b.there c o' e1 hx
 tups:=fun c xs q=>b.tups c xs (a.tups c xs q)
 frzs:=fun c ob xs q=>b.frzs c ob xs (a.frzs c ob xs q)
 tbls:=fun c ps q=>by
  obtain ⟨m1,e1⟩:=a.tbls c ps q
  obtain ⟨m2,e2⟩:=b.tbls c _ e1
  exact ⟨m1++m2,by rw [e2,Array.append_assoc]⟩
theorem Un.kept (k:∀b u,h.get? b=some u->h'.get? b=some u):Un fs ex H H h h':=
 ⟨fun b ob q _ _ _=>k b ob q,fun b ob q _ _ _=>⟨ob.slots,k b ob q⟩,fun _ _ _ n _=>n,fun b ob q _=>⟨ob,k b ob q⟩,fun _ _ q=>q,fun _ _ _ q=>q,fun _ ps q=>⟨#[],by rw [q];simp⟩⟩
theorem Un.refl:Un fs ex H H h h:=Un.kept fun _ _ q=>q
theorem Un.laid (k:∀b u,h.get? b=some u->h'.get? b=some u) (hp:h.objs.size<=a) (hn:H a=none):Un fs ex H (upd H a o) h h' where
 keep:=fun b u q _ _ _=>k b u q
 slot:=fun b u q _ _ _=>⟨u.slots,k b u q⟩
 free:=fun b u q n _=>by rw [upd_ne (Nat.ne_of_lt (Nat.lt_of_lt_of_le (Heap.lt_size q) hp))];exact n
 there:=fun b u q _=>⟨u,k b u q⟩
 tups:=fun b xs q=>by rw [upd_ne (ne_of_none q hn)];exact q
 frzs:=fun b u xs q=>by rw [upd_ne (ne_of_none q hn)];exact q
 tbls:=fun b ps q=>⟨#[],by rw [upd_ne (ne_of_none q hn),q];simp⟩
theorem Un.write (mu:Mut (H x)) (he:e=x\/H e=some (.own x)) (k:∀b u,b≠e->h.get? b=some u->h'.get? b=some u) (heo:∃u,h'.get? e=some u):Un fs ex H (upd H x o) h h':=by
 have hx:∀b,H b=none->b≠x:=fun b n z=>by subst z;rw [n] at mu;exact mu
 have hb:∀b,H b=none->b≠e:=fun b n z=>by
  subst z
  rcases he with r | r
  ·exact hx b n r
  ·rw [n] at r;cases r
 have hm:∀b u,H b=some u->¬Mut (some u)->b≠x:=fun b u q nm z=>by subst z;rw [q] at mu;exact nm mu
 refine ⟨fun b u q n _ _=>k b u (hb b n) q,fun b u q n _ _=>⟨u.slots,k b u (hb b n) q⟩,fun b u q n _=>by rw [upd_ne (hx b n)];exact n,fun b u q _=>?_,
  fun b xs q=>by rw [upd_ne (hm b _ q fun z=>z)];exact q,fun b u xs q=>by rw [upd_ne (hm b _ q fun z=>z)];exact q,fun b ps q=>⟨#[],by rw [upd_ne (hm b _ q fun z=>z),q];simp⟩⟩
 by_cases hbe:b=e
 ·subst hbe;exact heo
 ·exact ⟨u,k b u hbe q⟩
end
def trk (h:Heap) (H:Hp):List Addr:=(List.range h.objs.size).filter fun a=>(H a).isSome
def hidT (h:Heap) (H:Hp):Heap:=PySem.W.hideAll h (trk h H)
theorem hidT_size (h:Heap) (H:Hp):(hidT h H).objs.size=h.objs.size:=PySem.W.hideAll_size _ _
theorem hidT_get {h:Heap} {H:Hp} {b:Addr} {o:Obj} (e:h.get? b=some o) (n:H b=none):(hidT h H).get? b=some o:=
 PySem.W.hideAll_get _ e fun hm=>by
  have q:(H b).isSome=true:=(List.mem_filter.mp hm).2
  rw [n] at q;simp at q
theorem of_hidT {h:Heap} {H:Hp} {b:Addr} {o:Obj} (e:(hidT h H).get? b=some o):h.get? b=some o/\H b=none:=by
 have e':h.get? b=some o:=PySem.W.of_hideAll (trk h H) e
 refine ⟨e',?_⟩
 cases q:H b with
 | none=>rfl
 | some x=>
  have hm:b∈trk h H:=List.mem_filter.mpr ⟨List.mem_range.mpr (Heap.lt_size e'),by simp [q]⟩
  have z:(hidT h H).get? b=none:=PySem.W.hideAll_none (trk h H) hm
  rw [z] at e;cases e
def allNews (g h:Heap) (L:Addr):List (Addr×Obj):=(List.range h.objs.size).filterMap fun a=>if a=L\/(g.get? a).isSome=true then none else (h.get? a).map fun o=>(a,o)
def rest (g h:Heap) (L d:Addr):List (Addr×Obj):=(allNews g h L).filter fun p=>decide (p.1≠d)
end L2
namespace L2
open PySem PySem.Spec PyProof.Rows
structure Mod (K:PySem.W.Frag) (mg:Str->Option Value) (base:Heap):Prop where
 kin:K.In base
 glob:base.Ns mainGlobals mg
 blt:∃mb,base.Ns builtinsNs mb/\∀x:Str,x≠"__name__"->mb x=bootBuiltins x
 nolimit:base.NoLimit
structure Cx where
 prog:Program
 w:World
 K:PySem.W.Frag
 mg:Str->Option Value
 base:Heap
 A:Around
 N:List Str
 s₀:Shared
 H₀:Hp
 env:Env
 outer:List Env
 stack:List Env
 ex:List Addr
 fn:Str->Bool
 calm:Bool
 pn:List (Addr×Obj)
 xe:Value->Shared->Prop
def frs (l:List Env):List Addr:=l.filterMap (·.frame)
abbrev Cx.fs (X:Cx):List Addr:=frs X.outer
def Vis (sc:Scope) (x:Str):Prop:=sc.names.lookup x=some .local\/sc.names.lookup x=some .cell\/sc.names.lookup x=some .free
def Loc (sc:Scope) (x:Str):Prop:=sc.names.lookup x=some .local\/sc.names.lookup x=some .cell
def Look (env:Env) (h:Heap) (m:Str->Option Value) (x:Str) (u:Value):Prop:=
 (env.kindOf x=some .local/\m x=some u)\/((env.kindOf x=some .cell\/env.kindOf x=some .free)/\∃c,env.cells.lookup x=some c/\h.IsCell c (some u))
structure Cx.Ok (X:Cx):Prop where
 mod:Mod X.K X.mg X.base
 kind:X.env.scope.kind=.function
 glob:X.env.globals=mainGlobals
 blt:X.env.builtins=builtinsNs
 above:X.s₀.heap.objs.size<=X.env.locals
 inj:∀x y c,X.env.cells.lookup x=some c->X.env.cells.lookup y=some c->x=y
 has:∀x,(X.env.kindOf x=some .cell\/X.env.kindOf x=some .free)->∃c,X.env.cells.lookup x=some c
 cab:∀x c,X.fn x=true->X.env.cells.lookup x=some c->X.s₀.heap.objs.size<=c
 hd:X.calm=true->X.A.handled=none
 frames:X.A.frames=some X.stack
 stk:X.stack=X.outer\/(X.stack=X.env::X.outer/\X.env.frame=some X.env.locals)
 exf:∀b∈X.ex,b≠X.env.locals/\∀x c,X.env.cells.lookup x=some c->c≠b
 bs:∀b o,X.base.get? b=some o->X.s₀.heap.get? b=some o/\X.H₀ b=none
 bsz:X.base.objs.size<=X.s₀.heap.objs.size
 noex:∀b o,X.base.get? b=some o->b∉X.ex
 exfs:∀b∈X.ex,b∉X.fs
 funs:X.s₀.heap.FunFrames X.base X.outer
 frf:∀b∈X.fs,X.H₀ b=none
structure Inv (X:Cx) (pins:List (Addr×Obj)) (σ:List (Option V)) (H:Hp) (s:Shared):Prop where
 ok:X.Ok
 os:s.os=X.s₀.os
 bare:AllBare s.gens
 base:Un X.fs X.ex X.H₀ H X.s₀.heap s.heap
 loc:∃m,s.heap.Ns X.env.locals m/\∀(i:Nat) (x:Str) (v:V),X.N[i]? = some x->σ[i]? = some (some v)->Vis X.env.scope x->∃u,RelV v u/\Look X.env s.heap m x u
 cell:∀x c,X.env.cells.lookup x=some c->∃v,s.heap.IsCell c v
 free:H X.env.locals=none
 freeC:∀x c,X.env.cells.lookup x=some c->H c=none
 pin:∀p∈X.pn++pins,s.heap.get? p.1=some p.2/\H p.1=none/\p.1≠X.env.locals/\p.1∉X.fs/\∀v,p.2.data≠.cell v
 hok:HOk X.prog X.w H s.heap
 len:σ.length=X.N.length
section
variable {X:Cx} {pins:List (Addr×Obj)} {σ:List (Option V)} {H H':Hp} {s:Shared} {h':Heap}
theorem Cx.Ok.nofr (ok:X.Ok) {b:Addr} {o:Obj} (e:X.base.get? b=some o):b∉X.fs:=fun hb=>by
 have:=(ok.funs.mem hb).1
 rw [e] at this;cases this
theorem Inv.bs (I:Inv X pins σ H s):∀b o,X.base.get? b=some o->s.heap.get? b=some o/\H b=none:=fun b o e=>
 ⟨I.base.keep b o (I.ok.bs b o e).1 (I.ok.bs b o e).2 (I.ok.nofr e) (I.ok.noex b o e),I.base.free b o (I.ok.bs b o e).1 (I.ok.bs b o e).2 (I.ok.noex b o e)⟩
theorem Inv.bk (I:Inv X pins σ H s):∀b o,X.base.get? b=some o->s.heap.get? b=some o:=fun b o e=>(I.bs b o e).1
theorem Inv.mod (I:Inv X pins σ H s):Mod X.K X.mg X.base:=I.ok.mod
theorem Inv.kIn (I:Inv X pins σ H s):X.K.In s.heap:=I.ok.mod.kin.keeps I.bk
theorem Inv.lt (I:Inv X pins σ H s):X.env.locals < s.heap.objs.size:=let ⟨_,hn,_⟩:=I.loc;hn.lt
theorem Inv.sz (I:Inv X pins σ H s):X.s₀.heap.objs.size<=s.heap.objs.size:=Nat.le_trans I.ok.above (Nat.le_of_lt I.lt)
theorem Inv.nofs (I:Inv X pins σ H s) {a:Addr} (h:s.heap.objs.size<=a):a∉X.fs:=fun hb=>by
 obtain ⟨_,o,ho,_⟩:=I.ok.funs.mem hb
 exact absurd (Nat.lt_of_lt_of_le (Heap.lt_size ho) (Nat.le_trans I.sz h)) (Nat.lt_irrefl _)
theorem Inv.cne (I:Inv X pins σ H s):∀x c,X.env.cells.lookup x=some c->c≠X.env.locals:=fun x c e z=>by
 obtain ⟨v,o,ho,hd⟩:=I.cell x c e
 obtain ⟨m,⟨o',es,ep,ho',hd',_⟩,_⟩:=I.loc
 rw [z,ho'] at ho;cases ho;rw [hd'] at hd;cases hd
theorem Inv.funs (I:Inv X pins σ H s):s.heap.FunFrames X.base X.outer:=by
 have all:∀(l:List Env),(∀b∈frs l,b∈X.fs)->X.s₀.heap.FunFrames X.base l->s.heap.FunFrames X.base l:=by
  intro l
  induction l with
  | nil=>intro _ _;trivial
  | cons env r ih=>
   intro hs hl
   obtain ⟨hk,⟨L,o,hf,hn,ho,hd⟩,hr⟩:=hl
   have hL:L∈X.fs:=hs L (by unfold frs;rw [List.filterMap_cons,hf];exact List.mem_cons_self)
   obtain ⟨sl,e⟩:=I.base.slot L o ho (I.ok.frf L hL) hL fun z=>I.ok.exfs L z hL
   exact ⟨hk,⟨L,_,hf,hn,e,hd⟩,ih (fun b hb=>hs b (by unfold frs;rw [List.filterMap_cons,hf];exact List.mem_cons_of_mem _ hb)) hr⟩
 exact all X.outer (fun _ hb=>hb) I.ok.funs
theorem Inv.stack (I:Inv X pins σ H s):s.heap.FunFrames X.base X.stack:=by
 rcases I.ok.stk with e | ⟨e,hf⟩
 ·rw [e];exact I.funs
 ·rw [e]
  obtain ⟨m,hn,_⟩:=I.loc
  refine .cons (by rw [I.ok.kind];decide) hf hn ?_ I.funs
  exact Heap.get?_none_of_le (Nat.le_trans I.ok.bsz I.ok.above)
theorem Inv.stkSub (I:Inv X pins σ H s):∀b∈frs X.stack,b∈X.env.locals::X.fs:=fun b hb=>by
 rcases I.ok.stk with e | ⟨e,hf⟩
 ·rw [e] at hb;exact List.mem_cons_of_mem _ hb
 ·rw [e] at hb
  unfold frs at hb
  rw [List.filterMap_cons,hf] at hb
  exact hb
theorem Inv.stkFree (I:Inv X pins σ H s):∀b∈frs X.stack,H b=none:=fun b hb=>by
 rcases List.mem_cons.mp (I.stkSub b hb) with e | hb
 ·rw [e];exact I.free
 ·obtain ⟨_,o,ho,_⟩:=I.ok.funs.mem hb
  exact I.base.free b o ho (I.ok.frf b hb) fun z=>I.ok.exfs b z hb
theorem Inv.step {g':Array GenState} {t':Nat} {d':Drawn} {ch:List Addr} (I:Inv X pins σ H s)
  (hch:∀b∈ch,(b∈X.ex\/X.s₀.heap.objs.size<=b)/\b≠X.env.locals/\(∀x c,X.env.cells.lookup x=some c->c≠b)/\∀p∈X.pn++pins,p.1≠b)
  (keep:∀b o,b≠X.env.locals->b∉X.fs->b∉ch->s.heap.get? b=some o->H b=none->h'.get? b=some o)
  (slot:∀b o,b≠X.env.locals->b∈X.fs->b∉ch->s.heap.get? b=some o->H b=none->∃sl,h'.get? b=some { o with slots:=sl }) (free:∀b o,b∉ch->s.heap.get? b=some o->H b=none->H' b=none)
  (there:∀b o,b∉ch->s.heap.get? b=some o->∃o',h'.get? b=some o')
  (tups:∀b xs,H b=some (.tup xs)->H' b=some (.tup xs)) (frzs:∀b o u,H b=some (.frz o u)->H' b=some (.frz o u)) (tbls:∀b ps,H b=some (.tbl ps)->∃more,H' b=some (.tbl (ps++more)))
  (ns:∀m,s.heap.Ns X.env.locals m->h'.Ns X.env.locals m) (hok:HOk X.prog X.w H' h') (hg:AllBare g') :
  Inv X pins σ H' { s with heap:=h',gens:=g',drawn:=d',toks:=t' }:=by
 have neL:∀b o,X.s₀.heap.get? b=some o->b≠X.env.locals:=fun b o e=>Nat.ne_of_lt (Nat.lt_of_lt_of_le (Heap.lt_size e) I.ok.above)
 have neC:∀b o,X.s₀.heap.get? b=some o->b∉X.ex->b∉ch:=fun b o e hx hb=>by
  rcases (hch b hb).1 with z | z
  ·exact hx z
  ·exact absurd (Nat.lt_of_lt_of_le (Heap.lt_size e) z) (Nat.lt_irrefl _)
 have cellK:∀x c,X.env.cells.lookup x=some c->∀v,s.heap.IsCell c v->h'.IsCell c v:=fun x c e v ⟨o,ho,hd⟩=>by
  have nch:c∉ch:=fun z=>(hch c z).2.2.1 x c e rfl
  by_cases hc:c∈X.fs
  ·obtain ⟨sl,q⟩:=slot c o (I.cne x c e) hc nch ho (I.freeC x c e)
   exact ⟨_,q,hd⟩
  ·exact ⟨o,keep c o (I.cne x c e) hc nch ho (I.freeC x c e),hd⟩
 refine ⟨I.ok,I.os,hg,⟨fun b o e n hb hx=>?_,fun b o e n hb hx=>?_,fun b o e n hx=>?_,fun b o e hx=>?_,fun b xs e=>tups b xs (I.base.tups b xs e),fun b o xs e=>frzs b o xs (I.base.frzs b o xs e),fun b ps e=>?_⟩,?_,fun x c e=>?_,?_,fun x c e=>?_,fun p hp=>?_,hok,I.len⟩
 ·exact keep b o (neL b o e) hb (neC b o e hx) (I.base.keep b o e n hb hx) (I.base.free b o e n hx)
 ·obtain ⟨sl,e1⟩:=I.base.slot b o e n hb hx
  obtain ⟨sl',e2⟩:=slot b _ (neL b o e) hb (neC b o e hx) e1 (I.base.free b o e n hx)
  exact ⟨sl',e2⟩
 ·obtain ⟨o',e1⟩:=I.base.there b o e hx
  exact free b o' (neC b o e hx) e1 (I.base.free b o e n hx)
 ·obtain ⟨o',e1⟩:=I.base.there b o e hx
  exact there b o' (neC b o e hx) e1
 ·obtain ⟨m1,e1⟩:=I.base.tbls b ps e
  obtain ⟨m2,e2⟩:=tbls b _ e1
  exact ⟨m1++m2,by rw [e2,Array.append_assoc]⟩
 ·obtain ⟨m,hn,hl⟩:=I.loc
  refine ⟨m,ns m hn,fun i x v e1 e2 e3=>?_⟩
  obtain ⟨u,r,l⟩:=hl i x v e1 e2 e3
  refine ⟨u,r,?_⟩
  rcases l with l | ⟨k,c,e,z⟩
  ·exact .inl l
  ·exact .inr ⟨k,c,e,cellK x c e _ z⟩
 ·obtain ⟨v,z⟩:=I.cell x c e
  exact ⟨v,cellK x c e v z⟩
 ·obtain ⟨m,⟨o,_,_,ho,_⟩,_⟩:=I.loc
  exact free _ o (fun z=>(hch _ z).2.1 rfl) ho I.free
 ·obtain ⟨v,o,ho,hd⟩:=I.cell x c e
  exact free c o (fun z=>(hch c z).2.2.1 x c e rfl) ho (I.freeC x c e)
 ·obtain ⟨e,n,ne,nf,d⟩:=I.pin p hp
  have nch:p.1∉ch:=fun z=>(hch p.1 z).2.2.2 p hp rfl
  exact ⟨keep p.1 p.2 ne nf nch e n,free p.1 p.2 nch e n,ne,nf,d⟩
theorem Inv.un {t':Nat} (I:Inv X pins σ H s) (u:Un X.fs [] H H' s.heap h') (hok:HOk X.prog X.w H' h'):Inv X pins σ H' { s with heap:=h',toks:=t' }:=by
 obtain ⟨m,⟨o,es,ep,ho,r⟩,_⟩:=id I.loc
 obtain ⟨sl,hL⟩:=u.any ho I.free (by simp)
 exact I.step (g':=s.gens) (d':=s.drawn) (ch:=[]) (fun _ z=>nomatch z) (fun b o _ hb _ e n=>u.keep b o e n hb (by simp)) (fun b o _ hb _ e n=>u.slot b o e n hb (by simp)) (fun b o _ e n=>u.free b o e n (by simp)) (fun b o _ e=>u.there b o e (by simp)) u.tups u.frzs u.tbls (fun m' hm=>by
  obtain ⟨o',es',ep',ho',r'⟩:=hm
  rw [ho] at ho';cases ho'
  exact ⟨_,es',ep',hL,r'⟩) hok I.bare
theorem Inv.call {g':Array GenState} {t':Nat} {d':Drawn} {ch:List Addr} (I:Inv X pins σ H s) (u:Un (frs X.stack) ch H H' s.heap h') (hok:HOk X.prog X.w H' h') (hg:AllBare g')
  (hch:∀b∈ch,(b∈X.ex\/X.s₀.heap.objs.size<=b)/\b≠X.env.locals/\(∀x c,X.env.cells.lookup x=some c->c≠b)/\∀p∈X.pn++pins,p.1≠b) :
  Inv X pins σ H' { s with heap:=h',gens:=g',drawn:=d',toks:=t' }:=by
 obtain ⟨m,⟨o,es,ep,ho,r⟩,_⟩:=id I.loc
 obtain ⟨sl,hL⟩:=u.any ho I.free fun z=>(hch _ z).2.1 rfl
 exact I.step (ch:=ch) hch (fun b o hL hb hc e n=>u.keep b o e n (fun z=>(List.mem_cons.mp (I.stkSub b z)).elim hL hb) hc) (fun b o _ _ hc e n=>u.any e n hc) (fun b o hc e n=>u.free b o e n hc) (fun b o hc e=>u.there b o e hc) u.tups u.frzs u.tbls (fun m' hm=>by
  obtain ⟨o',es',ep',ho',r'⟩:=hm
  rw [ho] at ho';cases ho'
  exact ⟨_,es',ep',hL,r'⟩) hok hg
theorem Inv.turned {t':Nat} {it:Addr} (I:Inv X pins σ H s) (k:∀b o,b≠it->s.heap.get? b=some o->h'.get? b=some o) (hn:H it=none) (hL:it≠X.env.locals)
  (h1:it∈X.ex\/X.s₀.heap.objs.size<=it) (h2:∀x c,X.env.cells.lookup x=some c->c≠it) (h3:∀p∈X.pn++pins,p.1≠it):Inv X pins σ H { s with heap:=h',toks:=t' }:=by
 have nit:∀b u,H b=some u->b≠it:=fun b u e z=>by rw [z,hn] at e;cases e
 refine I.step (g':=s.gens) (d':=s.drawn) (ch:=[it]) (fun b hb=>?_) (fun b o _ _ hc e _=>k b o (fun z=>hc (by simp [z])) e) (fun b o _ _ hc e _=>⟨o.slots,k b o (fun z=>hc (by simp [z])) e⟩) (fun _ _ _ _ n=>n)
  (fun b o hc e=>⟨o,k b o (fun z=>hc (by simp [z])) e⟩) (fun _ _ e=>e) (fun _ _ _ e=>e) (fun b ps e=>⟨#[],by rw [e];simp⟩) (fun m hm=>?_) (fun b u e=>?_) I.bare
 ·have e:b=it:=by simpa using hb
  subst e
  exact ⟨h1,hL,h2,h3⟩
 ·obtain ⟨o,es,ep,ho,r⟩:=hm
  exact ⟨o,es,ep,k _ o (Ne.symm hL) ho,r⟩
 ·refine (I.hok b u e).stay (fun c v hc q=>k c v ?_ q) (fun _ q=>q) fun _ _ q=>q
  rcases hc with z | z
  ·rw [z];exact nit b u e
  ·exact nit c _ z
theorem Inv.tok (I:Inv X pins σ H s) (t:Nat):Inv X pins σ H { s with toks:=t }:=I.un (h':=s.heap) (t':=t) Un.refl I.hok
theorem Inv.kept {t':Nat} (I:Inv X pins σ H s) (k:∀b u,s.heap.get? b=some u->h'.get? b=some u):Inv X pins σ H { s with heap:=h',toks:=t' }:=I.un (Un.kept k) (I.hok.kept k)
theorem Inv.laid {a:Addr} {o:HO} {t':Nat} (I:Inv X pins σ H s) (k:∀b u,s.heap.get? b=some u->h'.get? b=some u) (hp:s.heap.objs.size<=a) (new:ObjOk X.prog X.w (upd H a o) h' a o) :
  Inv X pins σ (upd H a o) { s with heap:=h',toks:=t' }:=I.un (Un.laid k hp (I.hok.fresh hp)) (I.hok.laid k hp new)
theorem Inv.write {x e:Addr} {o:HO} {t':Nat} (I:Inv X pins σ H s) (mu:Mut (H x)) (he:e=x\/H e=some (.own x)) (k:∀b u,b≠e->s.heap.get? b=some u->h'.get? b=some u) (heo:∃u,h'.get? e=some u)
  (new:ObjOk X.prog X.w (upd H x o) h' x o):Inv X pins σ (upd H x o) { s with heap:=h',toks:=t' }:=I.un (Un.write mu he k heo) (I.hok.write mu he k heo new)
theorem Inv.pins_of {pins':List (Addr×Obj)} (I:Inv X pins σ H s) (h:∀p∈pins',s.heap.get? p.1=some p.2/\H p.1=none/\p.1≠X.env.locals/\p.1∉X.fs/\∀v,p.2.data≠.cell v):Inv X pins' σ H s:=
 ⟨I.ok,I.os,I.bare,I.base,I.loc,I.cell,I.free,I.freeC,fun p hp=>(List.mem_append.mp hp).elim (fun z=>I.pin p (List.mem_append_left _ z)) (h p),I.hok,I.len⟩
theorem nodup_ix {N:List Str} (hN:N.Nodup) {i j:Nat} {x:Str} (a:N[i]? = some x) (b:N[j]? = some x):i=j:=by
 obtain ⟨h1,e1⟩:=List.getElem?_eq_some_iff.mp a
 obtain ⟨h2,e2⟩:=List.getElem?_eq_some_iff.mp b
 exact (List.getElem_inj hN).mp (e1.trans e2.symm)
theorem store_ok2 {M:Model} {A:Around} {E:Value->Shared->Prop} {i:Nat} {x:Str} {v:V} {u:Value} {Q:Unit->Shared->Prop} (I:Inv X pins σ H s) (hN:X.N.Nodup) (hi:X.N[i]? = some x) (hx:Loc X.env.scope x) (r:RelV v u)
  (h:∀s',Inv X pins (σ.set i (some v)) H s'->(∃a,Heap.SameBut a s.heap s'.heap/\(a=X.env.locals\/X.env.cells.lookup x=some a))->Q () s') (hf:X.fn x=true\/X.env.scope.names.lookup x=some .local:=by first | exact .inl rfl | exact .inr rfl | assumption):wpAny M A (storeName X.env x u) Q E s:=by
 obtain ⟨m,hn,hl⟩:=id I.loc
 have hcls:(X.env.scope.kind == .class || (X.env.scope.kind == .module && X.env.locals != X.env.globals))=false:=by rw [I.ok.kind];rfl
 have hiσ:i < σ.length:=by rw [I.len];exact (List.getElem?_eq_some_iff.mp hi).1
 have cne:=I.cne
 have tracked:∀{a:Addr} {h':Heap},(∃o,s.heap.get? a=some o/\H a=none)->Heap.SameBut a s.heap h'->HOk X.prog X.w H h':=fun {a h'} ha hs b ob e=>by
  obtain ⟨_,_,hfree⟩:=ha
  refine (I.hok b ob e).stay (fun c w' hc q=>(hs.2 c ?_).trans q) (fun _ q=>q) fun _ _ q=>q
  rintro rfl
  rcases hc with rfl | hc
  ·rw [hfree] at e;cases e
  ·rw [hfree] at hc;cases hc
 rcases hx with hk | hk
 ·refine wpAny_storeName_local hk hn (fun h' hn' hs=>?_) hcls
  obtain ⟨oL,_,_,hoL,_⟩:=id hn
  refine h _ ⟨I.ok,I.os,I.bare,⟨fun b o e n hb hx=>?_,fun b o e n hb hx=>?_,I.base.free,fun b o e hx=>?_,I.base.tups,I.base.frzs,I.base.tbls⟩,⟨_,hn',fun j y v' e1 e2 e3=>?_⟩,fun y c e=>?_,I.free,I.freeC,fun p hp=>?_,tracked ⟨oL,hoL,I.free⟩ hs,by simpa using I.len⟩ ⟨_,hs,.inl rfl⟩
  ·exact (hs.2 b (Nat.ne_of_lt (Nat.lt_of_lt_of_le (Heap.lt_size e) I.ok.above))).trans (I.base.keep b o e n hb hx)
  ·obtain ⟨sl,e1⟩:=I.base.slot b o e n hb hx
   exact ⟨sl,(hs.2 b (Nat.ne_of_lt (Nat.lt_of_lt_of_le (Heap.lt_size e) I.ok.above))).trans e1⟩
  ·obtain ⟨o',e1⟩:=I.base.there b o e hx
   exact ⟨o',(hs.2 b (Nat.ne_of_lt (Nat.lt_of_lt_of_le (Heap.lt_size e) I.ok.above))).trans e1⟩
  ·by_cases hj:j=i
   ·subst hj
    rw [hi] at e1;cases e1
    rw [List.getElem?_set_self hiσ] at e2
    cases e2
    exact ⟨u,r,.inl ⟨hk,by simp⟩⟩
   ·rw [List.getElem?_set_ne (Ne.symm hj)] at e2
    obtain ⟨u',r',q⟩:=hl j y v' e1 e2 e3
    refine ⟨u',r',?_⟩
    rcases q with ⟨k,e⟩ | ⟨k,c,e,z⟩
    ·refine .inl ⟨k,?_⟩
     have:y≠x:=fun e=>hj (nodup_ix hN e1 (e ▸ hi))
     simp [this,e]
    ·exact .inr ⟨k,c,e,z.sameBut hs (cne y c e)⟩
  ·obtain ⟨w',z⟩:=I.cell y c e
   exact ⟨w',z.sameBut hs (cne y c e)⟩
  ·obtain ⟨e,n,ne,nf,d⟩:=I.pin p hp
   exact ⟨(hs.2 p.1 ne).trans e,n,ne,nf,d⟩
 ·have hfn:X.fn x=true:=by
   rcases hf with z | z
   ·exact z
   ·rw [z] at hk;cases hk
  obtain ⟨c,hc⟩:=I.ok.has x (.inl hk)
  obtain ⟨w',z⟩:=I.cell x c hc
  refine wpAny_storeName_cell I.ok.kind hk hc z (fun h' hc' hs=>?_)
  obtain ⟨oc,hoc,hocd⟩:=id z
  refine h { s with heap:=h' } ⟨I.ok,I.os,I.bare,⟨fun b o e n hb hx=>?_,fun b o e n hb hx=>?_,I.base.free,fun b o e hx=>?_,I.base.tups,I.base.frzs,I.base.tbls⟩,⟨m,hn.sameBut hs (Ne.symm (cne x c hc)),fun j y v' e1 e2 e3=>?_⟩,fun y c' e=>?_,I.free,I.freeC,fun p hp=>?_,tracked ⟨oc,hoc,I.freeC x c hc⟩ hs,by simpa using I.len⟩ ⟨c,hs,.inr hc⟩
  ·exact (hs.2 b (Nat.ne_of_lt (Nat.lt_of_lt_of_le (Heap.lt_size e) (I.ok.cab x c hfn hc)))).trans (I.base.keep b o e n hb hx)
  ·obtain ⟨sl,e1⟩:=I.base.slot b o e n hb hx
   exact ⟨sl,(hs.2 b (Nat.ne_of_lt (Nat.lt_of_lt_of_le (Heap.lt_size e) (I.ok.cab x c hfn hc)))).trans e1⟩
  ·obtain ⟨o',e1⟩:=I.base.there b o e hx
   exact ⟨o',(hs.2 b (Nat.ne_of_lt (Nat.lt_of_lt_of_le (Heap.lt_size e) (I.ok.cab x c hfn hc)))).trans e1⟩
  ·by_cases hj:j=i
   ·subst hj
    rw [hi] at e1;cases e1
    rw [List.getElem?_set_self hiσ] at e2
    cases e2
    exact ⟨u,r,.inr ⟨.inl hk,c,hc,hc'⟩⟩
   ·rw [List.getElem?_set_ne (Ne.symm hj)] at e2
    obtain ⟨u',r',q⟩:=hl j y v' e1 e2 e3
    refine ⟨u',r',?_⟩
    rcases q with q | ⟨k,c',e,z'⟩
    ·exact .inl q
    ·refine .inr ⟨k,c',e,z'.sameBut hs ?_⟩
     rintro rfl
     exact hj (nodup_ix hN e1 (I.ok.inj _ _ _ e hc ▸ hi))
  ·by_cases hcc:c'=c
   ·subst hcc;exact ⟨_,hc'⟩
   ·obtain ⟨w2,z2⟩:=I.cell y c' e
    exact ⟨w2,z2.sameBut hs hcc⟩
  ·obtain ⟨e,n,ne,nf,d⟩:=I.pin p hp
   refine ⟨(hs.2 p.1 ?_).trans e,n,ne,nf,d⟩
   intro q
   rw [q,hoc] at e
   have q':oc=p.2:=Option.some.inj e
   exact d w' (by rw [<-q'];exact hocd)
theorem store_ok {M:Model} {A:Around} {E:Value->Shared->Prop} {i:Nat} {x:Str} {v:V} {u:Value} {Q:Unit->Shared->Prop} (I:Inv X pins σ H s) (hN:X.N.Nodup) (hi:X.N[i]? = some x) (hx:Loc X.env.scope x) (r:RelV v u)
  (h:∀s',Inv X pins (σ.set i (some v)) H s'->Q () s') (hf:X.fn x=true\/X.env.scope.names.lookup x=some .local:=by first | exact .inl rfl | exact .inr rfl | assumption):wpAny M A (storeName X.env x u) Q E s:=
 store_ok2 I hN hi hx r (fun s' I' _=>h s' I') hf
theorem Inv.call' {s':Shared} {ch:List Addr} (I:Inv X pins σ H s) (ho:s'.os=s.os) (u:Un (frs X.stack) ch H H' s.heap s'.heap) (hok:HOk X.prog X.w H' s'.heap) (hg:AllBare s'.gens)
  (hch:∀b∈ch,(b∈X.ex\/X.s₀.heap.objs.size<=b)/\b≠X.env.locals/\(∀x c,X.env.cells.lookup x=some c->c≠b)/\∀p∈X.pn++pins,p.1≠b):Inv X pins σ H' s':=by
 obtain ⟨h',g',d',t',o'⟩:=s'
 have e:o'=s.os:=ho
 subst e
 exact I.call (g':=g') (t':=t') (d':=d') u hok hg hch
end
abbrev XK:=Value->Option Addr->Hp->Prop
abbrev St:=List (Option V)
abbrev VK:=V->Hp->Prop
abbrev TE:=St->Hp->VK->Prop
abbrev TT:=St->Hp->(Bool->Hp->Prop)->Prop
abbrev TA:=St->Hp->(List V->Hp->Prop)->Prop
structure Ends where
 nx:St->Hp->Prop
 rt:VK
 bk:St->Hp->Prop:=fun _ _=>False
 ct:St->Hp->Prop:=fun _ _=>False
abbrev TS:=Ends->St->Hp->Prop
def EP (X:Cx) (pins:List (Addr×Obj)) (σ:St) (Q:VK) (u:Value) (s':Shared):Prop:=∃v H',Inv X pins σ H' s'/\RelV v u/\Q v H'
def TP (X:Cx) (pins:List (Addr×Obj)) (σ:St) (Q:Bool->Hp->Prop) (b:Bool) (s':Shared):Prop:=∃H',Inv X pins σ H' s'/\Q b H'
def AP (X:Cx) (pins:List (Addr×Obj)) (σ:St) (Q:List V->Hp->Prop) (us:List Value) (s':Shared):Prop:=∃vs H',Inv X pins σ H' s'/\Vals vs us/\Q vs H'
def SP (X:Cx) (pins:List (Addr×Obj)) (D:Ends) (f:Flow) (s':Shared):Prop:=
 match f with
 | .next=>∃σ' H',Inv X pins σ' H' s'/\D.nx σ' H'
 | .brk=>∃σ' H',Inv X pins σ' H' s'/\D.bk σ' H'
 | .cont=>∃σ' H',Inv X pins σ' H' s'/\D.ct σ' H'
 | .ret u=>∃v σ' H',Inv X pins σ' H' s'/\RelV v u/\D.rt v H'
def PE (X:Cx) (e:Expr) (t:TE):Prop:=
 ∀(pins:List (Addr×Obj)) (s:Shared) (σ:St) (H:Hp) (Q:VK),Inv X pins σ H s->t σ H Q->wpAny (model X.prog X.w) X.A (eval e X.env) (EP X pins σ Q) X.xe s
def PT (X:Cx) (e:Expr) (t:TT):Prop:=
 ∀(pins:List (Addr×Obj)) (s:Shared) (σ:St) (H:Hp) (Q:Bool->Hp->Prop),Inv X pins σ H s->t σ H Q->wpAny (model X.prog X.w) X.A (isTrue e X.env (eval e X.env)) (TP X pins σ Q) X.xe s
def PW (X:Cx) (e:Expr) (t:TT):Prop:=
 ∀(whole:Sem Value) (pins:List (Addr×Obj)) (s:Shared) (σ:St) (H:Hp) (Q:Bool->Hp->Prop),Inv X pins σ H s->t σ H Q->wpAny (model X.prog X.w) X.A (isTrue e X.env whole) (TP X pins σ Q) X.xe s
theorem PW.pt {X:Cx} {e:Expr} {t:TT} (h:PW X e t):PT X e t:=h _
def PA (X:Cx) (es:List Expr) (t:TA):Prop:=
 ∀(pos:Pos) (pins:List (Addr×Obj)) (s:Shared) (σ:St) (H:Hp) (Q:List V->Hp->Prop),Inv X pins σ H s->t σ H Q->wpAny (model X.prog X.w) X.A (spliced (backTo pos (starEach es X.env))) (AP X pins σ Q) X.xe s
def PS (X:Cx) (st:Stmt) (t:TS):Prop:=
 ∀(pins:List (Addr×Obj)) (s:Shared) (σ:St) (H:Hp) (D:Ends),Inv X pins σ H s->t D σ H->wpAny (model X.prog X.w) X.A (exec st X.env) (SP X pins D) X.xe s
def PSs (X:Cx) (st:List Stmt) (t:TS):Prop:=
 ∀(pins:List (Addr×Obj)) (s:Shared) (σ:St) (H:Hp) (D:Ends),Inv X pins σ H s->t D σ H->wpAny (model X.prog X.w) X.A (execs st X.env) (SP X pins D) X.xe s
theorem thn {α:Type} {t:Sem α} {Q Q':α->Shared->Prop} {M:Model} {A:Around} {E:Value->Shared->Prop} {s:Shared} (h:wpAny M A t Q E s) (hQ:∀a s,Q a s->Q' a s):wpAny M A t Q' E s:=wpAny_mono h hQ fun _ _ x=>x
end L2
namespace L2
open PySem PySem.Spec PyProof.Rows
section
variable {X:Cx}
theorem bin {a b:Expr} {ta tb:TE} (ha:PE X a ta) (hb:PE X b tb) {pins:List (Addr×Obj)} {s:Shared} {σ:St} {H:Hp} {R:V->V->Hp->Prop} (I:Inv X pins σ H s) (h:ta σ H fun x H1=>tb σ H1 fun y H2=>R x y H2)
  {α:Type} {Q:α->Shared->Prop} {f:Value->Value->Sem α}
  (hf:∀v u s2 x y H2,Inv X pins σ H2 s2->RelV x v->RelV y u->R x y H2->wpAny (model X.prog X.w) X.A (f v u) Q X.xe s2) :
  wpAny (model X.prog X.w) X.A (eval a X.env) (fun v s₁=>wpAny (model X.prog X.w) X.A (eval b X.env) (fun u s₂=>wpAny (model X.prog X.w) X.A (f v u) Q X.xe s₂) X.xe s₁) X.xe s:=by
 refine thn (ha pins s σ H _ I h) fun v s1 ⟨x,H1,I1,r1,q1⟩=>?_
 refine thn (hb pins s1 σ H1 _ I1 q1) fun u s2 ⟨y,H2,I2,r2,q2⟩=>?_
 exact hf v u s2 x y H2 I2 r1 r2 q2
def tVar (i:Nat):TE:=fun σ H Q=>∃v,σ[i]? = some (some v)/\Q v H
def tC (v:V):TE:=fun _ H Q=>Q v H
theorem pe_var {i:Nat} {x:Str} {pos:Pos} (hN:X.N[i]? = some x) (hv:Vis X.env.scope x) (hd:(x == ("__debug__" : Str))=false:=by decide) (hcd:(x == ("__classdict__" : Str))=false:=by decide):PE X (.Name x pos) (tVar i):=by
 intro pins s σ H Q I h
 obtain ⟨v,e,h⟩:=h
 obtain ⟨m,hn,hl⟩:=I.loc
 obtain ⟨u,r,l⟩:=hl i x v hN e hv
 have fin:EP X pins σ Q u s:=⟨v,H,I,r,h⟩
 rcases l with ⟨hk,hm⟩ | ⟨hk,c,hc,hcell⟩
 ·exact wpAny_Name (wpAny_loadName_local I.ok.kind hk hn hm fin) hd
 ·rcases hk with hk | hk
  ·exact wpAny_Name (wpAny_loadName_cell I.ok.kind hk hc hcell fin) hd
  ·exact wpAny_Name (wpAny_loadName_free I.ok.kind hk hc hcell fin hcd) hd
theorem pe_int {i j pos}:PE X (.Constant (.int i) j pos) (tC (.int i)):=fun _ _ _ H _ I h=>wpAny_Constant_int ⟨.int i,H,I.tok _,⟨_,rfl⟩,h⟩
theorem pe_bl {b j pos}:PE X (.Constant (.bool b) j pos) (tC (.bl b)):=fun _ _ _ H _ I h=>Constant_bool ⟨.bl b,H,I,rfl,h⟩
theorem pe_str {x j pos}:PE X (.Constant (.str x) j pos) (tC (.str x)):=fun _ _ _ H _ I h=>Calls.Constant_str ⟨.str x,H,I.tok _,⟨_,rfl⟩,h⟩
def Gl (X:Cx) (x:Str):Prop:=X.env.kindOf x=some .globalImplicit
theorem ld_glob {E:Value->Shared->Prop} {pins:List (Addr×Obj)} {s:Shared} {σ:St} {H:Hp} {x:Str} {u:Value} {pos:Pos} {Q:Value->Shared->Prop} (I:Inv X pins σ H s) (hg:Gl X x) (hm:X.mg x=some u) (h:Q u s)
  (hd:(x == ("__debug__" : Str))=false:=by decide):wpAny (model X.prog X.w) X.A (eval (.Name x pos) X.env) Q E s:=
 Calls.Name_function_global I.ok.kind hg (Calls.loadGlobal_global (by rw [I.ok.glob];exact I.mod.glob.keeps I.bk) hm h) hd
theorem ld_blt {E:Value->Shared->Prop} {pins:List (Addr×Obj)} {s:Shared} {σ:St} {H:Hp} {x:Str} {u:Value} {pos:Pos} {Q:Value->Shared->Prop} (I:Inv X pins σ H s) (hg:Gl X x) (hm:X.mg x=none) (hv:bootBuiltins x=some u) (h:Q u s)
  (hn:x≠"__name__":=by decide) (hd:(x == ("__debug__" : Str))=false:=by decide):wpAny (model X.prog X.w) X.A (eval (.Name x pos) X.env) Q E s:=by
 obtain ⟨mb,h1,h2⟩:=I.mod.blt
 exact Calls.Name_function_global I.ok.kind hg (Calls.loadGlobal_builtin (by rw [I.ok.glob];exact I.mod.glob.keeps I.bk) hm (by rw [I.ok.blt];exact h1.keeps I.bk) ((h2 x hn).trans hv) h) hd
theorem pe_bltn {x:Str} {v:V} {u:Value} {pos:Pos} (hg:Gl X x) (hm:X.mg x=none) (hv:bootBuiltins x=some u) (r:RelV v u) (hn:x≠"__name__":=by decide) (hd:(x == ("__debug__" : Str))=false:=by decide):PE X (.Name x pos) (tC v):=
 fun _ _ _ H _ I h=>ld_blt I hg hm hv ⟨v,H,I,r,h⟩ hn hd
variable {a b:Expr} {ta tb:TE} {pos:Pos}
def PC (X:Cx) (op:CmpOp) (a b:Expr) (t:TE):Prop:=
 ∀(pins:List (Addr×Obj)) (s:Shared) (σ:St) (H:Hp) (Q:VK),Inv X pins σ H s->t σ H Q->
  wpAny (model X.prog X.w) X.A (eval a X.env) (fun v s₁=>wpAny (model X.prog X.w) X.A (eval b X.env) (fun u s₂=>wpAny (model X.prog X.w) X.A (compareOp op v u) (EP X pins σ Q) X.xe s₂) X.xe s₁) X.xe s
theorem nobehind (b:Expr) {op:CmpOp} (h:op≠.In) (h2:op≠.NotIn):behindInMarks op b=false:=by
 have e1:(op == CmpOp.In)=false:=by cases op <;> first | rfl | exact absurd rfl h
 have e2:(op == CmpOp.NotIn)=false:=by cases op <;> first | rfl | exact absurd rfl h2
 cases b <;> simp [behindInMarks,e1,e2]
def tB (t:TE):TT:=fun σ H Q=>t σ H fun x H1=>∃c,x=.bl c/\Q c H1
theorem pt_cmp {op:CmpOp} {t:TE} (h:PC X op a b t) (h1:behindInMarks op b=false:=by first | exact nobehind _ (by decide) (by decide) | rfl):PT X (.Compare a [op] [b] pos) (tB t):=by
 intro pins s σ H Q I hw
 refine wpAny_isTrue_Compare1 (thn (h pins s σ H _ I hw) fun v s1 h1=>thn h1 fun u s2 h2=>thn h2 fun c s3 ⟨x,H1,I1,r1,q1⟩=>?_) h1
 obtain ⟨d,rfl,q⟩:=q1
 cases r1
 exact wpAny_truthy_bool ⟨H1,I1,q⟩
theorem pt_val {e:Expr} {t:TE} (h:PE X e t) (he:∀whole,isTrue e X.env whole=(do let v <-whole;standAt e.pos;holding [v] (truthy v)):=by intro _;rfl):PT X e (tB t):=by
 intro pins s σ H Q I hw
 refine isTrue_plain (thn (h pins s σ H _ I hw) fun v s1 ⟨x,H1,I1,r1,q1⟩=>?_) (he _)
 obtain ⟨d,rfl,q⟩:=q1
 cases r1
 exact wpAny_truthy_bool ⟨H1,I1,q⟩
variable {tA tB':TT} {rest:List Expr}
def tAnd (t u:TT):TT:=fun σ H Q=>t σ H fun c H1=>if c=true then u σ H1 Q else Q false H1
def tOr (t u:TT):TT:=fun σ H Q=>t σ H fun c H1=>if c=true then Q true H1 else u σ H1 Q
def tNot (t:TT):TT:=fun σ H Q=>t σ H fun c H1=>Q (!c) H1
theorem pw_and1 (ha:PT X a tA):PW X (.BoolOp .And [a] pos) tA:=by
 intro wh pins s σ H Q I h
 refine isTrue_and (thn (ha pins s σ H Q I h) fun c s1 e=>?_)
 cases c with
 | true=>exact isTrue_and_nil e
 | false=>exact e
theorem pw_or1 (ha:PT X a tA):PW X (.BoolOp .Or [a] pos) tA:=by
 intro wh pins s σ H Q I h
 refine isTrue_or (thn (ha pins s σ H Q I h) fun c s1 e=>?_)
 cases c with
 | false=>exact isTrue_or_nil e
 | true=>exact e
theorem pw_and (ha:PT X a tA) (hb:PW X (.BoolOp .And (b::rest) pos) tB'):PW X (.BoolOp .And (a::b::rest) pos) (tAnd tA tB'):=by
 intro wh pins s σ H Q I h
 refine isTrue_and (thn (ha pins s σ H _ I h) fun c s1 ⟨H1,I1,q1⟩=>?_)
 cases c with
 | true=>exact hb wh pins s1 σ H1 Q I1 q1
 | false=>exact ⟨H1,I1,q1⟩
theorem pw_or (ha:PT X a tA) (hb:PW X (.BoolOp .Or (b::rest) pos) tB'):PW X (.BoolOp .Or (a::b::rest) pos) (tOr tA tB'):=by
 intro wh pins s σ H Q I h
 refine isTrue_or (thn (ha pins s σ H _ I h) fun c s1 ⟨H1,I1,q1⟩=>?_)
 cases c with
 | true=>exact ⟨H1,I1,q1⟩
 | false=>exact hb wh pins s1 σ H1 Q I1 q1
theorem pt_not (ha:PT X a tA):PT X (.UnaryOp .Not a pos) (tNot tA):=by
 intro pins s σ H Q I h
 exact isTrue_not (ha pins s σ H (fun c H1=>Q (!c) H1) I h)
def tAndV (ta tb:TE):TE:=fun σ H Q=>ta σ H fun x H1=>∃c,x=.bl c/\if c=true then tb σ H1 Q else Q (.bl false) H1
def tOrV (ta tb:TE):TE:=fun σ H Q=>ta σ H fun x H1=>∃c,x=.bl c/\if c=true then Q (.bl true) H1 else tb σ H1 Q
def tNotV (ta:TE):TE:=fun σ H Q=>ta σ H fun x H1=>∃c,x=.bl c/\Q (.bl (!c)) H1
theorem pe_one {op} {t:TE} (h:PE X a t):PE X (.BoolOp op [a] pos) t:=fun pins s σ H Q I hw=>BoolOp_one (h pins s σ H Q I hw)
theorem pe_and (ha:PE X a ta) (hb:PE X (.BoolOp .And (b::rest) pos) tb):PE X (.BoolOp .And (a::b::rest) pos) (tAndV ta tb):=by
 intro pins s σ H Q I h
 refine BoolOp_and (thn (ha pins s σ H _ I h) fun v s1 ⟨x,H1,I1,r1,q1⟩=>?_)
 obtain ⟨c,rfl,q1⟩:=q1
 cases r1
 refine wpAny_truthy_bool ?_
 cases c with
 | true=>exact hb pins s1 σ H1 Q I1 q1
 | false=>exact ⟨.bl false,H1,I1,rfl,q1⟩
theorem pe_or (ha:PE X a ta) (hb:PE X (.BoolOp .Or (b::rest) pos) tb):PE X (.BoolOp .Or (a::b::rest) pos) (tOrV ta tb):=by
 intro pins s σ H Q I h
 refine BoolOp_or (thn (ha pins s σ H _ I h) fun v s1 ⟨x,H1,I1,r1,q1⟩=>?_)
 obtain ⟨c,rfl,q1⟩:=q1
 cases r1
 refine wpAny_truthy_bool ?_
 cases c with
 | false=>exact hb pins s1 σ H1 Q I1 q1
 | true=>exact ⟨.bl true,H1,I1,rfl,q1⟩
theorem pe_not (ha:PE X a ta):PE X (.UnaryOp .Not a pos) (tNotV ta):=by
 intro pins s σ H Q I h
 refine UnaryOp_ (thn (ha pins s σ H _ I h) fun v s1 ⟨x,H1,I1,r1,q1⟩=>?_)
 obtain ⟨c,rfl,q1⟩:=q1
 cases r1
 exact not_of (wpAny_truthy_bool ⟨.bl (!c),H1,I1,rfl,q1⟩)
def tIf (t:TT) (ta tb:TE):TE:=fun σ H Q=>t σ H fun c H1=>if c=true then ta σ H1 Q else tb σ H1 Q
end
end L2
namespace L2
open PySem PySem.Spec PyProof.Rows
def SqL (K:PySem.W.Frag) (H:Hp) (a:Addr) (xs:List V):Prop:=
 Rd H a (.lst xs)\/
  ∃(o:Obj) (its:Array Value) (n:Nat),K.lookup a=some o/\o.cls=.type "list"/\o.dict=none/\o.data=.seq its n/\its.size<=sizeLine/\Vals xs its.toList
def SqT (K:PySem.W.Frag) (H:Hp) (a:Addr) (xs:List V):Prop:=
 Rd H a (.tup xs)\/
  ∃(o:Obj) (its:Array Value) (n:Nat),K.lookup a=some o/\o.cls=.type "tuple"/\o.data=.seq its n/\its.size<=sizeLine/\Vals xs its.toList
def absV:Value->Option V
 | .none=>some .non
 | .bool b=>some (.bl b)
 | .int i _=>some (.int i)
 | .str x _=>some (.str x)
 | .bytes b _=>some (.byt b)
 | .float b _=>some (.flt b)
 | .ref a=>some (.ref a)
 | .type n=>some (.ty n)
 | _=>none
theorem RelV.abs {x:V} {u:Value} (r:RelV x u):absV u=some x:=by
 cases x with
 | non=>cases r;rfl
 | bl _=>cases r;rfl
 | int _=>obtain ⟨t,rfl⟩:=r;rfl
 | str _=>obtain ⟨t,rfl⟩:=r;rfl
 | byt _=>obtain ⟨t,rfl⟩:=r;rfl
 | flt _=>obtain ⟨t,rfl⟩:=r;rfl
 | ref _=>cases r;rfl
 | ty _=>cases r;rfl
theorem RelV.inj {x y:V} {u:Value} (r:RelV x u) (q:RelV y u):x=y:=Option.some.inj (r.abs.symm.trans q.abs)
theorem Vals.inj:∀{xs ys:List V} {us:List Value},Vals xs us->Vals ys us->xs=ys
 | _,_,_,.nil,.nil=>rfl
 | _,_,_,.cons r t,.cons r' t'=>by rw [r.inj r',Vals.inj t t']
section
variable {X:Cx} {pins:List (Addr×Obj)} {σ:St} {H:Hp} {s:Shared} {a:Addr} {xs ys:List V}
theorem SqL.of {K:PySem.W.Frag} (h:H a=some (.lst xs)):SqL K H a xs:=.inl (.inl h)
theorem SqT.of {K:PySem.W.Frag} (h:H a=some (.tup xs)):SqT K H a xs:=.inl (.inl h)
theorem Inv.list (I:Inv X pins σ H s) (h:SqL X.K H a xs):∃its:List Value,Vals xs its/\PlainL s.heap a its.toArray/\xs.length<=sizeLine:=by
 rcases h with h | ⟨o,its,n,hk,hc,hd,hs,hz,r⟩
 ·obtain ⟨z,its,n,r,e⟩:=h.ok I.hok
  exact ⟨its,r,⟨_,n,e,rfl,rfl,rfl⟩,z⟩
 ·refine ⟨its.toList,r,⟨o,n,I.kIn a o hk,hc,hd,by simpa using hs⟩,?_⟩
  have e:=r.length
  simp only [Array.length_toList] at e
  lia
theorem Inv.tuple (I:Inv X pins σ H s) (h:SqT X.K H a xs):∃its:List Value,Vals xs its/\IsTup s.heap a its.toArray/\xs.length<=sizeLine:=by
 rcases h with h | ⟨o,its,n,hk,hc,hs,hz,r⟩
 ·obtain ⟨z,its,r,p⟩:=h.ok I.hok
  exact ⟨its,r,p,z⟩
 ·refine ⟨its.toList,r,⟨o,I.kIn a o hk,hc,n,by simpa using hs⟩,?_⟩
  have e:=r.length
  simp only [Array.length_toList] at e
  lia
theorem Inv.list_inj (I:Inv X pins σ H s) (h:SqL X.K H a xs) (h':SqL X.K H a ys):xs=ys:=by
 obtain ⟨its,r,⟨o,n,e,_,_,d⟩,_⟩:=I.list h
 obtain ⟨its',r',⟨o',n',e',_,_,d'⟩,_⟩:=I.list h'
 rw [e] at e';cases e'
 rw [d] at d'
 injection d' with d1 _
 have:its=its':=by simpa using congrArg Array.toList d1
 subst this
 exact r.inj r'
theorem Inv.tuple_inj (I:Inv X pins σ H s) (h:SqT X.K H a xs) (h':SqT X.K H a ys):xs=ys:=by
 obtain ⟨its,r,⟨o,e,_,n,d⟩,_⟩:=I.tuple h
 obtain ⟨its',r',⟨o',e',_,n',d'⟩,_⟩:=I.tuple h'
 rw [e] at e';cases e'
 rw [d] at d'
 injection d' with d1 _
 have:its=its':=by simpa using congrArg Array.toList d1
 subst this
 exact r.inj r'
end
abbrev Cx.wish (X:Cx) (E:Value->Shared->Prop):Cx:={ X with xe:=E }
abbrev Cx.nox (X:Cx):Cx:=X.wish fun _ _=>False
theorem Cx.Ok.wish {X:Cx} (ok:X.Ok) (E:Value->Shared->Prop):(X.wish E).Ok:=
 ⟨ok.mod,ok.kind,ok.glob,ok.blt,ok.above,ok.inj,ok.has,ok.cab,ok.hd,ok.frames,ok.stk,ok.exf,ok.bs,ok.bsz,ok.noex,ok.exfs,ok.funs,ok.frf⟩
theorem Cx.Ok.unwish {X:Cx} {E:Value->Shared->Prop} (ok:(X.wish E).Ok):X.Ok:=
 ⟨ok.mod,ok.kind,ok.glob,ok.blt,ok.above,ok.inj,ok.has,ok.cab,ok.hd,ok.frames,ok.stk,ok.exf,ok.bs,ok.bsz,ok.noex,ok.exfs,ok.funs,ok.frf⟩
section
variable {X:Cx} {pins:List (Addr×Obj)} {σ:St} {H:Hp} {s:Shared} {E:Value->Shared->Prop}
theorem Inv.wish (I:Inv X pins σ H s) (E:Value->Shared->Prop):Inv (X.wish E) pins σ H s:=⟨I.ok.wish E,I.os,I.bare,I.base,I.loc,I.cell,I.free,I.freeC,I.pin,I.hok,I.len⟩
theorem Inv.unwish (I:Inv (X.wish E) pins σ H s):Inv X pins σ H s:=⟨I.ok.unwish,I.os,I.bare,I.base,I.loc,I.cell,I.free,I.freeC,I.pin,I.hok,I.len⟩
theorem SP.unwish {D:Ends} {f:Flow} {s':Shared} (h:SP (X.wish E) pins D f s'):SP X pins D f s':=by
 cases f with
 | next=>obtain ⟨σ',H',I,q⟩:=h;exact ⟨σ',H',I.unwish,q⟩
 | brk=>obtain ⟨σ',H',I,q⟩:=h;exact ⟨σ',H',I.unwish,q⟩
 | cont=>obtain ⟨σ',H',I,q⟩:=h;exact ⟨σ',H',I.unwish,q⟩
 | ret u=>obtain ⟨v,σ',H',I,r,q⟩:=h;exact ⟨v,σ',H',I.unwish,r,q⟩
theorem PSs.nox {st:List Stmt} {t:TS} (h:PSs X.nox st t):PSs X st t:=fun pins s σ H D I hw=>
 wpAny_mono (h pins s σ H D (I.wish _) hw) (fun _ _ q=>q.unwish) fun _ _ z=>False.elim z
end
section
variable {X:Cx} {st:Stmt} {rest:List Stmt} {t u:TS} {e:Expr} {te:TE} {pos:Pos}
def tNext:TS:=fun D σ H=>D.nx σ H
def tSeq (t u:TS):TS:=fun D σ H=>t { D with nx:=u D } σ H
theorem pss_nil:PSs X [] tNext:=fun _ _ σ H _ I h=>wpAny_execs_nil ⟨σ,H,I,h⟩
theorem pss_cons (h1:PS X st t) (h2:PSs X rest u):PSs X (st::rest) (tSeq t u):=by
 intro pins s σ H D I h
 refine wpAny_execs_cons (thn (h1 pins s σ H { D with nx:=u D } I h) fun f s1 q=>?_)
 cases f with
 | next=>
  obtain ⟨σ',H',I',q⟩:=q
  exact h2 pins s1 σ' H' D I' q
 | ret v=>exact q
 | brk=>exact q
 | cont=>exact q
theorem pss_one (h1:PS X st t):PSs X [st] t:=by
 intro pins s σ H D I h
 refine wpAny_execs_cons (thn (h1 pins s σ H D I h) fun f s1 q=>?_)
 cases f with
 | next=>exact wpAny_execs_nil q
 | ret v=>exact q
 | brk=>exact q
 | cont=>exact q
theorem Inv.quiet {pins:List (Addr×Obj)} {σ:St} {H:Hp} {s:Shared} (I:Inv X pins σ H s):interactive X.env=false:=by simp [interactive,I.ok.kind]
def tDrop (te:TE):TS:=fun D σ H=>te σ H fun _ H1=>D.nx σ H1
theorem ps_expr (he:PE X e te) (hs:swapsWith e none pos.line X.env=pure false:=by rfl):PS X (.Expr e pos) (tDrop te):=by
 intro pins s σ H D I h
 exact wpAny_Expr_any (thn (he pins s σ H _ I h) fun v s1 ⟨x,H1,I1,r1,q1⟩=>⟨σ,H1,I1,q1⟩) I.quiet hs
def tRet (te:TE):TS:=fun D σ H=>te σ H D.rt
theorem ps_ret (he:PE X e te):PS X (.Return (some e) pos) (tRet te):=by
 intro pins s σ H D I h
 exact wpAny_Return_some (thn (he pins s σ H _ I h) fun v s1 ⟨x,H1,I1,r1,q1⟩=>⟨x,σ,H1,I1,r1,q1⟩)
def tRetN:TS:=fun D _ H=>D.rt .non H
def tIfS (c:TT) (t u:TS):TS:=fun D σ H=>c σ H fun b H1=>if b=true then t D σ H1 else u D σ H1
theorem ps_if {c:Expr} {a b:List Stmt} {tc:TT} (hc:PT X c tc) (ha:PSs X a t) (hb:PSs X b u):PS X (.If c a b pos) (tIfS tc t u):=by
 intro pins s σ H D I h
 refine wpAny_If (thn (hc pins s σ H _ I h) fun d s1 ⟨H1,I1,q1⟩=>?_)
 cases d with
 | true=>exact ha pins s1 σ H1 D I1 q1
 | false=>exact hb pins s1 σ H1 D I1 q1
end
abbrev TG:=V->St->Hp->(St->Hp->Prop)->Prop
abbrev TGs:=List V->St->Hp->(St->Hp->Prop)->Prop
def PG (X:Cx) (target:Expr) (t:TG):Prop:=
 ∀(pins:List (Addr×Obj)) (s:Shared) (σ:St) (H:Hp) (v:V) (u:Value) (Q:St->Hp->Prop),Inv X pins σ H s->RelV v u->t v σ H Q->
  wpAny (model X.prog X.w) X.A (assign target X.env u) (fun _ s'=>∃σ' H',Inv X pins σ' H' s'/\Q σ' H') X.xe s
def PGs (X:Cx) (ts:List Expr) (t:TGs):Prop:=
 ∀(pins:List (Addr×Obj)) (s:Shared) (σ:St) (H:Hp) (vs:List V) (us:List Value) (Q:St->Hp->Prop),Inv X pins σ H s->Vals vs us->t vs σ H Q->
  wpAny (model X.prog X.w) X.A (assignInOrder ((assignEach ts X.env).map (·.2)) us) (fun _ s'=>∃σ' H',Inv X pins σ' H' s'/\Q σ' H') X.xe s
abbrev TSet:=V->V->V->Hp->(Hp->Prop)->Prop
def PSet (X:Cx) (t:TSet):Prop:=
 ∀(pins:List (Addr×Obj)) (s:Shared) (σ:St) (H:Hp) (o i v:V) (ov iv u:Value) (Q:Hp->Prop),Inv X pins σ H s->RelV o ov->RelV i iv->RelV v u->t o i v H Q->
  wpAny (model X.prog X.w) X.A (setItem ov iv u) (fun _ s'=>∃H',Inv X pins σ H' s'/\Q H') X.xe s
abbrev TIp:=V->V->Hp->VK->Prop
def PIp (X:Cx) (op:Operator) (t:TIp):Prop:=
 ∀(pins:List (Addr×Obj)) (s:Shared) (σ:St) (H:Hp) (x y:V) (v u:Value) (Q:VK),Inv X pins σ H s->RelV x v->RelV y u->t x y H Q->
  wpAny (model X.prog X.w) X.A (inplaceOp op v u) (EP X pins σ Q) X.xe s
section
variable {X:Cx} {pos:Pos}
def gName (i:Nat):TG:=fun v σ H Q=>Q (σ.set i (some v)) H
theorem pg_name {i:Nat} {x:Str} (hN:X.N.Nodup) (hi:X.N[i]? = some x) (hx:Loc X.env.scope x) (hf:X.fn x=true\/X.env.scope.names.lookup x=some .local:=by first | exact .inl rfl | exact .inr rfl | assumption):PG X (.Name x pos) (gName i):=by
 intro pins s σ H v u Q I r h
 exact wpAny_assign_Name (store_ok I hN hi hx r (fun s' I'=>⟨_,H,I',h⟩) hf)
def gNil:TGs:=fun vs σ H Q=>vs=[]/\Q σ H
def gCons (t:TG) (u:TGs):TGs:=fun vs σ H Q=>∃v r,vs=v::r/\t v σ H fun σ' H'=>u r σ' H' Q
theorem pgs_nil:PGs X [] gNil:=by
 intro pins s σ H vs us Q I r h
 obtain ⟨e,h⟩:=h
 subst e
 cases r
 exact assignInOrder_nil ⟨σ,H,I,h⟩
theorem pgs_cons {e:Expr} {es:List Expr} {t:TG} {u:TGs} (h1:PG X e t) (h2:PGs X es u)
  (hs:(assignEach (e::es) X.env).map (·.2)=assign e X.env::(assignEach es X.env).map (·.2):=by rfl):PGs X (e::es) (gCons t u):=by
 intro pins s σ H vs us Q I r h
 obtain ⟨v,vr,e1,h⟩:=h
 subst e1
 cases r with
 | cons r rr=>
  rw [hs]
  refine assignInOrder_cons (thn (h1 pins s σ H _ _ _ I r h) fun _ s1 ⟨σ1,H1,I1,q1⟩=>?_)
  exact h2 pins s1 σ1 H1 _ _ Q I1 rr q1
def gTup (K:PySem.W.Frag) (n:Nat) (t:TGs):TG:=fun v σ H Q=>∃a xs,v=.ref a/\SqT K H a xs/\xs.length=n/\t xs σ H Q
theorem pg_tup {es:List Expr} {k:Nat} {t:TGs} {n:Nat} (hc:X.calm=true) (h:PGs X es t)
  (hn:(assignEach es X.env).length=n:=by rfl) (hst:(assignEach es X.env).findIdx? (·.1)=none:=by rfl):PG X (.Tuple es k pos) (gTup X.K n t):=by
 intro pins s σ H v u Q I r hw
 obtain ⟨a,xs,e1,hq,hl,hw⟩:=hw
 subst e1
 cases r
 obtain ⟨its,rv,ht,hz⟩:=I.tuple hq
 refine assign_Tuple_tuple (I.ok.hd hc) ht (by simp [hn,<-hl,rv.length]) hst fun h' hx=>?_
 have I1:Inv X pins σ H { s with heap:=h' }:=I.kept (t':=s.toks) fun b o e=>hx b o (Nat.ne_of_lt (Heap.lt_size e)) e
 exact h pins _ σ H xs _ Q I1 (by simpa using rv) hw
def gSub (to ti:TE) (t:TSet):TG:=fun v σ H Q=>to σ H fun o H1=>ti σ H1 fun i H2=>t o i v H2 fun H3=>Q σ H3
theorem pg_sub {o i:Expr} {to ti:TE} {t:TSet} (ho:PE X o to) (hi:PE X i ti) (hs:PSet X t)
  (ha:∀v,assign (.Subscript o i pos) X.env v=(do
   let ov <-holding [v] (eval o X.env)
   let iv <-holding [v,ov] (eval i X.env)
   standAt pos
   holding [v,ov,iv] (setItem ov iv v)
   release [v,ov,iv] []):=by intro _;rfl):PG X (.Subscript o i pos) (gSub to ti t):=by
 intro pins s σ H v u Q I r h
 rw [ha]
 refine wpAny_bind (wpAny_holding (thn (ho pins s σ H _ I h) fun ov s1 ⟨x,H1,I1,r1,q1⟩=>?_))
 refine wpAny_bind (wpAny_holding (thn (hi pins s1 σ H1 _ I1 q1) fun iv s2 ⟨y,H2,I2,r2,q2⟩=>?_))
 refine wpAny_bind (wpAny_standAt (wpAny_bind (wpAny_holding (thn (hs pins s2 σ H2 x y v ov iv u _ I2 r1 r2 r q2) fun _ s3 ⟨H3,I3,q3⟩=>?_))))
 exact wpAny_release ⟨σ,H3,I3,q3⟩
def tAsg (te:TE) (g:TG):TS:=fun D σ H=>te σ H fun x H1=>g x σ H1 D.nx
theorem ps_asg {tg e:Expr} {te:TE} {g:TG} (he:PE X e te) (hg:PG X tg g) (hs:swapsWithSole [tg] e pos.line X.env=pure false:=by rfl) (hw:swappedStores [tg] e X.env=pure none:=by rfl)
  (h1:(assignEach [tg] X.env).map (·.2)=[assign tg X.env]:=by rfl):PS X (.Assign [tg] e pos) (tAsg te g):=by
 intro pins s σ H D I h
 refine wpAny_Assign_stores (thn (he pins s σ H _ I h) fun v s1 ⟨x,H1,I1,r1,q1⟩=>?_) hs hw
 rw [h1]
 exact thn (hg pins s1 σ H1 x v _ I1 r1 q1) fun _ s2 q=>q
theorem ps_set {i:Nat} {x:Str} {e:Expr} {te:TE} {pos':Pos} (hN:X.N.Nodup) (hi:X.N[i]? = some x) (hx:Loc X.env.scope x) (he:PE X e te) (hs:swapsWith e (some (.Name x pos')) pos.line X.env=pure false:=by rfl) (hf:X.fn x=true\/X.env.scope.names.lookup x=some .local:=by first | exact .inl rfl | exact .inr rfl | assumption) :
  PS X (.Assign [.Name x pos'] e pos) (tAsg te (gName i)):=by
 intro pins s σ H D I h
 refine wpAny_Assign_Name (thn (he pins s σ H _ I h) fun v s1 ⟨y,H1,I1,r1,q1⟩=>?_) hs
 exact store_ok I1 hN hi hx r1 (fun s2 I2=>⟨_,H1,I2,q1⟩) hf
def tPar (i j:Nat) (ta:TA):TS:=fun D σ H=>ta σ H fun vs H1=>∃v w,vs=[v,w]/\D.nx ((σ.set i (some v)).set j (some w)) H1
def tAug (i:Nat) (te:TE) (ti:TIp):TS:=fun D σ H=>∃x,σ[i]? = some (some x)/\te σ H fun y H1=>ti x y H1 fun z H2=>D.nx (σ.set i (some z)) H2
theorem ps_aug {i:Nat} {x:Str} {e:Expr} {te:TE} {op:Operator} {ti:TIp} {pos':Pos} (hN:X.N.Nodup) (hi:X.N[i]? = some x) (hx:Loc X.env.scope x) (he:PE X e te) (ho:PIp X op ti) (hf:X.fn x=true\/X.env.scope.names.lookup x=some .local:=by first | exact .inl rfl | exact .inr rfl | assumption) :
  PS X (.AugAssign (.Name x pos') op e pos) (tAug i te ti):=by
 intro pins s σ H D I h
 obtain ⟨v,e1,h⟩:=h
 obtain ⟨m,hn,hl⟩:=I.loc
 have vis:Vis X.env.scope x:=by rcases hx with k | k;exact .inl k;exact .inr (.inl k)
 obtain ⟨u,r,l⟩:=hl i x v hi e1 vis
 refine wpAny_AugAssign_Name ?_
 have go:wpAny (model X.prog X.w) X.A (eval e X.env) (fun w s₂=>wpAny (model X.prog X.w) X.A (inplaceOp op u w) (fun r s₃=>wpAny (model X.prog X.w) X.A (storeName X.env x r) (fun _=>SP X pins D .next) X.xe s₃) X.xe s₂) X.xe s:=by
  refine thn (he pins s σ H _ I h) fun w s1 ⟨y,H1,I1,r1,q1⟩=>?_
  refine thn (ho pins s1 σ H1 v y u w _ I1 r r1 q1) fun z s2 ⟨zv,H2,I2,r2,q2⟩=>?_
  exact store_ok I2 hN hi hx r2 (fun s3 I3=>⟨_,H2,I3,q2⟩) hf
 rcases l with ⟨hk,hm⟩ | ⟨hk,c,hc,hcell⟩
 ·exact wpAny_loadName_local I.ok.kind hk hn hm go
 ·rcases hk with hk | hk
  ·exact wpAny_loadName_cell I.ok.kind hk hc hcell go
  ·rcases hx with k | k
   ·have:X.env.scope.names.lookup x=some .free:=hk
    rw [k] at this;cases this
   ·have:X.env.scope.names.lookup x=some .free:=hk
    rw [k] at this;cases this
def tAugS (to ti te:TE) (tget:V->V->Hp->VK->Prop) (tip:TIp) (tset:TSet):TS:=fun D σ H=>to σ H fun o H1=>ti σ H1 fun i H2=>tget o i H2 fun x H3=>te σ H3 fun y H4=>tip x y H4 fun z H5=>tset o i z H5 fun H6=>D.nx σ H6
def PGet (X:Cx) (t:V->V->Hp->VK->Prop):Prop:=
 ∀(pins:List (Addr×Obj)) (s:Shared) (σ:St) (H:Hp) (o i:V) (ov iv:Value) (Q:VK),Inv X pins σ H s->RelV o ov->RelV i iv->t o i H Q->
  wpAny (model X.prog X.w) X.A (getItem ov iv) (EP X pins σ Q) X.xe s
theorem ps_augS {o i e:Expr} {to ti te:TE} {tget:V->V->Hp->VK->Prop} {tip:TIp} {tset:TSet} {op:Operator} {tpos:Pos} (ho:PE X o to) (hi:PE X i ti) (hg:PGet X tget) (he:PE X e te) (hp:PIp X op tip) (hs:PSet X tset)
  (ha:∀ov iv new,augStore i ov iv new=(do holding [new,ov,iv] (setItem ov iv new);release [new,ov,iv] [];pure .next):=by intros;rfl):PS X (.AugAssign (.Subscript o i tpos) op e pos) (tAugS to ti te tget tip tset):=by
 intro pins s σ H D I h
 refine wpAny_AugAssign_SubscriptAny (thn (ho pins s σ H _ I h) fun ov s1 ⟨x1,H1,I1,r1,q1⟩=>?_) ha
 refine thn (hi pins s1 σ H1 _ I1 q1) fun iv s2 ⟨x2,H2,I2,r2,q2⟩=>?_
 refine thn (hg pins s2 σ H2 x1 x2 ov iv _ I2 r1 r2 q2) fun old s3 ⟨x3,H3,I3,r3,q3⟩=>?_
 refine thn (he pins s3 σ H3 _ I3 q3) fun v s4 ⟨x4,H4,I4,r4,q4⟩=>?_
 refine thn (hp pins s4 σ H4 x3 x4 old v _ I4 r3 r4 q4) fun new s5 ⟨x5,H5,I5,r5,q5⟩=>?_
 exact thn (hs pins s5 σ H5 x1 x2 x5 ov iv new _ I5 r1 r2 r5 q5) fun _ s6 ⟨H6,I6,q6⟩=>⟨σ,H6,I6,q6⟩
def ipI (f:Int->Int->Int):TIp:=fun x y H Q=>∃i j,x=.int i/\y=.int j/\Q (.int (f i j)) H
theorem ip_add:PIp X .Add (ipI fun i j=>i+j):=by
 intro pins s σ H x y v u Q I r1 r2 h
 obtain ⟨i,j,e1,e2,q⟩:=h
 subst e1;subst e2
 obtain ⟨t,rfl⟩:=r1
 obtain ⟨t',rfl⟩:=r2
 exact iadd_int ⟨.int _,H,I.tok _,⟨_,rfl⟩,q⟩
theorem ip_sub:PIp X .Sub (ipI fun i j=>i - j):=by
 intro pins s σ H x y v u Q I r1 r2 h
 obtain ⟨i,j,e1,e2,q⟩:=h
 subst e1;subst e2
 obtain ⟨t,rfl⟩:=r1
 obtain ⟨t',rfl⟩:=r2
 exact isub_int ⟨.int _,H,I.tok _,⟨_,rfl⟩,q⟩
end
section
variable {X:Cx} {pos:Pos}
def tWhile (c:TT) (tb:TS):TS:=fun D σ H=>∃W:Nat->St->Hp->Prop,(∃m,W m σ H)/\∀m σ H,W m σ H->
 c σ H fun b H1=>if b=true then ∃N:St->Hp->Prop,(∀σ' H',N σ' H'->∃m',m' < m/\W m' σ' H')/\tb { D with nx:=N,ct:=N,bk:=D.nx } σ H1 else D.nx σ H1
theorem ps_while {c:Expr} {body:List Stmt} {tc:TT} {tb:TS} (hp:PassesOwn (model X.prog X.w) X.A X.env X.xe) (hc:PT X c tc) (hb:PSs X body tb):PS X (.While c body [] pos) (tWhile tc tb):=by
 intro pins s σ H D I h
 obtain ⟨W,⟨m0,w0⟩,turn⟩:=h
 refine wpAny_While (codeAny_whileLoop (fun n s'=>∃σ' H',Inv X pins σ' H' s'/\W n σ' H') ?_ m0 ⟨σ,H,I,w0⟩)
 rintro n s1 ⟨σ1,H1,I1,w1⟩
 refine wpAny_passesOwn hp (thn (hc pins s1 σ1 H1 _ I1 (turn n σ1 H1 w1)) fun b s2 ⟨H2,I2,q2⟩=>?_)
 cases b with
 | true=>
  obtain ⟨N,hN,q2⟩:=q2
  rw [if_pos rfl]
  refine wpAny_passesOwn hp (thn (hb pins s2 σ1 H2 _ I2 q2) fun f s3 q3=>?_)
  cases f with
  | next=>
   obtain ⟨σ3,H3,I3,n3⟩:=q3
   obtain ⟨m',hm,w3⟩:=hN σ3 H3 n3
   exact ⟨m',hm,σ3,H3,I3,w3⟩
  | cont=>
   obtain ⟨σ3,H3,I3,n3⟩:=q3
   obtain ⟨m',hm,w3⟩:=hN σ3 H3 n3
   exact ⟨m',hm,σ3,H3,I3,w3⟩
  | brk=>exact q3
  | ret v=>exact q3
 | false=>
  rw [if_neg Bool.false_ne_true]
  exact wpAny_execs_nil ⟨σ1,H2,I2,q2⟩
end
structure It where
 go:Nat->Hp->Prop
 yld:Nat->Hp->V->Hp->Prop
 stop:Nat->Hp->Prop
def FpOk (X:Cx) (pins:List (Addr×Obj)) (H:Hp) (b:Addr):Prop:=
 H b=none/\b≠X.env.locals/\b∉X.fs/\(b∈X.ex\/X.s₀.heap.objs.size<=b)/\(∀x c,X.env.cells.lookup x=some c->c≠b)/\∀p∈X.pn++pins,p.1≠b
theorem Inv.fpOk {X:Cx} {pins:List (Addr×Obj)} {σ:St} {H H':Hp} {s:Shared} {b:Addr} (I:Inv X pins σ H s) (hb:s.heap.objs.size<=b) (hn:H' b=none):FpOk X pins H' b:=by
 refine ⟨hn,Nat.ne_of_gt (Nat.lt_of_lt_of_le I.lt hb),I.nofs hb,.inr (Nat.le_trans I.sz hb),fun x c e z=>?_,fun p hp z=>?_⟩
 ·obtain ⟨v,q⟩:=I.cell x c e
  exact absurd (Nat.lt_of_lt_of_le q.lt (by rw [z];exact hb)) (Nat.lt_irrefl _)
 ·exact absurd (Nat.lt_of_lt_of_le (Heap.lt_size (I.pin p hp).1) (by rw [z];exact hb)) (Nat.lt_irrefl _)
structure Turn (P:Program) (w:World) (K:PySem.W.Frag) (tg:Expr) (J:It) (fp:List Addr) (it:Addr) (tn:Nat->Heap->Prop):Prop where
 mem:it∈fp
 obj:∀i h,tn i h->∀b∈fp,∃o,h.get? b=some o/\∀v,o.data≠.cell v
 keep:∀i h h',tn i h->(∀b∈fp,∀o,h.get? b=some o->h'.get? b=some o)->tn i h'
 item:∀(X:Cx),X.prog=P->X.w=w->X.K=K->X.calm=true->∀(i:Nat) (pins:List (Addr×Obj)) (s:Shared) (σ:St) (H:Hp) (E:Value->Shared->Prop),Inv X pins σ H s->(∀b∈fp,FpOk X pins H b)->tn i s.heap->J.go i H->
  wpAny (model P w) X.A (pyNext (.ref it)) (fun r s1=>∃u,r=some u/\
   wpAny (model P w) X.A (letOwnedTupleGo tg (.ref it) u) (fun _ s2=>∃x H',Inv X pins σ H' s2/\RelV x u/\J.yld i H x H'/\tn (i+1) s2.heap/\∀b∈fp,H' b=none) E s1) E s
 done:∀(X:Cx),X.prog=P->X.w=w->X.K=K->X.calm=true->∀(i:Nat) (pins:List (Addr×Obj)) (s:Shared) (σ:St) (H:Hp) (E:Value->Shared->Prop),Inv X pins σ H s->(∀b∈fp,FpOk X pins H b)->tn i s.heap->J.stop i H->
  wpAny (model P w) X.A (pyNext (.ref it)) (fun r s1=>r=none/\Inv X pins σ H s1) E s
 self:∀(A:Around) (i:Nat) (s:Shared) (Q:Value->Shared->Prop) (E:Value->Shared->Prop),tn i s.heap->Q (.ref it) s->wpAny (model P w) A (pyIter (.ref it)) Q E s
abbrev TI:=St->Hp->(It->Hp->Prop)->Prop
def PIE (X:Cx) (pins:List (Addr×Obj)) (σ:St) (tg:Expr) (R:It->Hp->Prop) (itv:Value) (s2:Shared):Prop:=
 ∃(it:Addr) (fp:List Addr) (tn:Nat->Heap->Prop) (J:It) (H':Hp),itv=.ref it/\Inv X pins σ H' s2/\Turn X.prog X.w X.K tg J fp it tn/\tn 0 s2.heap/\(∀b∈fp,FpOk X pins H' b)/\R J H'
def PI (X:Cx) (tg iter:Expr) (wi:TI):Prop:=
 ∀(pins:List (Addr×Obj)) (s:Shared) (σ:St) (H:Hp) (R:It->Hp->Prop),Inv X pins σ H s->wi σ H R->
  wpAny (model X.prog X.w) X.A (eval iter X.env) (fun v s1=>wpAny (model X.prog X.w) X.A (pyIter v) (PIE X pins σ tg R) X.xe s1) X.xe s
theorem go_of {M : Model} {A : Around} {E : Value → Shared → Prop} {s : Shared} {tg : Expr} {it : Addr} {u : Value} {o : Obj} {n : String} {vs : Array Value} {Q : Unit → Shared → Prop} (ho : s.heap.get? it = some o) (hc : o.cls = .type n) (hd : o.data = .fields vs)
    (hn : ["enumerate", "zip", "dict_itemiterator", "dict_reverseitemiterator", "odict_iterator", "itertools.zip_longest", "itertools.pairwise"].contains n = false) (hQ : Q () s) : wpAny M A (letOwnedTupleGo tg (.ref it) u) Q E s := by
  unfold letOwnedTupleGo
  cases tg <;> first
    | exact wpAny_pure hQ
    | (cases u <;> first
        | exact wpAny_pure hQ
        | (refine wpAny_bind (wpAny_load ho ?_)
           rw [hc, hd]
           show wpAny M A (if (["enumerate", "zip", "dict_itemiterator", "dict_reverseitemiterator", "odict_iterator", "itertools.zip_longest", "itertools.pairwise"].contains n && vs[0]? == some (rawInt _)) = true then _ else _) Q E s
           rw [if_neg (by intro h; rw [hn, Bool.false_and] at h; cases h)]
           exact wpAny_pure hQ))
def Itl (K:PySem.W.Frag) (a:Addr):It:=
 ⟨fun i H=>∃xs x,SqL K H a xs/\xs[i]? = some x,fun i H x H'=>H'=H/\∀xs,SqL K H a xs->xs[i]? = some x,fun i H=>∃xs,SqL K H a xs/\xs.length<=i⟩
def Itt (K:PySem.W.Frag) (a:Addr):It:=
 ⟨fun i H=>∃xs x,SqT K H a xs/\xs[i]? = some x,fun i H x H'=>H'=H/\∀xs,SqT K H a xs->xs[i]? = some x,fun i H=>∃xs,SqT K H a xs/\xs.length<=i⟩
def Itr (lo:Int) (n:Nat):It:=⟨fun i _=>i < n,fun i H x H'=>H'=H/\x=.int (lo+i),fun i _=>n<=i⟩
theorem turn_list {P:Program} {w:World} {K:PySem.W.Frag} {tg:Expr} (a it:Addr):Turn P w K tg (Itl K a) [it] it (fun i h=>h.IsListIter it a i) where
 mem:=by simp
 obj:=fun i h st b hb=>by
  have e:b=it:=by simpa using hb
  subst e
  obtain ⟨o,e,c,d⟩:=st
  exact ⟨o,e,fun v z=>by rw [d] at z;cases z⟩
 keep:=fun i h h' st k=>st.at fun o e=>k it (by simp) o e
 item:=by
  intro X hP hw hK hc i pins s σ H E I hf st hg
  subst hP hw hK
  obtain ⟨xs,x,hq,hx⟩:=hg
  obtain ⟨its,rv,p,hz⟩:=I.list hq
  obtain ⟨u,hu,ru⟩:=rv.get hx
  obtain ⟨f0,f1,f2,f3,f4,f5⟩:=hf it (by simp)
  refine wpAny_pyNext_list_item st p.isList (x:=u) (by simpa using hu) fun h' st' sb=>?_
  have I1:Inv X pins σ H { s with heap:=h' }:=I.turned (t':=s.toks) (fun b o hb e=>(sb.2 b hb).trans e) f0 f1 f3 f4 f5
  obtain ⟨o,e,c,d⟩:=id st'
  exact ⟨u,rfl,go_of (s:={ s with heap:=h' }) e c d (by decide) ⟨x,H,I1,ru,⟨rfl,fun ys hy=>by rw [I.list_inj hy hq];exact hx⟩,st',fun b hb=>(hf b hb).1⟩⟩
 done:=by
  intro X hP hw hK hc i pins s σ H E I hf st hg
  subst hP hw hK
  obtain ⟨xs,hq,hx⟩:=hg
  obtain ⟨its,rv,p,hz⟩:=I.list hq
  obtain ⟨f0,f1,f2,f3,f4,f5⟩:=hf it (by simp)
  have hl:=rv.length
  exact wpAny_pyNext_list_end (I.ok.hd hc) st p.isList (by simp;lia) fun h' eb=>⟨rfl,I.turned (t':=s.toks) (fun b o hb e=>eb b o hb e) f0 f1 f3 f4 f5⟩
 self:=fun _ _ _ _ _ st h=>wpAny_pyIter_listiter st h
theorem turn_tuple {P:Program} {w:World} {K:PySem.W.Frag} {tg:Expr} (a it:Addr):Turn P w K tg (Itt K a) [it] it (fun i h=>h.IsTupleIter it a i) where
 mem:=by simp
 obj:=fun i h st b hb=>by
  have e:b=it:=by simpa using hb
  subst e
  obtain ⟨o,e,c,d⟩:=st
  exact ⟨o,e,fun v z=>by rw [d] at z;cases z⟩
 keep:=fun i h h' st k=>st.at fun o e=>k it (by simp) o e
 item:=by
  intro X hP hw hK hc i pins s σ H E I hf st hg
  subst hP hw hK
  obtain ⟨xs,x,hq,hx⟩:=hg
  obtain ⟨its,rv,p,hz⟩:=I.tuple hq
  obtain ⟨u,hu,ru⟩:=rv.get hx
  obtain ⟨f0,f1,f2,f3,f4,f5⟩:=hf it (by simp)
  refine wpAny_pyNext_tuple_item st (show s.heap.IsTuple a its.toArray from p) (x:=u) (by simpa using hu) fun h' st' sb=>?_
  have I1:Inv X pins σ H { s with heap:=h' }:=I.turned (t':=s.toks) (fun b o hb e=>(sb.2 b hb).trans e) f0 f1 f3 f4 f5
  obtain ⟨o,e,c,d⟩:=id st'
  exact ⟨u,rfl,go_of (s:={ s with heap:=h' }) e c d (by decide) ⟨x,H,I1,ru,⟨rfl,fun ys hy=>by rw [I.tuple_inj hy hq];exact hx⟩,st',fun b hb=>(hf b hb).1⟩⟩
 done:=by
  intro X hP hw hK hc i pins s σ H E I hf st hg
  subst hP hw hK
  obtain ⟨xs,hq,hx⟩:=hg
  obtain ⟨its,rv,p,hz⟩:=I.tuple hq
  obtain ⟨f0,f1,f2,f3,f4,f5⟩:=hf it (by simp)
  have hl:=rv.length
  exact wpAny_pyNext_tuple_end (I.ok.hd hc) st (show s.heap.IsTuple a its.toArray from p) (by simp;lia) fun h' eb=>⟨rfl,I.turned (t':=s.toks) (fun b o hb e=>eb b o hb e) f0 f1 f3 f4 f5⟩
 self:=fun _ _ _ _ _ st h=>wpAny_pyIter_tupleiter st h
theorem turn_range {P:Program} {w:World} {K:PySem.W.Frag} {tg:Expr} (it:Addr) (lo:Int) (n:Nat):Turn P w K tg (Itr lo n) [it] it (fun i h=>IsRangeIter h it (lo+(i:Nat) * 1) ((n:Int) - (i:Nat)) 1) where
 mem:=by simp
 obj:=fun i h st b hb=>by
  have e:b=it:=by simpa using hb
  subst e
  exact ⟨_,st,fun v z=>by
   have z':Data.fields _=Data.cell v:=z
   cases z'⟩
 keep:=fun i h h' st k=>k it (by simp) _ st
 item:=by
  intro X hP hw hK hc i pins s σ H E I hf st hg
  subst hP hw hK
  obtain ⟨f0,f1,f2,f3,f4,f5⟩:=hf it (by simp)
  have W:=Walks.range (prog:=X.prog) (w:=X.w) (I.ok.hd hc) it lo 1 n
  refine W.item i s _ _ hg st fun v h' tk hv st' kk=>?_
  obtain ⟨t,rfl⟩:=hv
  have I1:Inv X pins σ H { s with heap:=h',toks:=tk }:=I.turned (fun b o hb e=>kk b o (by simpa using hb) e) f0 f1 f3 f4 f5
  refine ⟨_,rfl,go_of (s:={ s with heap:=h',toks:=tk }) (n:="range_iterator") st' rfl rfl (by decide) ⟨.int (lo+i),H,I1,⟨t,?_⟩,⟨rfl,rfl⟩,st',fun b hb=>(hf b hb).1⟩⟩
  rw [Int.mul_one]
 done:=by
  intro X hP hw hK hc i pins s σ H E I hf st hg
  subst hP hw hK
  obtain ⟨f0,f1,f2,f3,f4,f5⟩:=hf it (by simp)
  exact wpAny_pyNext_range_end (I.ok.hd hc) st (by have:n<=i:=hg;lia) fun h' eb=>⟨rfl,I.turned (t':=s.toks) (fun b o hb e=>eb b o hb e) f0 f1 f3 f4 f5⟩
 self:=fun _ _ _ _ _ st h=>wpAny_pyIter_rangeiter st h
end L2
namespace L2
open PySem PySem.Spec PyProof.Rows
section
variable {X:Cx} {tg:Expr}
def iList (K:PySem.W.Frag) (tl:TE):TI:=fun σ H R=>tl σ H fun x H1=>∃a,x=.ref a/\(∃xs,SqL K H1 a xs)/\R (Itl K a) H1
def iTup (K:PySem.W.Frag) (tl:TE):TI:=fun σ H R=>tl σ H fun x H1=>∃a,x=.ref a/\(∃xs,SqT K H1 a xs)/\R (Itt K a) H1
theorem pi_list {l:Expr} {tl:TE} (hl:PE X l tl):PI X tg l (iList X.K tl):=by
 intro pins s σ H R I h
 refine thn (hl pins s σ H _ I h) fun v s1 ⟨x,H1,I1,r1,q1⟩=>?_
 obtain ⟨a,e,⟨xs,hq⟩,q⟩:=q1
 subst e
 cases r1
 obtain ⟨its,rv,p,hz⟩:=I1.list hq
 refine wpAny_pyIter_list p.isList ?_
 refine ⟨s1.heap.objs.size,[s1.heap.objs.size],_,_,H1,rfl,I1.kept (t':=s1.toks) fun b o e=>Heap.get?_push_of_some _ e,turn_list a _,⟨_,Heap.get?_push_size _ rfl,rfl,rfl⟩,fun b hb=>?_,q⟩
 have e:b=s1.heap.objs.size:=by simpa using hb
 subst e
 exact I1.fpOk (Nat.le_refl _) (I1.hok.fresh (Nat.le_refl _))
theorem pi_tup {l:Expr} {tl:TE} (hl:PE X l tl):PI X tg l (iTup X.K tl):=by
 intro pins s σ H R I h
 refine thn (hl pins s σ H _ I h) fun v s1 ⟨x,H1,I1,r1,q1⟩=>?_
 obtain ⟨a,e,⟨xs,hq⟩,q⟩:=q1
 subst e
 cases r1
 obtain ⟨its,rv,p,hz⟩:=I1.tuple hq
 refine wpAny_pyIter_tuple (show s1.heap.IsTuple a its.toArray from p) ?_
 refine ⟨s1.heap.objs.size,[s1.heap.objs.size],_,_,H1,rfl,I1.kept (t':=s1.toks) fun b o e=>Heap.get?_push_of_some _ e,turn_tuple a _,⟨_,Heap.get?_push_size _ rfl,rfl,rfl⟩,fun b hb=>?_,q⟩
 have e:b=s1.heap.objs.size:=by simpa using hb
 subst e
 exact I1.fpOk (Nat.le_refl _) (I1.hok.fresh (Nat.le_refl _))
theorem range_it {pins:List (Addr×Obj)} {σ:St} {H:Hp} {s:Shared} {R:It->Hp->Prop} {E:Value->Shared->Prop} {lo hi:Int} {t u v:Tok} {tk:Nat} (I:Inv X pins σ H s) (h1 : -(2 ^ 62)<=lo) (h2:lo < 2 ^ 62) (h3 : -(2 ^ 62)<=hi) (h4:hi < 2 ^ 62)
  (q:R (Itr lo (hi - lo).toNat) H):wpAny (model X.prog X.w) X.A (pyIter (.ref s.heap.objs.size)) (PIE X pins σ tg R) E { s with heap:=s.heap.push { cls:=.type "range",data:=.fields #[.int lo t,.int hi u,.int 1 v] },toks:=tk }:=by
 refine wpAny_pyIter_range (IsRange.new ..) (small_one h1 h2 h3 h4) ?_
 have I1:Inv X pins σ H { s with heap:=s.heap.push { cls:=.type "range",data:=.fields #[.int lo t,.int hi u,.int 1 v] },toks:=tk }:=I.kept fun b o e=>Heap.get?_push_of_some _ e
 refine ⟨(s.heap.push { cls:=.type "range",data:=.fields #[.int lo t,.int hi u,.int 1 v] }).objs.size,[(s.heap.push { cls:=.type "range",data:=.fields #[.int lo t,.int hi u,.int 1 v] }).objs.size],_,_,H,rfl,
  I1.kept (t':=tk) fun b o e=>Heap.get?_push_of_some _ e,turn_range _ lo (hi - lo).toNat,?_,fun b hb=>?_,q⟩
 ·have e1:lo+((0:Nat):Int) * 1=lo:=by simp
  have e2:(((hi - lo).toNat:Nat):Int) - ((0:Nat):Int)=Builtin.Range.rangeSize lo hi 1:=by rw [rangeSize_one];split <;> lia
  show IsRangeIter _ _ (lo+((0:Nat):Int) * 1) ((((hi - lo).toNat:Nat):Int) - ((0:Nat):Int)) 1
  rw [e1,e2]
  exact Heap.get?_push_size _ rfl
 ·have e:b=(s.heap.push { cls:=.type "range",data:=.fields #[.int lo t,.int hi u,.int 1 v] }).objs.size:=by simpa using hb
  subst e
  exact I1.fpOk (Nat.le_refl _) (I1.hok.fresh (Nat.le_refl _))
def iRng1 (ta:TA):TI:=fun σ H R=>ta σ H fun vs H1=>∃j:Int,vs=[.int j]/\-(2 ^ 62)<=j/\j < 2 ^ 62/\R (Itr 0 j.toNat) H1
def iRng2 (ta:TA):TI:=fun σ H R=>ta σ H fun vs H1=>∃i j:Int,vs=[.int i,.int j]/\(-(2 ^ 62)<=i/\i < 2 ^ 62/\-(2 ^ 62)<=j/\j < 2 ^ 62)/\R (Itr i (j - i).toNat) H1
theorem pi_range1 {a:Expr} {ta:TA} {p pos:Pos} (hg:Gl X "range") (hm:X.mg "range" = none) (ha:PA X [a] ta) (hs:starEach [a] X.env=[(false,eval a X.env)]:=by rfl):PI X tg (.Call (.Name "range" p) [a] [] pos) (iRng1 ta):=by
 intro pins s σ H R I h
 refine Call_ (ld_blt I hg hm boot_range (PyProof.Rows.callWith_type1 (thn (ha pos pins s σ H _ I h) fun us s1 ⟨vs,H1,I1,r1,q1⟩=>?_) hs rfl))
 obtain ⟨j,e,q1,q2,q⟩:=q1
 subst e
 cases r1 with
 | cons r rr=>
  cases rr
  obtain ⟨t,rfl⟩:=r
  exact call_range_1 (range_it I1 (by lia) (by lia) q1 q2 (by simpa using q))
def tFor (wi:TI) (g:TG) (tb:TS):TS:=fun D σ H=>wi σ H fun J H1=>∃W:Nat->Nat->St->Hp->Prop,(∃m,W 0 m σ H1)/\∀i m σ H,W i m σ H->
 (J.stop i H/\D.nx σ H)\/(J.go i H/\∃N:St->Hp->Prop,(∀σ' H',N σ' H'->∃m',m' < m/\W (i+1) m' σ' H')/\∀x H',J.yld i H x H'->g x σ H' fun σ2 H2=>tb { D with nx:=N,ct:=N,bk:=D.nx } σ2 H2)
def pinsAt (fp:List Addr) (h:Heap):List (Addr×Obj):=fp.filterMap fun b=>(h.get? b).map fun o=>(b,o)
theorem mem_pinsAt {fp:List Addr} {h:Heap} {b:Addr} {o:Obj} (hb:b∈fp) (e:h.get? b=some o):(b,o)∈pinsAt fp h:=List.mem_filterMap.mpr ⟨b,hb,by rw [e];rfl⟩
theorem of_pinsAt {fp:List Addr} {h:Heap} {p:Addr×Obj} (hp:p∈pinsAt fp h):p.1∈fp/\h.get? p.1=some p.2:=by
 obtain ⟨b,hb,e⟩:=List.mem_filterMap.mp hp
 cases q:h.get? b with
 | none=>rw [q] at e;cases e
 | some o=>
  rw [q] at e
  have e':(b,o)=p:=Option.some.inj e
  subst e'
  exact ⟨hb,q⟩
theorem Inv.pinned {pins:List (Addr×Obj)} {σ:St} {H:Hp} {s:Shared} {fp:List Addr} (I:Inv X pins σ H s) (hf:∀b∈fp,FpOk X pins H b) (ho:∀b∈fp,∃o,s.heap.get? b=some o/\∀v,o.data≠.cell v):Inv X (pins++pinsAt fp s.heap) σ H s:=
 I.pins_of fun p hp=>(List.mem_append.mp hp).elim (fun z=>I.pin p (List.mem_append_right _ z)) fun z=>by
  obtain ⟨hb,e⟩:=of_pinsAt z
  obtain ⟨f0,f1,f2,_⟩:=hf p.1 hb
  obtain ⟨o,e',d⟩:=ho p.1 hb
  rw [e] at e';cases e'
  exact ⟨e,f0,f1,f2,d⟩
theorem Inv.unpinned {pins pl:List (Addr×Obj)} {σ:St} {H:Hp} {s:Shared} (I:Inv X (pins++pl) σ H s):Inv X pins σ H s:=I.pins_of fun p hp=>I.pin p (List.mem_append_right _ (List.mem_append_left _ hp))
theorem ps_for {iter:Expr} {body:List Stmt} {wi:TI} {g:TG} {tb:TS} {pos:Pos} (hp:PassesOwn (model X.prog X.w) X.A X.env X.xe) (hc:X.calm=true) (hi:PI X tg iter wi) (hg:PG X tg g) (hb:PSs X body tb)
  (hs:∀x,foldedSetIterable iter X.env x=pure x:=by intro _;rfl):PS X (.For tg iter body [] pos) (tFor wi g tb):=by
 intro pins s σ H D I h
 refine wpAny_For (thn (hi pins s σ H _ I h) fun v s1 h1=>thn h1 fun itv s2 h2=>?_) hs
 obtain ⟨it,fp,tn,J,H2,e,I2,T,st2,f2,W,⟨m0,w0⟩,turn⟩:=h2
 subst e
 have stat:∀{H':Hp},(∀b∈fp,H' b=none)->∀b∈fp,FpOk X pins H' b:=fun hn b hb=>⟨hn b hb,(f2 b hb).2⟩
 refine codeAny_forLoop_any (fun n s'=>∃i σ' H',Inv X pins σ' H' s'/\tn i s'.heap/\(∀b∈fp,H' b=none)/\W i n σ' H') ?_ m0 ⟨0,σ,H2,I2,st2,fun b hb=>(f2 b hb).1,w0⟩
 rintro n s3 ⟨i,σ3,H3,I3,st3,fr3,w3⟩
 rcases turn i n σ3 H3 w3 with ⟨stop,qn⟩ | ⟨go,N,hN,step⟩
 ·refine wpAny_passesOwn hp (thn (T.done X rfl rfl rfl hc i pins s3 σ3 H3 X.xe I3 (stat fr3) st3 stop) fun r s4 ⟨hr,I4⟩=>?_)
  subst hr
  exact wpAny_execs_nil ⟨σ3,H3,I4,qn⟩
 ·refine wpAny_passesOwn hp (thn (T.item X rfl rfl rfl hc i pins s3 σ3 H3 X.xe I3 (stat fr3) st3 go) fun r s4 ⟨u,hr,h4⟩=>?_)
  subst hr
  refine wpAny_passesOwn hp (thn h4 fun _ s5 ⟨x,H5,I5,r5,y5,st5,fr5⟩=>?_)
  have I5':=I5.pinned (stat fr5) (T.obj _ _ st5)
  refine wpAny_passesOwn hp (thn (hg _ s5 σ3 H5 x u _ I5' r5 (step x H5 y5)) fun _ s6 ⟨σ6,H6,I6,q6⟩=>?_)
  refine wpAny_passesOwn hp (thn (hb _ s6 σ6 H6 _ I6 q6) fun f s7 q7=>?_)
  have again:∀{σ7:St} {H7:Hp},Inv X (pins++pinsAt fp s5.heap) σ7 H7 s7->N σ7 H7->∃m,m < n/\∃i σ' H',Inv X pins σ' H' s7/\tn i s7.heap/\(∀b∈fp,H' b=none)/\W i m σ' H':=fun {σ7 H7} I7 n7=>by
   obtain ⟨m',hm,w7⟩:=hN σ7 H7 n7
   refine ⟨m',hm,i+1,σ7,H7,I7.unpinned,T.keep _ _ _ st5 fun b hb o e=>(I7.pin (b,o) (List.mem_append_right _ (List.mem_append_right _ (mem_pinsAt hb e)))).1,fun b hb=>?_,w7⟩
   obtain ⟨o,e,d⟩:=T.obj _ _ st5 b hb
   exact (I7.pin (b,o) (List.mem_append_right _ (List.mem_append_right _ (mem_pinsAt hb e)))).2.1
  cases f with
  | next=>obtain ⟨σ7,H7,I7,n7⟩:=q7;exact again I7 n7
  | cont=>obtain ⟨σ7,H7,I7,n7⟩:=q7;exact again I7 n7
  | brk=>obtain ⟨σ7,H7,I7,q7⟩:=q7;exact ⟨σ7,H7,I7.unpinned,q7⟩
  | ret v=>obtain ⟨x7,σ7,H7,I7,r7,q7⟩:=q7;exact ⟨x7,σ7,H7,I7.unpinned,r7,q7⟩
end
theorem for_list {K:PySem.W.Frag} {a:Addr} {xs:List V} {g:TG} {tb:TS} {D:Ends} {σ:St} {H:Hp} (Pv:Nat->St->Hp->Prop) (h0:Pv 0 σ H) (hl:∀i σ H,i<=xs.length->Pv i σ H->SqL K H a xs)
  (hs:∀i x σ H,xs[i]? = some x->Pv i σ H->g x σ H fun σ2 H2=>tb { D with nx:=Pv (i+1),ct:=Pv (i+1),bk:=D.nx } σ2 H2) (hd:∀σ H,Pv xs.length σ H->D.nx σ H) :
  ∃W:Nat->Nat->St->Hp->Prop,(∃m,W 0 m σ H)/\∀i m σ H,W i m σ H->
   ((Itl K a).stop i H/\D.nx σ H)\/((Itl K a).go i H/\∃N:St->Hp->Prop,(∀σ' H',N σ' H'->∃m',m' < m/\W (i+1) m' σ' H')/\∀x H',(Itl K a).yld i H x H'->g x σ H' fun σ2 H2=>tb { D with nx:=N,ct:=N,bk:=D.nx } σ2 H2):=by
 refine ⟨fun i m σ H=>m=xs.length - i/\i<=xs.length/\Pv i σ H,⟨xs.length,by simp,Nat.zero_le _,h0⟩,?_⟩
 rintro i m σ H ⟨rfl,hi,p⟩
 have q:=hl i σ H hi p
 by_cases hlt:i < xs.length
 ·refine .inr ⟨⟨xs,xs[i],q,by simp [hlt]⟩,Pv (i+1),fun σ' H' p'=>⟨xs.length - (i+1),by lia,rfl,hlt,p'⟩,fun x H' y=>?_⟩
  obtain ⟨e,y⟩:=y
  subst e
  exact hs i x σ _ (y xs q) p
 ·have e:i=xs.length:=by lia
  subst e
  exact .inl ⟨⟨xs,q,Nat.le_refl _⟩,hd σ H p⟩
theorem for_tup {K:PySem.W.Frag} {a:Addr} {xs:List V} {g:TG} {tb:TS} {D:Ends} {σ:St} {H:Hp} (Pv:Nat->St->Hp->Prop) (h0:Pv 0 σ H) (hl:∀i σ H,i<=xs.length->Pv i σ H->SqT K H a xs)
  (hs:∀i x σ H,xs[i]? = some x->Pv i σ H->g x σ H fun σ2 H2=>tb { D with nx:=Pv (i+1),ct:=Pv (i+1),bk:=D.nx } σ2 H2) (hd:∀σ H,Pv xs.length σ H->D.nx σ H) :
  ∃W:Nat->Nat->St->Hp->Prop,(∃m,W 0 m σ H)/\∀i m σ H,W i m σ H->
   ((Itt K a).stop i H/\D.nx σ H)\/((Itt K a).go i H/\∃N:St->Hp->Prop,(∀σ' H',N σ' H'->∃m',m' < m/\W (i+1) m' σ' H')/\∀x H',(Itt K a).yld i H x H'->g x σ H' fun σ2 H2=>tb { D with nx:=N,ct:=N,bk:=D.nx } σ2 H2):=by
 refine ⟨fun i m σ H=>m=xs.length - i/\i<=xs.length/\Pv i σ H,⟨xs.length,by simp,Nat.zero_le _,h0⟩,?_⟩
 rintro i m σ H ⟨rfl,hi,p⟩
 have q:=hl i σ H hi p
 by_cases hlt:i < xs.length
 ·refine .inr ⟨⟨xs,xs[i],q,by simp [hlt]⟩,Pv (i+1),fun σ' H' p'=>⟨xs.length - (i+1),by lia,rfl,hlt,p'⟩,fun x H' y=>?_⟩
  obtain ⟨e,y⟩:=y
  subst e
  exact hs i x σ _ (y xs q) p
 ·have e:i=xs.length:=by lia
  subst e
  exact .inl ⟨⟨xs,q,Nat.le_refl _⟩,hd σ H p⟩
theorem for_range {lo:Int} {n:Nat} {g:TG} {tb:TS} {D:Ends} {σ:St} {H:Hp} (Pv:Nat->St->Hp->Prop) (h0:Pv 0 σ H)
  (hs:∀i σ H,i < n->Pv i σ H->g (.int (lo+i)) σ H fun σ2 H2=>tb { D with nx:=Pv (i+1),ct:=Pv (i+1),bk:=D.nx } σ2 H2) (hd:∀σ H,Pv n σ H->D.nx σ H) :
  ∃W:Nat->Nat->St->Hp->Prop,(∃m,W 0 m σ H)/\∀i m σ H,W i m σ H->
   ((Itr lo n).stop i H/\D.nx σ H)\/((Itr lo n).go i H/\∃N:St->Hp->Prop,(∀σ' H',N σ' H'->∃m',m' < m/\W (i+1) m' σ' H')/\∀x H',(Itr lo n).yld i H x H'->g x σ H' fun σ2 H2=>tb { D with nx:=N,ct:=N,bk:=D.nx } σ2 H2):=by
 refine ⟨fun i m σ H=>m=n - i/\i<=n/\Pv i σ H,⟨n,by simp,Nat.zero_le _,h0⟩,?_⟩
 rintro i m σ H ⟨rfl,hi,p⟩
 by_cases hlt:i < n
 ·refine .inr ⟨hlt,Pv (i+1),fun σ' H' p'=>⟨n - (i+1),by lia,rfl,hlt,p'⟩,fun x H' y=>?_⟩
  obtain ⟨e,y⟩:=y
  subst e y
  exact hs i σ _ hlt p
 ·have e:i=n:=by lia
  subst e
  exact .inl ⟨Nat.le_refl _,hd σ H p⟩
end L2
namespace L2
open PySem PySem.Spec PyProof.Rows
abbrev R2:=V->V->Hp->VK->Prop
def OpR (X:Cx) (f:Value->Value->Sem Value) (r:R2):Prop:=
 ∀(pins:List (Addr×Obj)) (s:Shared) (σ:St) (H:Hp) (x y:V) (v u:Value) (Q:VK),Inv X pins σ H s->RelV x v->RelV y u->r x y H Q->
  wpAny (model X.prog X.w) X.A (f v u) (EP X pins σ Q) X.xe s
def CallR (X:Cx) (f:Value) (r:List V->Hp->VK->Prop):Prop:=
 ∀(pins:List (Addr×Obj)) (s:Shared) (σ:St) (H:Hp) (xs:List V) (us:List Value) (Q:VK),Inv X pins σ H s->Vals xs us->r xs H Q->
  wpAny (model X.prog X.w) X.A (call f us) (EP X pins σ Q) X.xe s
def tOp (r:R2) (ta tb:TE):TE:=fun σ H Q=>ta σ H fun x H1=>tb σ H1 fun y H2=>r x y H2 Q
def tUn (r:V->Hp->VK->Prop) (ta:TE):TE:=fun σ H Q=>ta σ H fun x H1=>r x H1 Q
def rI (C:Int->Int->Prop) (g:Int->Int->V):R2:=fun x y H Q=>∃i j,x=.int i/\y=.int j/\C i j/\Q (g i j) H
def rI0 (g:Int->Int->V):R2:=fun x y H Q=>∃i j,x=.int i/\y=.int j/\Q (g i j) H
def rU (g:Int->V):V->Hp->VK->Prop:=fun x H Q=>∃i,x=.int i/\Q (g i) H
section
variable {X:Cx} {a b c:Expr} {ta tb tc:TE} {pos:Pos}
theorem binT (ha:PE X a ta) (hb:PE X b tb) {pins:List (Addr×Obj)} {s:Shared} {σ:St} {H:Hp} {R:V->V->Hp->Prop} (I:Inv X pins σ H s)
  (h:ta σ H fun x H1=>tb σ H1 fun y H2=>R x y H2) {Q:Value->Shared->Prop} {f:Value->Value->Sem Value}
  (hf:∀v u s2 x y H2,Inv X pins σ H2 s2->RelV x v->RelV y u->R x y H2->wpAny (model X.prog X.w) X.A (f v u) Q X.xe s2) :
  wpAny (model X.prog X.w) X.A (eval a X.env) (fun v s₁=>wpAny (model X.prog X.w) X.A (eval b X.env) (fun u s₂=>wpAny (model X.prog X.w) X.A (f v u) Q X.xe s₂) X.xe s₁) X.xe s:=by
 refine thn (ha pins s σ H _ I h) fun v s1 ⟨x,H1,I1,r1,q1⟩=>?_
 refine thn (hb pins s1 σ H1 _ I1 q1) fun u s2 ⟨y,H2,I2,r2,q2⟩=>?_
 exact hf v u s2 x y H2 I2 r1 r2 q2
theorem pe_op {op:Operator} {r:R2} (ho:OpR X (binaryOp op) r) (ha:PE X a ta) (hb:PE X b tb):PE X (.BinOp a op b pos) (tOp r ta tb):=by
 intro pins s σ H Q I h
 exact wpAny_BinOp (binT ha hb I h fun v u s2 x y H2 I2 rx ry q=>ho pins s2 σ H2 x y v u Q I2 rx ry q)
theorem opI {f:Value->Value->Sem Value} {C:Int->Int->Prop} {g:Int->Int->Int}
  (rule:∀(i j:Int) (t u:Tok) (s:Shared) (Q:Value->Shared->Prop) (E:Value->Shared->Prop),C i j->Q (.int (g i j) s.toks) { s with toks:=s.toks+1 }->wpAny (model X.prog X.w) X.A (f (.int i t) (.int j u)) Q E s) :
  OpR X f (rI C fun i j=>.int (g i j)):=by
 intro pins s σ H x y v u Q I rx ry h
 obtain ⟨i,j,rfl,rfl,hc,q⟩:=h
 obtain ⟨t,rfl⟩:=rx
 obtain ⟨t',rfl⟩:=ry
 exact rule i j t t' s _ _ hc ⟨.int (g i j),H,I.tok _,⟨_,rfl⟩,q⟩
theorem opI0 {f:Value->Value->Sem Value} {g:Int->Int->Int}
  (rule:∀(i j:Int) (t u:Tok) (s:Shared) (Q:Value->Shared->Prop) (E:Value->Shared->Prop),Q (.int (g i j) s.toks) { s with toks:=s.toks+1 }->wpAny (model X.prog X.w) X.A (f (.int i t) (.int j u)) Q E s) :
  OpR X f (rI0 fun i j=>.int (g i j)):=by
 intro pins s σ H x y v u Q I rx ry h
 obtain ⟨i,j,rfl,rfl,q⟩:=h
 obtain ⟨t,rfl⟩:=rx
 obtain ⟨t',rfl⟩:=ry
 exact rule i j t t' s _ _ ⟨.int (g i j),H,I.tok _,⟨_,rfl⟩,q⟩
theorem opB0 {f:Value->Value->Sem Value} {g:Int->Int->Bool}
  (rule:∀(i j:Int) (t u:Tok) (s:Shared) (Q:Value->Shared->Prop) (E:Value->Shared->Prop),Q (.bool (g i j)) s->wpAny (model X.prog X.w) X.A (f (.int i t) (.int j u)) Q E s) :
  OpR X f (rI0 fun i j=>.bl (g i j)):=by
 intro pins s σ H x y v u Q I rx ry h
 obtain ⟨i,j,rfl,rfl,q⟩:=h
 obtain ⟨t,rfl⟩:=rx
 obtain ⟨t',rfl⟩:=ry
 exact rule i j t t' s _ _ ⟨.bl (g i j),H,I,rfl,q⟩
def CDiv (i j:Int):Prop:=0 < j/\j < 1073741824
def CPow (i j:Int):Prop:=0<=j/\j<=1000000/\i.natAbs < 2 ^ 64
def CMul (i j:Int):Prop:=(-(2 ^ 64) < i/\i < 2 ^ 64)\/(-(2 ^ 64) < j/\j < 2 ^ 64)
theorem CMul.ok {i j:Int} (h:CMul i j):IntMulOk i j:=by
 rcases h with ⟨h1,h2⟩ | ⟨h1,h2⟩
 ·exact .of_left (intBits_le_64 h1 h2)
 ·exact .of_right (intBits_le_64 h1 h2)
theorem op_add:OpR X (binaryOp .Add) (rI0 fun i j=>.int (i+j)):=opI0 fun _ _ _ _ _ _ _ q=>add_int q
theorem op_sub:OpR X (binaryOp .Sub) (rI0 fun i j=>.int (i - j)):=opI0 fun _ _ _ _ _ _ _ q=>sub_int q
theorem op_mul:OpR X (binaryOp .Mult) (rI CMul fun i j=>.int (i * j)):=opI fun _ _ _ _ _ _ _ hc q=>mul_int q hc.ok
theorem op_fdiv:OpR X (binaryOp .FloorDiv) (rI CDiv fun i j=>.int (i / j)):=opI fun i j _ _ _ _ _ hc q=>by
 have h1:(0:Int) < j:=hc.1
 have h2:j < 1073741824:=hc.2
 exact floordiv_int (by lia) (by rw [Int.fdiv_eq_ediv_of_nonneg i (by lia)];exact q) (.inl (PyProof.noPylong_small (by lia)))
theorem op_mod:OpR X (binaryOp .Mod) (rI (fun _ j=>0 < j) fun i j=>.int (i % j)):=opI fun i j _ _ _ _ _ hc q=>by
 have h1:(0:Int) < j:=hc
 exact mod_int' (by lia) (by rw [Int.fmod_eq_emod_of_nonneg i (by lia)];exact q)
theorem op_pow:OpR X (binaryOp .Pow) (rI CPow fun i j=>.int (i ^ j.toNat)):=opI fun _ _ _ _ _ _ _ hc q=>pow_int_small hc.1 hc.2.1 hc.2.2 q
end
def scal:V->V->Bool
 | .non,.non=>true | .non,.int _=>true | .int _,.non=>true | .non,.bl _=>true | .bl _,.non=>true | .non,.str _=>true | .str _,.non=>true
 | .int _,.int _=>true | .bl _,.bl _=>true | .str _,.str _=>true | .byt _,.byt _=>true
 | .int _,.str _=>true | .str _,.int _=>true | .bl _,.str _=>true | .str _,.bl _=>true
 | _,_=>false
def rEq:R2:=fun x y H Q=>scal x y=true/\Q (.bl (decide (x=y))) H
def rNe:R2:=fun x y H Q=>scal x y=true/\Q (.bl (!decide (x=y))) H
theorem dec_int {i j:Int}:decide (V.int i=V.int j)=(i == j):=by
 rw [Bool.eq_iff_iff]
 simp
theorem dec_bl {i j:Bool}:decide (V.bl i=V.bl j)=(i == j):=by
 rw [Bool.eq_iff_iff]
 simp
theorem dec_str {i j:Str}:decide (V.str i=V.str j)=(i == j):=by
 rw [Bool.eq_iff_iff]
 simp
theorem dec_byt {i j:Array UInt8}:decide (V.byt i=V.byt j)=(i.toList == j.toList):=by
 rw [Bool.eq_iff_iff]
 cases i
 cases j
 simp
section
variable {X:Cx} {a b c:Expr} {ta tb tc:TE} {pos:Pos}
theorem fin_bl {pins:List (Addr×Obj)} {σ:St} {H:Hp} {s:Shared} {Q:VK} {k k':Bool} (I:Inv X pins σ H s) (q:Q (.bl k) H) (e:k=k'):EP X pins σ Q (.bool k') s:=by
 subst e
 exact ⟨.bl k,H,I,rfl,q⟩
theorem op_eq:OpR X (compareOp .Eq) rEq:=by
 intro pins s σ H x y v u Q I rx ry h
 obtain ⟨hs,q⟩:=h
 cases x with
 | non=>
  cases rx
  cases y with
  | non=>cases ry;exact PySem.EqNone.eq_none_none (fin_bl I q (by simp))
  | bl j=>cases ry;exact PySem.EqNone.eq_none_bool (fin_bl I q (by simp))
  | int j=>obtain ⟨t',rfl⟩:=ry;exact PySem.EqNone.eq_none_int (fin_bl I q (by simp))
  | str j=>obtain ⟨t',rfl⟩:=ry;exact PySem.EqNone.eq_none_str (fin_bl I q (by simp))
  | _=>exact absurd (show false=true from hs) Bool.false_ne_true
 | bl i=>
  cases rx
  cases y with
  | non=>cases ry;exact PySem.EqNone.eq_bool_none (fin_bl I q (by simp))
  | bl j=>cases ry;exact eq_bool (fin_bl I q dec_bl)
  | str j=>obtain ⟨t',rfl⟩:=ry;exact PySem.EqMixed.eq_bool_str (fin_bl I q (by simp))
  | _=>exact absurd (show false=true from hs) Bool.false_ne_true
 | int i=>
  obtain ⟨t,rfl⟩:=rx
  cases y with
  | non=>cases ry;exact PySem.EqNone.eq_int_none (fin_bl I q (by simp))
  | int j=>obtain ⟨t',rfl⟩:=ry;exact eq_int (fin_bl I q dec_int)
  | str j=>obtain ⟨t',rfl⟩:=ry;exact PySem.EqMixed.eq_int_str (fin_bl I q (by simp))
  | _=>exact absurd (show false=true from hs) Bool.false_ne_true
 | str i=>
  obtain ⟨t,rfl⟩:=rx
  cases y with
  | non=>cases ry;exact PySem.EqNone.eq_str_none (fin_bl I q (by simp))
  | bl j=>cases ry;exact PySem.EqMixed.eq_str_bool (fin_bl I q (by simp))
  | int j=>obtain ⟨t',rfl⟩:=ry;exact PySem.EqMixed.eq_str_int (fin_bl I q (by simp))
  | str j=>obtain ⟨t',rfl⟩:=ry;exact eq_str (fin_bl I q dec_str)
  | _=>exact absurd (show false=true from hs) Bool.false_ne_true
 | byt i=>
  obtain ⟨t,rfl⟩:=rx
  cases y with
  | byt j=>obtain ⟨t',rfl⟩:=ry;exact PySem.W.eq_bytes (fin_bl I q dec_byt)
  | _=>exact absurd (show false=true from hs) Bool.false_ne_true
 | _=>cases y <;> exact absurd (show false=true from hs) Bool.false_ne_true
theorem op_ne:OpR X (compareOp .NotEq) rNe:=by
 intro pins s σ H x y v u Q I rx ry h
 obtain ⟨hs,q⟩:=h
 cases x with
 | non=>
  cases rx
  cases y with
  | non=>cases ry;exact PySem.EqNone.ne_none_none (fin_bl I q (by simp))
  | bl j=>cases ry;exact PySem.EqNone.ne_none_bool (fin_bl I q (by simp))
  | int j=>obtain ⟨t',rfl⟩:=ry;exact PySem.EqNone.ne_none_int (fin_bl I q (by simp))
  | str j=>obtain ⟨t',rfl⟩:=ry;exact PySem.EqNone.ne_none_str (fin_bl I q (by simp))
  | _=>exact absurd (show false=true from hs) Bool.false_ne_true
 | bl i=>
  cases rx
  cases y with
  | non=>cases ry;exact PySem.EqNone.ne_bool_none (fin_bl I q (by simp))
  | bl j=>cases ry;exact ne_bool (fin_bl I q (congrArg not dec_bl))
  | str j=>obtain ⟨t',rfl⟩:=ry;exact PySem.EqMixed.ne_bool_str (fin_bl I q (by simp))
  | _=>exact absurd (show false=true from hs) Bool.false_ne_true
 | int i=>
  obtain ⟨t,rfl⟩:=rx
  cases y with
  | non=>cases ry;exact PySem.EqNone.ne_int_none (fin_bl I q (by simp))
  | int j=>obtain ⟨t',rfl⟩:=ry;exact ne_int (fin_bl I q (congrArg not dec_int))
  | str j=>obtain ⟨t',rfl⟩:=ry;exact PySem.EqMixed.ne_int_str (fin_bl I q (by simp))
  | _=>exact absurd (show false=true from hs) Bool.false_ne_true
 | str i=>
  obtain ⟨t,rfl⟩:=rx
  cases y with
  | non=>cases ry;exact PySem.EqNone.ne_str_none (fin_bl I q (by simp))
  | bl j=>cases ry;exact PySem.EqMixed.ne_str_bool (fin_bl I q (by simp))
  | int j=>obtain ⟨t',rfl⟩:=ry;exact PySem.EqMixed.ne_str_int (fin_bl I q (by simp))
  | str j=>obtain ⟨t',rfl⟩:=ry;exact ne_str (fin_bl I q (congrArg not dec_str))
  | _=>exact absurd (show false=true from hs) Bool.false_ne_true
 | byt i=>
  obtain ⟨t,rfl⟩:=rx
  cases y with
  | byt j=>obtain ⟨t',rfl⟩:=ry;exact PySem.W.ne_bytes (fin_bl I q (congrArg not dec_byt))
  | _=>exact absurd (show false=true from hs) Bool.false_ne_true
 | _=>cases y <;> exact absurd (show false=true from hs) Bool.false_ne_true
theorem op_lt:OpR X (compareOp .Lt) (rI0 fun i j=>.bl (decide (i < j))):=opB0 fun _ _ _ _ _ _ _ q=>lt_int q
theorem op_gt:OpR X (compareOp .Gt) (rI0 fun i j=>.bl (decide (j < i))):=opB0 fun _ _ _ _ _ _ _ q=>gt_int q
theorem op_ge:OpR X (compareOp .GtE) (rI0 fun i j=>.bl (decide (j<=i))):=opB0 fun _ _ _ _ _ _ _ q=>ge_int q
theorem op_lt_str:OpR X (compareOp .Lt) (fun x y H Q=>∃i j,x=.str i/\y=.str j/\Q (.bl (decide (i.cps.toList < j.cps.toList))) H):=by
 intro pins s σ H x y v u Q I rx ry h
 obtain ⟨i,j,rfl,rfl,q⟩:=h
 obtain ⟨t,rfl⟩:=rx
 obtain ⟨t',rfl⟩:=ry
 exact lt_str (fin_bl I q rfl)
theorem nomark (b:Expr) {op:CmpOp} (h:op≠.In:=by decide) (h2:op≠.NotIn:=by decide):behindInMarks op b=false:=by
 have e1:(op == CmpOp.In)=false:=by cases op <;> first | rfl | exact absurd rfl h
 have e2:(op == CmpOp.NotIn)=false:=by cases op <;> first | rfl | exact absurd rfl h2
 cases b <;> simp [behindInMarks,e1,e2]
theorem pe_cmpR {op:CmpOp} {r:R2} (ho:OpR X (compareOp op) r) (ha:PE X a ta) (hb:PE X b tb) (hm:behindInMarks op b=false):PE X (.Compare a [op] [b] pos) (tOp r ta tb):=by
 intro pins s σ H Q I h
 exact wpAny_Compare1 (binT ha hb I h fun v u s2 x y H2 I2 rx ry q=>ho pins s2 σ H2 x y v u Q I2 rx ry q) hm
def tTest (t:TE):TT:=fun σ H Q=>t σ H fun x H'=>∃k,x=.bl k/\Q k H'
theorem pt_cmpR {op:CmpOp} {r:R2} (ho:OpR X (compareOp op) r) (ha:PE X a ta) (hb:PE X b tb) (hm:behindInMarks op b=false):PT X (.Compare a [op] [b] pos) (tTest (tOp r ta tb)):=by
 intro pins s σ H Q I h
 refine wpAny_isTrue_Compare1 (thn (ha pins s σ H _ I h) fun v s1 ⟨x,H1,I1,r1,q1⟩=>thn (hb pins s1 σ H1 _ I1 q1) fun u s2 ⟨y,H2,I2,r2,q2⟩=>
  thn (ho pins s2 σ H2 x y v u _ I2 r1 r2 q2) fun c s3 ⟨z,H3,I3,r3,k,e,q3⟩=>?_) hm
 subst e
 cases r3
 exact wpAny_truthy_bool ⟨H3,I3,q3⟩
theorem line63:(sizeLine:Nat) < 2 ^ 63:=by rw [sizeLine_eq];decide
theorem op_add_str:OpR X (binaryOp .Add) (fun x y H Q=>∃i j,x=.str i/\y=.str j/\i.length+j.length<=sizeLine/\Q (.str (i++j)) H):=by
 intro pins s σ H x y v u Q I rx ry h
 obtain ⟨i,j,rfl,rfl,hz,q⟩:=h
 obtain ⟨t,rfl⟩:=rx
 obtain ⟨t',rfl⟩:=ry
 exact add_str (fun t' tk=>⟨.str (i++j),H,I.tok _,⟨_,rfl⟩,q⟩) hz
theorem vals1 {x:V} {us:List Value} (r:Vals [x] us):∃u,us=[u]/\RelV x u:=by
 cases r with
 | cons r1 r2=>cases r2;exact ⟨_,rfl,r1⟩
theorem call_abs:CallR X (.builtin "abs") (fun xs H Q=>∃i,xs=[.int i]/\Q (.int (if i < 0 then -i else i)) H):=by
 intro pins s σ H xs us Q I r h
 obtain ⟨i,rfl,q⟩:=h
 obtain ⟨u,rfl,t,rfl⟩:=vals1 r
 exact call_abs_int fun u tk=>⟨.int (if i < 0 then -i else i),H,I.tok _,⟨_,rfl⟩,q⟩
end
end L2
namespace L2
open PySem PySem.Spec PyProof.Rows
structure ObjM (h:Heap) (x dx C:Addr) (mA:Str->Option Value):Prop where
 obj:h.get? x=some (PySem.W.instObj C dx)
 ns:h.Ns1 dx mA
 ne:dx≠x
theorem lookIn_ns {h:Heap} {dx:Addr} {mA:Str->Option Value} (n:h.Ns1 dx mA):∃od,h.get? dx=some od/\∀name,PySem.W.lookIn name od=some (mA name):=by
 obtain ⟨o,es,ep,ho,hd,hk,_,hm⟩:=n
 refine ⟨o,ho,fun name=>?_⟩
 have e:=hm name
 unfold nsFind findBy at e
 rw [<-Array.find?_toList] at e
 unfold PySem.W.lookIn
 rw [hd]
 dsimp only
 split
 ·rename_i y q
  rw [q] at e
  exact congrArg some e
 ·rename_i q
  rw [q] at e
  have a:es.toList.any (·.refKey)=false:=by
   rw [List.any_eq_false]
   intro y hy
   obtain ⟨z,t,hkey⟩:=hk y (Array.mem_toList_iff.mp hy)
   simp [DictEntry.refKey,hkey]
  have a':¬es.toList.any (·.refKey)=true:=by rw [a];exact Bool.false_ne_true
  rw [if_neg a']
  exact congrArg some e
theorem ObjM.look {h:Heap} {x dx C:Addr} {mA:Str->Option Value} (I:ObjM h x dx C mA):∃od,PySem.W.InstAt h x (PySem.W.instObj C dx) C (some od)/\∀name,PySem.W.lookIn name od=some (mA name):=
 let ⟨od,ho,hl⟩:=lookIn_ns I.ns
 ⟨od,⟨I.obj,rfl,rfl,ho⟩,hl⟩
section
variable {prog:Program} {w:World} {A:Around} {E:Value->Shared->Prop} {s:Shared} {K:PySem.W.Frag} {x dx C f:Addr} {mA:Str->Option Value} {name:Str} {v:Value}
end
theorem RelO.some_of {v:V} {o:Option Value} (r:RelO (some v) o):∃u,o=some u/\RelV v u:=by
 cases o with
 | none=>exact (show False from r).elim
 | some u=>exact ⟨u,rfl,r⟩
section
variable {P:Program} {w:World} {H H':Hp} {h h':Heap} {a C dx:Addr} {fs fs':List (Str×V)}
theorem ins_get (hok:HOk P w H h) (e:H a=some (.ins C dx fs)):∃mA,ObjM h a dx C mA/\(∀f,RelO (fs.lookup f) (mA f))/\PySem.Within mA (fs.map (·.1))/\fs.length<=1000/\H dx=some (.own a):=by
 obtain ⟨d,z,ne,ob,mA,n,r,q⟩:=(show ObjOk P w H h a (.ins C dx fs) from hok a _ e)
 exact ⟨mA,⟨ob,n,ne⟩,r,q,z,d⟩
end
structure Cls (K:PySem.W.Frag) (C:Addr):Prop where
 pg:PySem.W.plainGet K C Str.empty=true
 hd:PySem.W.hasDictIn K C=true
 po:PySem.W.plainOver K C=true
 sa:PySem.W.findIn K (.ref C) "__setattr__" = some (some (.builtin "object.__setattr__"))
theorem Cls.get {K:PySem.W.Frag} {C:Addr} (c:Cls K C) (f:Str):PySem.W.plainGet K C f=true:=c.pg
section
variable {X:Cx} {pins:List (Addr×Obj)} {σ:St} {H:Hp} {s:Shared} {a C dx:Addr} {fs:List (Str×V)} {f:Str} {v:V} {A:Around} {E:Value->Shared->Prop}
end
section
variable {X:Cx} {o e value:Expr} {f:Str} {pos pos' tpos:Pos} {ta tv:TE}
end
section
variable {X:Cx} {pins:List (Addr×Obj)} {σ:St} {H:Hp} {s:Shared} {A:Around} {E:Value->Shared->Prop} {Q:Value->Shared->Prop} {c:Value} {b:Bool}
inductive TyOf (K:PySem.W.Frag) (H:Hp):V->Value->Prop where
 | non:TyOf K H .non (.type "NoneType")
 | bl (x:Bool):TyOf K H (.bl x) (.type "bool")
 | int (i:Int):TyOf K H (.int i) (.type "int")
 | str (x:Str):TyOf K H (.str x) (.type "str")
 | flt (x:UInt64):TyOf K H (.flt x) (.type "float")
 | lst {a:Addr} {xs:List V} (e:H a=some (.lst xs)):TyOf K H (.ref a) (.type "list")
 | frz {a:Addr} {o:Obj} {xs:List V} (e:H a=some (.frz o (.lst xs))):TyOf K H (.ref a) (.type "list")
 | tup {a:Addr} {xs:List V} (e:H a=some (.tup xs)):TyOf K H (.ref a) (.type "tuple")
 | dK {a:Addr} {kvs:List (Key×V)} (e:H a=some (.dK kvs)):TyOf K H (.ref a) (.type "dict")
 | dT {a:Addr} {kvs:List (List Key×V)} (e:H a=some (.dT kvs)):TyOf K H (.ref a) (.type "dict")
 | ins {a C dx:Addr} {fs:List (Str×V)} (e:H a=some (.ins C dx fs)) (cl:Cls K C) (ha:PySem.W.findIn K (.ref C) "__class__" = some (some (.builtin "object.__class__")))
   (hn:PySem.W.specialIn K (.builtin "object.__class__") "__get__" = some (some (.builtin "getset_descriptor.__get__"))) (htk:PySem.W.takesIn K (.builtin "object.__class__")=some true)
   (hm:PySem.W.mroIn K C (.type "object")=some true):TyOf K H (.ref a) (.ref C)
theorem isinst_ok {x:V} {u t:Value} (I:Inv X pins σ H s) (rx:RelV x u) (ty:TyOf X.K H x t) (e:PySem.W.kitOne X.K t c=some b) (h:∀tk,Q (.bool b) { s with toks:=tk }) :
  wpAny (model X.prog X.w) A (call (.builtin "isinstance") [u,c]) Q E s:=by
 cases ty with
 | non=>cases (show u=Value.none from rx);exact PySem.W.kia_one PySem.W.kitx_none I.kIn True.intro e (fun z=>nomatch z) h
 | bl y=>cases (show u=Value.bool y from rx);exact PySem.W.kia_one PySem.W.kitx_bool I.kIn True.intro e (fun z=>nomatch z) h
 | int i=>obtain ⟨t,q⟩:=(show ∃t,u=Value.int i t from rx);cases q;exact PySem.W.kia_one PySem.W.kitx_int I.kIn True.intro e (fun z=>nomatch z) h
 | str y=>obtain ⟨t,q⟩:=(show ∃t,u=Value.str y t from rx);cases q;exact PySem.W.kia_one PySem.W.kitx_str I.kIn True.intro e (fun z=>nomatch z) h
 | flt y=>obtain ⟨t,q⟩:=(show ∃t,u=Value.float y t from rx);cases q;exact PySem.W.kia_one PySem.W.kitx_float I.kIn True.intro e (fun z=>nomatch z) h
 | @lst a xs ea=>
  cases (show u=Value.ref a from rx)
  obtain ⟨_,_,n,_,h1⟩:=(show ObjOk X.prog X.w H s.heap a (.lst xs) from I.hok a _ ea)
  exact PySem.W.kia_one PySem.W.kitx_list I.kIn ⟨_,h1,rfl⟩ e (fun z=>nomatch z) h
 | @frz a ob xs ea=>
  cases (show u=Value.ref a from rx)
  obtain ⟨_,_,_,n,_,h1⟩:=(show ObjOk X.prog X.w H s.heap a (.frz ob (.lst xs)) from I.hok a _ ea)
  exact PySem.W.kia_one PySem.W.kitx_list I.kIn ⟨_,h1,rfl⟩ e (fun z=>nomatch z) h
 | @tup a xs ea=>
  cases (show u=Value.ref a from rx)
  obtain ⟨_,_,_,p⟩:=(show ObjOk X.prog X.w H s.heap a (.tup xs) from I.hok a _ ea)
  obtain ⟨o,h1,h2,_⟩:=p
  exact PySem.W.kia_one PySem.W.kitx_tuple I.kIn ⟨o,h1,h2⟩ e (fun z=>nomatch z) h
 | @dK a kvs ea=>
  cases (show u=Value.ref a from rx)
  obtain ⟨_,_,vs,_,p⟩:=(show ObjOk X.prog X.w H s.heap a (.dK kvs) from I.hok a _ ea)
  obtain ⟨o,es,ep,h1,h2,_⟩:=p
  exact PySem.W.kia_one PySem.W.kitx_dict I.kIn ⟨o,h1,h2.1⟩ e (fun z=>nomatch z) h
 | @dT a kvs ea=>
  cases (show u=Value.ref a from rx)
  obtain ⟨_,_,xs,_,o,es,ep,h1,h2,_⟩:=(show ObjOk X.prog X.w H s.heap a (.dT kvs) from I.hok a _ ea)
  exact PySem.W.kia_one PySem.W.kitx_dict I.kIn ⟨o,h1,h2.1⟩ e (fun z=>nomatch z) h
 | @ins a C dx fs ea cl ha hn htk hm=>
  cases (show u=Value.ref a from rx)
  obtain ⟨mA,O,_⟩:=ins_get I.hok ea
  obtain ⟨od,J,_⟩:=O.look
  exact PySem.W.kia_one (PySem.W.kitx_own (cl.get _) cl.hd ha hn htk hm) I.kIn J e (fun z=>nomatch z) h
end
end L2
namespace L2
open PySem PySem.Spec PyProof.Rows
structure Room (k:Nat) (A:Around):Prop where
 hd:A.handled=none
 dp:A.depth+3 * k+5 < recursionLimit
 un:A.units+16 * k+200 < cLine
theorem Room.mono {j k:Nat} {A:Around} (r:Room k A) (h:j<=k):Room j A:=⟨r.hd,by have:=r.dp;lia,by have:=r.un;lia⟩
theorem Room.deeper {k:Nat} {A:Around} (r:Room (k+1) A) (env:Env):Room k (A.deeper env):=
 ⟨r.hd,by have:=r.dp;show A.depth+1+3 * k+5 < _;lia,by have:=r.un;show A.units+3+16 * k+200 < _;lia⟩
theorem Room.in1 {k:Nat} {A:Around} (r:Room (k+1) A):Room k A.in1:=
 ⟨r.hd,by have:=r.dp;show A.depth+3 * k+5 < _;lia,by have:=r.un;show A.units+1+16 * k+200 < _;lia⟩
theorem Room.depth {k:Nat} {A:Around} (r:Room k A):A.depth < recursionLimit:=by have:=r.dp;lia
theorem Room.units {k:Nat} {A:Around} (r:Room k A):A.units+64 < cLine:=by have:=r.un;lia
theorem Room.units0 {k:Nat} {A:Around} (r:Room k A):A.units < cLine:=by have:=r.un;lia
def tNil:TA:=fun _ H Q=>Q [] H
def tCons (ta:TE) (tr:TA):TA:=fun σ H Q=>ta σ H fun x H1=>tr σ H1 fun xs H2=>Q (x::xs) H2
section
variable {X:Cx} {e:Expr} {es:List Expr} {te:TE} {t:TA} {pos:Pos}
theorem pa_nil:PA X [] tNil:=fun _ _ _ _ H Q I h=>Calls.spliced_nil ⟨[],H,I,.nil,h⟩
theorem pa_cons (ha:PE X e te) (hr:PA X es t) (hs:starEach (e::es) X.env=(false,eval e X.env)::starEach es X.env:=by rfl):PA X (e::es) (tCons te t):=by
 intro pos pins s σ H Q I h
 rw [hs]
 show wpAny _ _ (spliced ((false,eval e X.env)::backTo pos (starEach es X.env))) _ _ s
 refine Calls.spliced_cons (thn (ha pins s σ H _ I h) fun u s1 ⟨x,H1,I1,r1,q1⟩=>?_)
 exact thn (hr pos pins s1 σ H1 _ I1 q1) fun us s2 ⟨xs,H2,I2,r2,q2⟩=>⟨x::xs,H2,I2,.cons r1 r2,q2⟩
def tTup (t:TA):TE:=fun σ H Q=>t σ H fun xs H1=>xs.length<=sizeLine/\∀p,H1 p=none->Q (.ref p) (upd H1 p (.tup xs))
def tLst (t:TA):TE:=fun σ H Q=>t σ H fun xs H1=>xs.length<=sizeLine/\∀p,H1 p=none->Q (.ref p) (upd H1 p (.lst xs))
theorem pe_tup {x1} (h:PA X es t):PE X (.Tuple es x1 pos) (tTup t):=by
 intro pins s σ H Q I hq
 refine wpAny_Tuple_spliced (thn (h pos pins s σ H _ I hq) fun us s1 ⟨xs,H1,I1,r,z,q⟩=>⟨by rw [<-r.length];exact z,?_⟩)
 have hf:H1 s1.heap.objs.size=none:=I1.hok.fresh (Nat.le_refl _)
 refine ⟨.ref s1.heap.objs.size,upd H1 s1.heap.objs.size (.tup xs),I1.laid (t':=s1.toks) (fun b u e=>Heap.get?_push_of_some _ e) (Nat.le_refl _) ?_,rfl,q _ hf⟩
 exact ⟨z,us,r,⟨_,Heap.get?_push_size _ rfl,rfl,_,rfl⟩⟩
theorem pe_lst (h:PA X es t):PE X (.List es pos) (tLst t):=by
 intro pins s σ H Q I hq
 refine wpAny_List_spliced (thn (h pos pins s σ H _ I hq) fun us s1 ⟨xs,H1,I1,r,z,q⟩=>⟨by rw [<-r.length];exact z,?_⟩)
 have hf:H1 s1.heap.objs.size=none:=I1.hok.fresh (Nat.le_refl _)
 refine ⟨.ref s1.heap.objs.size,upd H1 s1.heap.objs.size (.lst xs),I1.laid (t':=s1.toks) (fun b u e=>Heap.get?_push_of_some _ e) (Nat.le_refl _) ?_,rfl,q _ hf⟩
 exact ⟨z,us,0,r,Heap.get?_push_size _ rfl⟩
end
abbrev Sp:=List V->Hp->VK->XK->Prop
abbrev CXT:=List Env->Hp->Shared->XK->Value->Shared->Prop
structure Env0 (P:Program) (w:World) (K:PySem.W.Frag) (mg:Str->Option Value) (base:Heap) (A:Around) (outer:List Env) (s:Shared) (H:Hp):Prop where
 frames:A.frames=some outer
 mod:Mod K mg base
 bs:∀b o,base.get? b=some o->s.heap.get? b=some o/\H b=none
 bsz:base.objs.size<=s.heap.objs.size
 funs:s.heap.FunFrames base outer
 frf:∀b∈frs outer,H b=none
 hok:HOk P w H s.heap
 bare:AllBare s.gens
def CE (outer:List Env) (P:Program) (w:World) (H:Hp) (s:Shared) (Q:VK) (u:Value) (s':Shared):Prop:=
 ∃v H',s'.os=s.os/\AllBare s'.gens/\Un (frs outer) [] H H' s.heap s'.heap/\HOk P w H' s'.heap/\RelV v u/\Q v H'
def CR (CX:CXT) (outer:List Env) (P:Program) (w:World) (H:Hp) (s:Shared) (Q:VK) (E:XK) (r:Result) (s':Shared):Prop:=
 match r with
 | .ok (.ret u)=>CE outer P w H s Q u s'
 | .ok _=>False
 | .error e=>CX outer H s E e s'
structure FnOk (P:Program) (w:World) (K:PySem.W.Frag) (mg:Str->Option Value) (base:Heap) (CX:CXT) (k:Nat) (f:Addr) (fd:FuncData) (ps:List Str) (sp:Sp):Prop where
 len:∀vs H Q E,sp vs H Q E->vs.length=ps.length
 run:∀(A:Around) (outer:List Env) (s:Shared) (H:Hp) (args:Args) (us:List Value) (vs:List V) (Q:VK) (E:XK),Room k A->Env0 P w K mg base A outer s H->BindsTo s fd args (ps.zip us)->Vals vs us->sp vs H Q E->
  codeAny (model P w) A (.call (.ref f) args) (CR CX outer P w H s Q E) s
theorem Env0.in1 {P:Program} {w:World} {K:PySem.W.Frag} {mg:Str->Option Value} {base:Heap} {A:Around} {outer:List Env} {s:Shared} {H:Hp} (e:Env0 P w K mg base A outer s H) :
  Env0 P w K mg base A.in1 outer s H:=⟨e.frames,e.mod,e.bs,e.bsz,e.funs,e.frf,e.hok,e.bare⟩
section
variable {X:Cx} {pins:List (Addr×Obj)} {σ:St} {H:Hp} {s s':Shared}
theorem Inv.env0 (I:Inv X pins σ H s):Env0 X.prog X.w X.K X.mg X.base X.A X.stack s H:=
 ⟨I.ok.frames,I.ok.mod,I.bs,Nat.le_trans I.ok.bsz I.sz,I.stack,I.stkFree,I.hok,I.bare⟩
theorem Inv.after {Q:VK} {u:Value} (I:Inv X pins σ H s) (h:CE X.stack X.prog X.w H s Q u s'):EP X pins σ Q u s':=by
 obtain ⟨v,H',os,bare,un,hok,r,q⟩:=h
 obtain ⟨hh,g,d,t,os'⟩:=s'
 obtain rfl:os'=s.os:=os
 exact ⟨v,H',I.call (h':=hh) (g':=g) (d':=d) (t':=t) (ch:=[]) un hok bare (fun b z=>absurd z (by simp)),r,q⟩
end
def tCall (sp:Sp) (dvs:List V) (E:XK) (t:TA):TE:=fun σ H Q=>t σ H fun vs H1=>sp (vs++dvs) H1 Q E
def Binds (K:PySem.W.Frag) (fd:FuncData) (ps:List Str) (ds:List Value):Prop:=
 ∀(s:Shared) (us:List Value),K.In s.heap->(us++ds).length=ps.length->BindsTo s fd ⟨us,[]⟩ (ps.zip (us++ds))
theorem Binds.all {K:PySem.W.Frag} {fd:FuncData} {ps:List Str} (h:∀us:List Value,us.length=ps.length->bindArgs fd ⟨us,[]⟩=pure (ps.zip us)):Binds K fd ps []:=fun s us _ hl=>by
 rw [List.append_nil] at hl ⊢
 exact .of_eq (h us hl)
def Passes (CX:CXT) (X:Cx) (E:XK):Prop:=∀(pins:List (Addr×Obj)) (σ:St) (H:Hp) (s:Shared) (e:Value) (s':Shared),Inv X pins σ H s->CX X.stack H s E e s'->X.xe e s'
section
variable {X:Cx} {CX:CXT} {k:Nat} {f C:Addr} {fd:FuncData} {ps:List Str} {sp:Sp} {dvs:List V} {ds:List Value} {E:XK} {x m:Str} {p pos apos:Pos} {e o:Expr} {es:List Expr} {ta:TE} {t:TA}
theorem run_fn {pins:List (Addr×Obj)} {σ:St} {H:Hp} {s:Shared} {Q:VK} {us:List Value} {vs:List V} (F:FnOk X.prog X.w X.K X.mg X.base CX k f fd ps sp) (hr:Room k X.A) (hb:Binds X.K fd ps ds) (hd:Vals dvs ds) (hx:Passes CX X E)
  (I:Inv X pins σ H s) (r:Vals vs us) (h:sp (vs++dvs) H Q E):wpAny (model X.prog X.w) X.A (call (.ref f) us) (EP X pins σ Q) X.xe s:=by
 have r2:Vals (vs++dvs) (us++ds):=r.append hd
 have hl:(us++ds).length=ps.length:=by rw [<-r2.length];exact F.len _ _ _ _ h
 refine wpAny_call (codeAny_mono (F.run X.A X.stack s H ⟨us,[]⟩ (us++ds) (vs++dvs) Q E hr I.env0 (hb s us I.kIn hl) r2 h) fun r s' hq=>?_)
 cases r with
 | error e=>exact hx pins σ H s e s' I hq
 | ok fl=>
  cases fl with
  | ret u=>exact I.after hq
  | next=>exact False.elim hq
  | brk=>exact False.elim hq
  | cont=>exact False.elim hq
theorem pe_call (F:FnOk X.prog X.w X.K X.mg X.base CX k f fd ps sp) (hr:Room k X.A) (hg:Gl X x) (hm:X.mg x=some (.ref f)) (hk:PySem.W.keepIn X.K (.ref f)=true) (hb:Binds X.K fd ps ds) (hd:Vals dvs ds) (hx:Passes CX X E)
  (ha:PA X (e::es) t) (hdb:(x == ("__debug__" : Str))=false:=by decide) (he:starEach (e::es) X.env=(false,eval e X.env)::starEach es X.env:=by rfl) (hpl:(backTo pos (starEach es X.env)).any (·.1)=false:=by rfl) :
  PE X (.Call (.Name x p) (e::es) [] pos) (tCall sp dvs E t):=by
 intro pins s σ H Q I h
 refine wpAny_Call_Name_kw (ld_glob I hg hm ?_ hdb)
 refine PySem.W.callWith_K (h₀:=X.base) I.ok.mod.kin hk (thn (ha pos pins s σ H _ I h) fun us s1 ⟨vs,H1,I1,r,q⟩=>⟨I1.kIn,?_⟩) he hpl
 exact run_fn F hr hb hd hx I1 r q
end
def PK (X:Cx) (kws:List Keyword) (t:TA):Prop:=
 ∀(pos:Pos) (pins:List (Addr×Obj)) (s:Shared) (σ:St) (H:Hp) (Q:List V->Hp->Prop),Inv X pins σ H s->t σ H Q->wpAny (model X.prog X.w) X.A (evalAll ((backToKw pos (keywordEach kws X.env)).map (·.2))) (AP X pins σ Q) X.xe s
section
variable {X:Cx} {CX:CXT} {k:Nat} {f C:Addr} {fd:FuncData} {ps ks:List Str} {sp:Sp} {E:XK} {x m:Str} {p pos apos kpos:Pos} {e o:Expr} {es:List Expr} {kws:List Keyword} {te ta:TE} {t tk:TA} {nm:Option Str}
theorem pk_nil:PK X [] tNil:=fun _ _ _ _ H Q I h=>wpAny_evalAll_nil ⟨[],H,I,.nil,h⟩
theorem pk_cons (ha:PE X e te) (hr:PK X kws t):PK X (⟨nm,e,kpos⟩::kws) (tCons te t):=by
 intro pos pins s σ H Q I h
 show wpAny _ _ (evalAll ((do let v <-eval e X.env;standAt pos;pure v)::(backToKw pos (keywordEach kws X.env)).map (·.2))) _ _ s
 refine wpAny_evalAll_cons (wpAny_bind (thn (ha pins s σ H _ I h) fun u s1 ⟨x,H1,I1,r1,q1⟩=>wpAny_bind (wpAny_standAt (wpAny_pure ?_))))
 exact thn (hr pos pins s1 σ H1 _ I1 q1) fun us s2 ⟨xs,H2,I2,r2,q2⟩=>⟨x::xs,H2,I2,.cons r1 r2,q2⟩
variable {g:List Value->List Value->List Value} {gV:List V->List V->List V}
end
structure FnScope (N P:List Str) (sc:Scope):Prop where
 kind:sc.kind=.function
 co:sc.isCoroutine=false
 gen:sc.isGenerator=false
 nd:N.Nodup
 pre:N.take P.length=P
 par:∀x∈P,sc.names.lookup x=some .local\/sc.names.lookup x=some .cell
 nofree:∀y∈sc.names,y.2≠.free
theorem bindL_out {kindOf:Str->Option NameKind} {x:Str}:∀{binds:List (Str×Value)} {m:Str->Option Value},(∀v,(x,v)∉binds)->bindL kindOf binds m x=m x
 | [],_,_=>rfl
 | (n,v)::r,m,h=>by
  unfold bindL
  rw [bindL_out fun w hw=>h w (List.mem_cons_of_mem _ hw)]
  split
  ·have:x≠n:=by rintro rfl;exact h v List.mem_cons_self
   simp [this]
  ·rfl
theorem bindC_out {kindOf:Str->Option NameKind} {x:Str}:∀{binds:List (Str×Value)} {m:Str->Option Value},(∀v,(x,v)∉binds)->bindC kindOf binds m x=m x
 | [],_,_=>rfl
 | (n,v)::r,m,h=>by
  unfold bindC
  rw [bindC_out fun w hw=>h w (List.mem_cons_of_mem _ hw)]
  split
  ·rfl
  ·have:x≠n:=by rintro rfl;exact h v List.mem_cons_self
   simp [this]
theorem bindL_get {kindOf:Str->Option NameKind} {x:Str} {v:Value}:∀{P:List Str} {vs:List Value} {i:Nat} {m:Str->Option Value},P.Nodup->P[i]? = some x->vs[i]? = some v->kindOf x=some .local->
  bindL kindOf (P.zip vs) m x=some v
 | [],_,_,_,_,h,_,_=>by simp at h
 | _::_,[],_,_,_,_,h,_=>by simp at h
 | p::P,w::vs,0,m,nd,h1,h2,hk=>by
  simp at h1 h2;subst h1;subst h2
  show bindL kindOf ((p,w)::P.zip vs) m p=_
  unfold bindL
  rw [bindL_out fun v hv=>(List.nodup_cons.mp nd).1 (List.of_mem_zip hv).1,if_pos hk]
  simp
 | p::P,w::vs,i+1,m,nd,h1,h2,hk=>by
  show bindL kindOf ((p,w)::P.zip vs) m x=_
  unfold bindL
  exact bindL_get (i:=i) (List.nodup_cons.mp nd).2 (by simpa using h1) (by simpa using h2) hk
theorem bindC_get {kindOf:Str->Option NameKind} {x:Str} {v:Value}:∀{P:List Str} {vs:List Value} {i:Nat} {m:Str->Option Value},P.Nodup->P[i]? = some x->vs[i]? = some v->kindOf x≠some .local->
  bindC kindOf (P.zip vs) m x=some v
 | [],_,_,_,_,h,_,_=>by simp at h
 | _::_,[],_,_,_,_,h,_=>by simp at h
 | p::P,w::vs,0,m,nd,h1,h2,hk=>by
  simp at h1 h2;subst h1;subst h2
  show bindC kindOf ((p,w)::P.zip vs) m p=_
  unfold bindC
  rw [bindC_out fun v hv=>(List.nodup_cons.mp nd).1 (List.of_mem_zip hv).1,if_neg hk]
  simp
 | p::P,w::vs,i+1,m,nd,h1,h2,hk=>by
  show bindC kindOf ((p,w)::P.zip vs) m x=_
  unfold bindC
  exact bindC_get (i:=i) (List.nodup_cons.mp nd).2 (by simpa using h1) (by simpa using h2) hk
def start (N:List Str) (vs:List V):St:=vs.map some++List.replicate (N.length - vs.length) none
def cxOf (CX:CXT) (P:Program) (w:World) (K:PySem.W.Frag) (mg:Str->Option Value) (base:Heap) (N:List Str) (qual:Str) (scope:Scope) (f:Addr) (cd:Value) (A:Around) (outer:List Env) (s:Shared) (H:Hp) (E:XK):Cx where
 prog:=P
 w:=w
 K:=K
 mg:=mg
 base:=base
 A:=A.deeper (envOfC qual scope s.heap.objs.size f cd)
 N:=N
 s₀:=s
 H₀:=H
 env:=envOfC qual scope s.heap.objs.size f cd
 outer:=outer
 stack:=envOfC qual scope s.heap.objs.size f cd::outer
 ex:=[]
 calm:=true
 fn:=fun _=>true
 pn:=[]
 xe:=fun e s'=>wpAny (model P w) (A.deeper (envOfC qual scope s.heap.objs.size f cd)) (leaving (envOfC qual scope s.heap.objs.size f cd) e) (fun _ s''=>CX outer H s E e s'') (fun e' s''=>CX outer H s E e' s'') s'
theorem cell_has {sc:Scope} {n:Nat} {x:Str} (h:sc.names.lookup x=some .cell):∃c,(cellsFrom n sc.names []).lookup x=some c:=by
 have q:=PySem.W.cellsFrom_some sc.names n [] (.inl h)
 exact Option.isSome_iff_exists.mp q
theorem inv_start {CX:CXT} {P:Program} {w:World} {K:PySem.W.Frag} {mg:Str->Option Value} {base:Heap} {N ps:List Str} {qual:Str} {scope:Scope} {f:Addr} {cd:Value} {A:Around} {outer:List Env} {s s1:Shared} {H:Hp} {E:XK} {us:List Value} {vs:List V}
  (S:FnScope N ps scope) (hd:A.handled=none) (e0:Env0 P w K mg base A outer s H) (hl:vs.length=ps.length) (r:Vals vs us)
  (x:InCallC s s.heap.objs.size (bindL (envOfC qual scope s.heap.objs.size f cd).kindOf (ps.zip us) fun _=>none) (cellsFrom (s.heap.objs.size+1) scope.names []) (bindC (envOfC qual scope s.heap.objs.size f cd).kindOf (ps.zip us) fun _=>none) s1) :
  Inv (cxOf CX P w K mg base N qual scope f cd A outer s H E) [] (start N vs) H s1:=by
 have hpl:ps.length<=N.length:=by have:=congrArg List.length S.pre;rw [List.length_take] at this;lia
 obtain ⟨h1,tk,rfl,hk⟩:=x.done
 have noA:∀b:Addr,b∉(cxOf CX P w K mg base N qual scope f cd A outer s H E).ex:=fun b z=>absurd (show b∈([]:List Addr) from z) (by simp)
 refine ⟨⟨e0.mod,S.kind,rfl,rfl,Nat.le_refl _,fun y z c h1 h2=>?_,fun y hy=>?_,fun y c _ h=>?_,fun _=>hd,Around.frames_deeper e0.frames,.inr ⟨rfl,rfl⟩,fun b z=>absurd z (noA b),e0.bs,e0.bsz,fun b _ _=>noA b,fun b z=>absurd z (noA b),e0.funs,e0.frf⟩,
  rfl,e0.bare,Un.kept hk,⟨_,x.toInCall.ns,fun i y v h1 h2 h3=>?_⟩,fun y c h=>⟨_,x.cell y c h⟩,e0.hok.fresh (Nat.le_refl _),fun y c h=>?_,fun p hp=>absurd (show p∈([]:List (Addr×Obj)) from hp) (by simp),e0.hok.kept hk,?_⟩
 ·exact name_of_addr x.apart (PySem.mem_of_lookup h1) (PySem.mem_of_lookup h2)
 ·have hy:scope.names.lookup y=some .cell\/scope.names.lookup y=some .free:=hy
  rcases hy with hy | hy
  ·exact cell_has hy
  ·exact absurd rfl (S.nofree _ (PySem.mem_of_lookup hy))
 ·exact Nat.le_of_lt (x.above y c (PySem.mem_of_lookup h))
 ·have hi:i < vs.length:=by
   unfold start at h2
   by_cases hi:i < vs.length
   ·exact hi
   ·rw [List.getElem?_append_right (by simpa using hi)] at h2
    rw [List.getElem?_replicate] at h2
    split at h2 <;> cases h2
  have ha:vs[i]? = some v:=by
   unfold start at h2
   rw [List.getElem?_append_left (by simpa using hi),List.getElem?_map] at h2
   cases e:vs[i]? with
   | none=>rw [e] at h2;cases h2
   | some a=>rw [e] at h2;cases h2;rfl
  obtain ⟨u,hu,rv⟩:=r.get ha
  have hp:ps[i]? = some y:=by
   rw [<-S.pre,List.getElem?_take_of_lt (by lia)];exact h1
  have ndP:ps.Nodup:=by rw [<-S.pre];exact S.nd.sublist (List.take_sublist _ _)
  refine ⟨u,rv,?_⟩
  rcases S.par y (List.mem_of_getElem? hp) with k | k
  ·exact .inl ⟨k,bindL_get ndP hp hu k⟩
  ·obtain ⟨c,e⟩:=cell_has (n:=s.heap.objs.size+1) k
   refine .inr ⟨.inl k,c,e,?_⟩
   have q:=x.cell y c e
   rw [bindC_get ndP hp hu (by show scope.names.lookup y≠_;rw [k];decide)] at q
   exact q
 ·exact e0.hok.fresh (Nat.le_of_lt (x.above y c (PySem.mem_of_lookup h)))
 ·unfold start
  show _=N.length
  rw [List.length_append,List.length_map,List.length_replicate]
  lia
theorem fn_of {CX:CXT} {P:Program} {w:World} {K:PySem.W.Frag} {mg:Str->Option Value} {base:Heap} {k:Nat} {f:Addr} {name qual:Str} {params:Arguments} {body:List Stmt} {scope:Scope} {dV kV doc pm cdv ct oc:Value} {an od:Option Addr}
  {osl:Array (Option Value)} {N ps:List Str} {sp:Sp} (lk:K.lookup f=some ⟨oc,od,.func (PySem.W.fnOf name qual params body scope dV kV doc pm an cdv ct),osl⟩) (hcd:PySem.W.codeIn K cdv qual=true) (S:FnScope N ps scope)
  (len:∀vs H Q E,sp vs H Q E->vs.length=ps.length)
  (hbody:∀(A:Around) (outer:List Env) (s:Shared) (H:Hp) (vs:List V) (Q:VK) (E:XK),Room k (A.deeper (envOfC qual scope s.heap.objs.size f cdv))->sp vs H Q E->
   ∃t,PSs (cxOf CX P w K mg base N qual scope f cdv A outer s H E) body t/\t { nx:=fun _ H'=>Q .non H',rt:=Q } (start N vs) H) :
  FnOk P w K mg base CX (k+1) f (PySem.W.fnOf name qual params body scope dV kV doc pm an cdv ct) ps sp:=by
 refine ⟨len,fun A outer s H args us vs Q E hr e0 hb r hsp=>?_⟩
 have hl:=len _ _ _ _ hsp
 have KX:K.In s.heap:=e0.mod.kin.keeps fun b o e=>(e0.bs b o e).1
 have lim:s.heap.NoLimit:=e0.mod.nolimit.keeps fun b o e=>(e0.bs b o e).1
 have hkind:∀y∈ps.zip us,scope.names.lookup y.1=some .local\/(scope.names.lookup y.1=some .cell/\((cellsFrom (s.heap.objs.size+1) scope.names []).lookup y.1).isSome=true):=fun ⟨n,v⟩ hy=>by
  rcases S.par n (List.of_mem_zip hy).1 with q | q
  ·exact .inl q
  ·exact .inr ⟨q,PySem.W.cellsFrom_some _ _ _ (.inl q)⟩
 refine codeAny_call_function hr.depth (KX _ _ lk) rfl S.co S.gen rfl (PySem.W.codeRec_of KX hcd) (hb _ _ _ _ ?_)
 refine wpAny_newFunctionEnv_cells S.kind hkind fun env he s1 x=>?_
 subst he
 refine ⟨lim.keeps x.toInCall.keep,codeAny_func ?_⟩
 obtain ⟨t,ht,hq⟩:=hbody A outer s H vs Q E (hr.deeper _) hsp
 have I:Inv (cxOf CX P w K mg base N qual scope f cdv A outer s H E) [] (start N vs) H s1:=inv_start S hr.hd e0 hl r x
 refine wpAny_mono (ht [] s1 (start N vs) H _ I hq) (fun fl s' hs=>?_) fun e s' hs=>hs
 have fin:∀{σ':St} {H':Hp} {v:V} {u:Value},Inv (cxOf CX P w K mg base N qual scope f cdv A outer s H E) [] σ' H' s'->RelV v u->Q v H'->CE outer P w H s Q u s':=
  fun {σ' H' v u} J rv q=>⟨v,H',J.os,J.bare,J.base,J.hok,rv,q⟩
 cases fl with
 | ret u=>
  obtain ⟨v,σ',H',J,rv,q⟩:=hs
  exact fin J rv q
 | next=>
  obtain ⟨σ',H',J,q⟩:=hs
  exact fin (v:=V.non) (u:=Value.none) J rfl q
 | brk=>
  obtain ⟨_,_,_,q⟩:=hs
  exact False.elim q
 | cont=>
  obtain ⟨_,_,_,q⟩:=hs
  exact False.elim q
end L2
namespace L2
open PySem PySem.Spec PyProof.Rows
section
variable {X:Cx} {x:Str} {p pos:Pos} {e:Expr} {es:List Expr} {t:TA} {id T:String} {r:List V->Hp->VK->Prop}
def tCB (r:List V->Hp->VK->Prop) (t:TA):TE:=fun σ H Q=>t σ H fun vs H1=>r vs H1 Q
theorem pe_callB (hc:CallR X (.builtin id) r) (hg:Gl X x) (hm:X.mg x=none) (hv:bootBuiltins x=some (.builtin id)) (ha:PA X (e::es) t) (hn:x≠"__name__":=by decide) (hdb:(x == ("__debug__" : Str))=false:=by decide)
  (he:starEach (e::es) X.env=(false,eval e X.env)::starEach es X.env:=by rfl) (hpl:(backTo pos (starEach es X.env)).any (·.1)=false:=by rfl):PE X (.Call (.Name x p) (e::es) [] pos) (tCB r t):=by
 intro pins s σ H Q I h
 refine wpAny_Call_Name_kw (ld_blt I hg hm hv ?_ hn hdb)
 exact PyProof.Rows.callWith_builtin1 (thn (ha pos pins s σ H _ I h) fun us s1 ⟨vs,H1,I1,r1,q1⟩=>hc pins s1 σ H1 vs us Q I1 r1 q1) he hpl
theorem pe_callTy (hc:CallR X (.type T) r) (hg:Gl X x) (hm:X.mg x=none) (hv:bootBuiltins x=some (.type T)) (ha:PA X (e::es) t) (hn:x≠"__name__":=by decide) (hdb:(x == ("__debug__" : Str))=false:=by decide)
  (he:starEach (e::es) X.env=(false,eval e X.env)::starEach es X.env:=by rfl) (hpl:(backTo pos (starEach es X.env)).any (·.1)=false:=by rfl):PE X (.Call (.Name x p) (e::es) [] pos) (tCB r t):=by
 intro pins s σ H Q I h
 refine wpAny_Call_Name_kw (ld_blt I hg hm hv ?_ hn hdb)
 exact PyProof.Rows.callWith_type1 (thn (ha pos pins s σ H _ I h) fun us s1 ⟨vs,H1,I1,r1,q1⟩=>hc pins s1 σ H1 vs us Q I1 r1 q1) he hpl
end
end L2
namespace HT
open PySem PyProof.Rows
section
open PySem.SeqAt
open PySem.AutoSeq1 (wpAny_loadPart')
open PySem.MeetsSeq PySem.MeetsSeq2 PySem.MeetsSeq3
end
section
variable {prog:Program} {w:World} {A:Around} {E:Value->Shared->Prop} {s:Shared}
theorem cat_tup {t b:Addr} {vs ws:List Value} {Q:Value->Shared->Prop} (ht:IsTup s.heap t vs.toArray) (hb:IsTup s.heap b ws.toArray) (hv:vs≠[])
  (h1:ws=[]->Q (.ref t) s) (h2:ws≠[]->Q (.ref s.heap.objs.size) { s with heap:=s.heap.push { cls:=.type "tuple",data:=.seq (vs++ws).toArray } })
  (hsz:vs.length+ws.length<=sizeLine):wpAny (model prog w) A (binaryOp .Add (.ref t) (.ref b)) Q E s:=by
 obtain ⟨⟨cls,dd,data,sl⟩,ho,hc,n,hd⟩:=id ht
 obtain ⟨⟨cls2,dd2,data2,sl2⟩,ho2,hc2,n2,hd2⟩:=id hb
 simp only at hc hd hc2 hd2
 subst hc hd hc2 hd2
 have e:vs.toArray++ws.toArray=(vs++ws).toArray:=by simp
 by_cases hw:ws=[]
 ·exact concat_meets ⟨_,ho,rfl⟩ ⟨_,ho2,rfl⟩ noFill_tuple_add seq_tuple_add PySem.F.slot_tuple_add PySem.F.entry_tuple_add (PySem.F.args_tuple_add_2 _ _)
   (tuple_addW1 t b vs.toArray ws.toArray n n2 dd dd2 sl sl2 (by simpa using hv) (by simp [hw])) ⟨ho,ho2,h1 hw⟩
 ·refine concat_meets ⟨_,ho,rfl⟩ ⟨_,ho2,rfl⟩ noFill_tuple_add seq_tuple_add PySem.F.slot_tuple_add PySem.F.entry_tuple_add (PySem.F.args_tuple_add_2 _ _)
   (tuple_addW2 t b vs.toArray ws.toArray n n2 dd dd2 sl sl2 (by simpa using hv) (by simpa using hw) (by rw [List.size_toArray,List.size_toArray];exact hsz)) ⟨ho,ho2,?_⟩
  rw [e]
  exact h2 hw
def sIx (n d:Nat):Option Int->Nat
 | none=>d
 | some v=>if v < 0 then (v+(n:Int)).toNat else min v.toNat n
theorem sIx_nat (n d k:Nat):sIx n d (some (k:Int))=min k n:=by
 show (if (k:Int) < 0 then ((k:Int)+(n:Int)).toNat else min (k:Int).toNat n)=min k n
 rw [if_neg (by lia),Int.toNat_natCast]
theorem sIx_le (n d:Nat) (hd:d<=n) (o:Option Int):sIx n d o<=n:=by
 cases o with
 | none=>exact hd
 | some v=>
  show (if v < 0 then (v+(n:Int)).toNat else min v.toNat n)<=n
  by_cases hv:v < 0
  ·rw [if_pos hv];lia
  ·rw [if_neg hv];exact Nat.min_le_right _ _
theorem clip_eq (v:Int) (n d:Nat):(if v < 0 then max (v+(n:Int)) 0 else min v (n:Int))=((sIx n d (some v):Nat):Int):=by
 show (if v < 0 then max (v+(n:Int)) 0 else min v (n:Int))=(((if v < 0 then (v+(n:Int)).toNat else min v.toNat n):Nat):Int)
 by_cases hv:v < 0
 ·simp only [if_pos hv];lia
 ·simp only [if_neg hv];lia
theorem adjust_gen (lo hi:Option Int) (n:Nat):Builtin.Slice.sliceAdjust lo hi 1 (n:Int)=(((sIx n 0 lo:Nat):Int),((sIx n n hi:Nat):Int)):=by
 have h1:¬((1:Int) < 0):=by lia
 unfold Builtin.Slice.sliceAdjust
 simp only [h1,if_false]
 refine Prod.ext ?_ ?_
 ·cases lo with
  | none=>rfl
  | some v=>exact clip_eq v n 0
 ·cases hi with
  | none=>rfl
  | some v=>exact clip_eq v n n
theorem places_gen (i j:Nat):Builtin.Slice.slicePlaces (i:Int) (j:Int) 1=j - i:=by
 unfold Builtin.Slice.slicePlaces
 have h1:(1:Int) > 0:=by lia
 simp only [h1,if_true,Int.ediv_one]
 split <;> lia
theorem slicePart_ {v:Value} {o:Option Int} {Q:Option Int->Shared->Prop} (p:IsPart v o) (h:Q o s):wpAny (model prog w) A (Builtin.Slice.slicePartIndex v) Q E s:=by
 cases p with
 | none=>exact slicePart_none h
 | int i t=>exact slicePart_int h
theorem sliceApplied_gen {sl:Addr} {vl vu:Value} {lo hi:Option Int} {n:Nat} {Q:Int×Int×Nat->Shared->Prop} (hs:s.heap.IsSliceOf sl vl vu .none) (pl:IsPart vl lo) (pu:IsPart vu hi)
  (h:Q (((sIx n 0 lo:Nat):Int),1,sIx n n hi - sIx n 0 lo) s):wpAny (model prog w) A (Builtin.Slice.sliceApplied (.ref sl) (pure (n:Int))) Q E s:=by
 obtain ⟨os,hos,hcs,hds⟩:=id hs
 unfold Builtin.Slice.sliceApplied Builtin.Slice.sliceFields
 refine wpAny_bind (wpAny_bind (wpAny_field hos hds (x:=vl) rfl (wpAny_bind (wpAny_field hos hds (x:=vu) rfl (wpAny_bind (wpAny_field hos hds (x:=.none) rfl (wpAny_pure ?_)))))))
 refine wpAny_bind (slicePart_none ?_)
 show wpAny _ _ (if ((1:Int) == 0)=true then _ else _) _ _ s
 rw [if_neg (by decide)]
 refine wpAny_bind (slicePart_ pl (wpAny_bind (slicePart_ pu (wpAny_bind (wpAny_pure ?_)))))
 show wpAny _ _ (match Builtin.Slice.sliceAdjust lo hi 1 (n:Int) with | (lo,hi)=>pure (lo,(1:Int),Builtin.Slice.slicePlaces lo hi 1)) _ _ s
 rw [adjust_gen lo hi n]
 show wpAny _ _ (pure (((sIx n 0 lo:Nat):Int),(1:Int),Builtin.Slice.slicePlaces ((sIx n 0 lo:Nat):Int) ((sIx n n hi:Nat):Int) 1)) _ _ s
 rw [places_gen]
 exact wpAny_pure h
theorem pick_gen (xs:Array Value) (i k:Nat):((List.range k).filterMap fun (m:Nat)=>xs[((i:Int)+(m:Int) * 1).toNat]?).toArray=((xs.toList.drop i).take k).toArray:=by
 have e:(fun (m:Nat)=>xs[((i:Int)+(m:Int) * 1).toNat]?)=fun m=>xs[i+m]?:=by
  funext m
  have:((i:Int)+(m:Int) * 1).toNat=i+m:=by lia
  rw [this]
 rw [e]
 have:=pick_run xs i k
 rw [List.filterMap_map] at this
 have e2:((fun x=>xs[x]?) ∘ fun x=>i+x)=fun m=>xs[i+m]?:=rfl
 rw [e2] at this
 rw [this]
theorem getItem_tuple_cut {t sl:Addr} {items:Array Value} {vl vu:Value} {lo hi:Option Int} {Q:Value->Shared->Prop} (ht:IsTup s.heap t items) (hs:s.heap.IsSliceOf sl vl vu .none) (pl:IsPart vl lo) (pu:IsPart vu hi)
  (hw:¬(sIx items.size 0 lo=0/\sIx items.size items.size hi=items.size))
  (h:Q (.ref s.heap.objs.size) { s with heap:=s.heap.push { cls:=.type "tuple",data:=.seq ((items.toList.drop (sIx items.size 0 lo)).take (sIx items.size items.size hi - sIx items.size 0 lo)).toArray } })
  (hsz:items.size<=sizeLine):wpAny (model prog w) A (getItem (.ref t) (.ref sl)) Q E s:=by
 have htake:sizeOk (.seq ((items.toList.drop (sIx items.size 0 lo)).take (sIx items.size items.size hi - sIx items.size 0 lo)).toArray):=by
  show ((items.toList.drop (sIx items.size 0 lo)).take (sIx items.size items.size hi - sIx items.size 0 lo)).toArray.size<=sizeLine
  rw [List.size_toArray,List.length_take,List.length_drop,Array.length_toList]
  lia
 have hj:sIx items.size items.size hi<=items.size:=sIx_le _ _ (Nat.le_refl _) hi
 obtain ⟨os,hos,hcs,hds⟩:=id hs
 have hTs:s.TypeIs (.ref sl) "slice":=⟨os,hos,hcs⟩
 unfold getItem
 try with_reducible refine wpAny_holding ?_
 first | refine wpAny_bind (wpAny_pure ?_) | skip
 refine wpAny_bind (wpAny_sequenceKey ht.typeIs (by decide) ?_)
 refine wpAny_bind (wpAny_callSpecial?_slot (name:=Str.ofString "__getitem__") ht.typeIs PyProof.Rows.slot_tuple_getitem
  (wpAny_call_entry PyProof.Rows.slot_tuple_getitem ht.typeIs entry_tuple_getitem ?_ (args_tuple_getitem _ _)))
 show wpAny _ _ (Builtin.Tuple.tupleItemsOf (.ref t) >>= _) _ _ s
 refine wpAny_bind (tupleItemsOf_ ht ?_)
 refine wpAny_bind (wpAny_typeOf hTs ?_)
 rw [if_pos (by decide)]
 refine wpAny_bind (sliceApplied_gen hs pl pu ?_)
 have hno:¬((((sIx items.size 0 lo:Nat):Int) == 0 && (1:Int) == 1 && (sIx items.size items.size hi - sIx items.size 0 lo) == items.size)=true):=by
  intro q
  rw [Bool.and_eq_true,Bool.and_eq_true] at q
  have q1:((sIx items.size 0 lo:Nat):Int)=0:=eq_of_beq q.1.1
  have q2:sIx items.size items.size hi - sIx items.size 0 lo=items.size:=eq_of_beq q.2
  exact hw ⟨by lia,by lia⟩
 show wpAny _ _ (if (((sIx items.size 0 lo:Nat):Int) == 0 && (1:Int) == 1 && (sIx items.size items.size hi - sIx items.size 0 lo) == items.size)=true then _ else _) _ _ s
 rw [if_neg hno,pick_gen]
 first
  | exact wpAny_bind (m:=Builtin.Tuple.tupleExact _) (wpAny_newObj_type (wpAny_pure ⟨_,rfl,wpAny_pure h⟩) htake)
  | exact wpAny_bind (m:=Builtin.Tuple.tupleExact _) (wpAny_newObj_type (wpAny_bind (wpAny_pure (wpAny_pure ⟨_,rfl,wpAny_pure h⟩))) htake)
  | exact wpAny_bind (wpAny_bind (m:=Builtin.Tuple.tupleExact _) (wpAny_newObj_type (wpAny_pure (wpAny_pure ⟨_,rfl,wpAny_pure h⟩)) htake))
  | exact wpAny_bind (wpAny_bind (m:=Builtin.Tuple.tupleExact _) (wpAny_newObj_type (wpAny_pure ⟨_,rfl,wpAny_pure h⟩) htake))
end
end HT
namespace L2
open PySem PySem.Spec PyProof.Rows
abbrev TO:=St->Hp->(Option Int->Hp->Prop)->Prop
def PO (X:Cx) (e:Option Expr) (t:TO):Prop:=
 ∀(pins:List (Addr×Obj)) (s:Shared) (σ:St) (H:Hp) (Q:Option Int->Hp->Prop),Inv X pins σ H s->t σ H Q->
  wpAny (model X.prog X.w) X.A (evalPart e X.env) (fun u s'=>∃o H',Inv X pins σ H' s'/\IsPart u o/\Q o H') X.xe s
def tNoPart:TO:=fun _ H Q=>Q none H
def tPart (t:TE):TO:=fun σ H Q=>t σ H fun x H1=>∃i,x=.int i/\Q (some i) H1
section
variable {X:Cx} {e:Expr} {te:TE} {lo hi:Option Expr} {tl th:TO} {pos p2:Pos}
theorem po_none:PO X none tNoPart:=by
 intro pins s σ H Q I h
 rw [evalPart_none]
 exact wpAny_pure ⟨none,H,I,.none,h⟩
theorem po_some (h:PE X e te):PO X (some e) (tPart te):=by
 intro pins s σ H Q I hw
 rw [evalPart_some]
 refine thn (h pins s σ H _ I hw) fun u s1 ⟨x,H1,I1,r1,q1⟩=>?_
 obtain ⟨i,rfl,q⟩:=q1
 obtain ⟨t,rfl⟩:=r1
 exact ⟨some i,H1,I1,.int i t,q⟩
def SlR (X:Cx) (r:V->Option Int->Option Int->Hp->VK->Prop):Prop:=
 ∀(pins:List (Addr×Obj)) (s:Shared) (σ:St) (H:Hp) (x:V) (v vl vu:Value) (lo hi:Option Int) (sl:Addr) (Q:VK),Inv X pins σ H s->RelV x v->s.heap.IsSliceOf sl vl vu .none->IsPart vl lo->IsPart vu hi->r x lo hi H Q->
  ∃T id,typeLookup (.type T) "__getitem__" = pure (some (.builtin id))/\s.TypeIs v T/\wpAny (model X.prog X.w) X.A (getItem v (.ref sl)) (EP X pins σ Q) X.xe s
def tSl (r:V->Option Int->Option Int->Hp->VK->Prop) (te:TE) (tl th:TO):TE:=fun σ H Q=>te σ H fun x H1=>tl σ H1 fun l H2=>th σ H2 fun u H3=>r x l u H3 Q
theorem pe_slice {r:V->Option Int->Option Int->Hp->VK->Prop} (hr:SlR X r) (he:PE X e te) (hl:PO X lo tl) (hu:PO X hi th):PE X (.Subscript e (.Slice lo hi none p2) pos) (tSl r te tl th):=by
 intro pins s σ H Q I h
 refine Subscript_ (thn (he pins s σ H _ I h) fun v s1 ⟨x,H1,I1,r1,q1⟩=>?_)
 refine wpAny_Slice (thn (hl pins s1 σ H1 _ I1 q1) fun vl s2 ⟨l,H2,I2,pl,q2⟩=>thn (hu pins s2 σ H2 _ I2 q2) fun vu s3 ⟨u,H3,I3,pu,q3⟩=>?_)
 rw [evalPart_none]
 refine wpAny_pure ?_
 have I4:Inv X pins σ H3 { s3 with heap:=s3.heap.push { cls:=.type "slice",data:=.fields #[vl,vu,.none] } }:=I3.kept (t':=s3.toks) fun b ob q=>Heap.get?_push_of_some _ q
 obtain ⟨T,id,hT,ht,hg⟩:=hr pins { s3 with heap:=s3.heap.push { cls:=.type "slice",data:=.fields #[vl,vu,.none] } } σ H3 x v vl vu l u s3.heap.objs.size Q I4 r1 (Heap.IsSliceOf.new ..) pl pu q3
 show wpAny (model X.prog X.w) X.A (subscriptTail e (.Slice lo hi none p2) v (.ref s3.heap.objs.size)) (EP X pins σ Q) X.xe { s3 with heap:=s3.heap.push { cls:=.type "slice",data:=.fields #[vl,vu,.none] } }
 exact tail_any (ops:=[.ref s3.heap.objs.size,v]) ht hT hg (by with_unfolding_all rfl)
def cutV (xs:List V) (lo hi:Option Int):List V:=(xs.drop (HT.sIx xs.length 0 lo)).take (HT.sIx xs.length xs.length hi - HT.sIx xs.length 0 lo)
theorem cutV_length (xs:List V) (lo hi:Option Int):(cutV xs lo hi).length<=xs.length:=by
 unfold cutV
 rw [List.length_take,List.length_drop]
 lia
def rSlT (K:PySem.W.Frag):V->Option Int->Option Int->Hp->VK->Prop:=fun x lo hi H Q=>∃a xs,x=.ref a/\SqT K H a xs/\
 ¬(HT.sIx xs.length 0 lo=0/\HT.sIx xs.length xs.length hi=xs.length)/\∀p,H p=none->Q (.ref p) (upd H p (.tup (cutV xs lo hi)))
theorem sl_tup:SlR X (rSlT X.K):=by
 intro pins s σ H x v vl vu lo hi sl Q I rx hs pl pu h
 obtain ⟨a,xs,rfl,hx,hw,q⟩:=h
 cases rx
 obtain ⟨its,r,ht,hz⟩:=I.tuple hx
 have hlen:its.toArray.size=xs.length:=by rw [List.size_toArray];exact r.length.symm
 refine ⟨"tuple",_,PyProof.Rows.slot_tuple_getitem.lookup,ht.typeIs,?_⟩
 refine HT.getItem_tuple_cut ht hs pl pu (by rw [hlen];exact hw) ?_ (by rw [hlen];exact hz)
 rw [hlen]
 refine ⟨.ref s.heap.objs.size,_,I.laid (t':=s.toks) (o:=.tup (cutV xs lo hi)) (fun b ob q=>Heap.get?_push_of_some _ q) (Nat.le_refl _) ?_,rfl,q _ (I.hok.fresh (Nat.le_refl _))⟩
 exact ⟨Nat.le_trans (cutV_length xs lo hi) hz,_,(r.drop (HT.sIx xs.length 0 lo)).take (HT.sIx xs.length xs.length hi - HT.sIx xs.length 0 lo),IsTup.new _ _⟩
def rCatT (K:PySem.W.Frag):R2:=fun x y H Q=>∃a b xs ys,x=.ref a/\y=.ref b/\SqT K H a xs/\SqT K H b ys/\xs≠[]/\xs.length+ys.length<=sizeLine/\
 (ys=[]->Q (.ref a) H)/\(ys≠[]->∀p,H p=none->Q (.ref p) (upd H p (.tup (xs++ys))))
theorem Vals.nil_iff {xs:List V} {us:List Value} (r:Vals xs us):us=[]↔xs=[]:=by
 cases r with
 | nil=>simp
 | cons _ _=>simp
theorem op_catT:OpR X (binaryOp .Add) (rCatT X.K):=by
 intro pins s σ H x y v u Q I rx ry h
 obtain ⟨a,b,xs,ys,rfl,rfl,ha,hb,hx,hz,q1,q2⟩:=h
 cases rx
 cases ry
 obtain ⟨its,r1,p1,_⟩:=I.tuple ha
 obtain ⟨its2,r2,p2,_⟩:=I.tuple hb
 refine HT.cat_tup p1 p2 (fun z=>hx (r1.nil_iff.mp z)) (fun z=>⟨.ref a,H,I,rfl,q1 (r2.nil_iff.mp z)⟩) (fun z=>?_) (by rw [<-r1.length,<-r2.length];exact hz)
 refine ⟨.ref s.heap.objs.size,_,I.laid (t':=s.toks) (o:=.tup (xs++ys)) (fun b ob q=>Heap.get?_push_of_some _ q) (Nat.le_refl _) ?_,rfl,q2 (fun w=>z (r2.nil_iff.mpr w)) _ (I.hok.fresh (Nat.le_refl _))⟩
 exact ⟨by rw [List.length_append];exact hz,_,r1.append r2,IsTup.new _ _⟩
end
end L2
namespace L2
open PySem PySem.Spec PyProof.Rows
def ixN (n:Nat) (i:Int):Option Nat:=if 0<=i then (if i < n then some i.toNat else none) else if -(n:Int)<=i then some (i+n).toNat else none
def atI {α:Type} (xs:List α) (i:Int):Option α:=(ixN xs.length i).bind fun j=>xs[j]?
theorem ixN_seq {n:Nat} {i:Int} {j:Nat} (h:ixN n i=some j):seqIndex? i n=some j/\j < n/\-(n:Int)<=i/\i < n:=by
 unfold ixN at h
 by_cases h0:0<=i
 ·rw [if_pos h0] at h
  by_cases h1:i < n
  ·rw [if_pos h1] at h
   have e:i.toNat=j:=Option.some.inj h
   exact ⟨by rw [seqIndex_of h0 h1,e],by lia,by lia,h1⟩
  ·rw [if_neg h1] at h;cases h
 ·rw [if_neg h0] at h
  by_cases h1 : -(n:Int)<=i
  ·rw [if_pos h1] at h
   have e:(i+n).toNat=j:=Option.some.inj h
   exact ⟨by rw [seqIndex_neg (by lia) h1,e],by lia,h1,by lia⟩
  ·rw [if_neg h1] at h;cases h
theorem atI_get {α:Type} {xs:List α} {i:Int} {v:α} (h:atI xs i=some v):∃j,seqIndex? i xs.length=some j/\xs[j]? = some v/\j < xs.length/\-(xs.length:Int)<=i/\i < xs.length:=by
 unfold atI at h
 cases e:ixN xs.length i with
 | none=>rw [e] at h;cases h
 | some j=>
  rw [e] at h
  obtain ⟨h1,h2,h3,h4⟩:=ixN_seq e
  exact ⟨j,h1,h,h2,h3,h4⟩
theorem atI_nat {α:Type} {xs:List α} {j:Nat} {v:α} (h:xs[j]? = some v):atI xs (j:Int)=some v:=by
 have hj:j < xs.length:=(List.getElem?_eq_some_iff.mp h).1
 have e:ixN xs.length (j:Int)=some j:=by
  unfold ixN
  rw [if_pos (by lia),if_pos (by lia)];simp
 unfold atI;rw [e];exact h
def PlainIx (b:Expr):Prop:=∀o i,subscripted b false o i=operate [o,i] (getItem o i)
def IxR (X:Cx) (r:R2):Prop:=
 ∀(value slice:Expr) (pins:List (Addr×Obj)) (s:Shared) (σ:St) (H:Hp) (x y:V) (v u:Value) (Q:VK),Inv X pins σ H s->RelV x v->RelV y u->r x y H Q->
  subscripted slice false v u=operate [v,u] (getItem v u)->wpAny (model X.prog X.w) X.A (subscriptTail value slice v u) (EP X pins σ Q) X.xe s
def MtR (X:Cx) (id:String) (r:V->List V->Hp->VK->Prop):Prop:=
 ∀(pins:List (Addr×Obj)) (s:Shared) (σ:St) (H:Hp) (x:V) (xs:List V) (v:Value) (us:List Value) (Q:VK),Inv X pins σ H s->RelV x v->Vals xs us->r x xs H Q->
  wpAny (model X.prog X.w) X.A (call (.builtin id) (v::us)) (EP X pins σ Q) X.xe s
section
variable {X:Cx} {a b:Expr} {ta tb:TE} {pos:Pos}
theorem pe_ix {r:R2} (hr:IxR X r) (ha:PE X a ta) (hb:PE X b tb) (hs:PlainIx b):PE X (.Subscript a b pos) (tOp r ta tb):=by
 intro pins s σ H Q I h
 exact Subscript_ (binT ha hb I h fun v u s2 x y H2 I2 rx ry q=>hr a b pins s2 σ H2 x y v u Q I2 rx ry q (hs _ _))
def rIxL (K:PySem.W.Frag):R2:=fun x y H Q=>∃p xs i v,x=.ref p/\y=.int i/\SqL K H p xs/\atI xs i=some v/\Q v H
def rIxT (K:PySem.W.Frag):R2:=fun x y H Q=>∃p xs i v,x=.ref p/\y=.int i/\SqT K H p xs/\atI xs i=some v/\Q v H
def rIxS:R2:=fun x y H Q=>∃z i c,x=.str z/\y=.int i/\z.length<=sizeLine/\atI z.cps.toList i=some c/\Q (.str ⟨#[c]⟩) H
theorem ix_list:IxR X (rIxL X.K):=by
 intro value slice pins s σ H x y v u Q I rx ry h hs
 obtain ⟨p,xs,i,z,rfl,rfl,hq,he,q⟩:=h
 cases rx
 obtain ⟨t,rfl⟩:=ry
 obtain ⟨its,r,pl,hz⟩:=I.list hq
 obtain ⟨j,h1,h2,h3,h4,h5⟩:=atI_get he
 obtain ⟨w,ew,rw'⟩:=r.get h2
 have hl:=r.length
 have hn:=line63
 have fin:EP X pins σ Q w s:=⟨z,H,I,rw',q⟩
 by_cases h0:0<=i
 ·have hj:i.toNat=j:=by
   rw [seqIndex_of h0 h5] at h1
   exact Option.some.inj h1
  exact item_listR pl.isList h0 (by lia) (by rw [hj];simpa using ew) fin hs
 ·have hj:(i+(its.toArray.size:Int)).toNat=j:=by
   rw [seqIndex_neg (by lia) h4] at h1
   rw [List.size_toArray,<-hl]
   exact Option.some.inj h1
  exact subscriptTail_builtinR (x:=w) pl.isList.typeIs slot_list_getitem.lookup
   (wpAny_getItem_list_neg (Q:=fun r s'=>r=w/\EP X pins σ Q r s') pl.isList (by lia) (by rw [List.size_toArray] <;> lia) (by lia) (by rw [hj];simpa using ew) ⟨rfl,fin⟩) hs
theorem ix_tup:IxR X (rIxT X.K):=by
 intro value slice pins s σ H x y v u Q I rx ry h hs
 obtain ⟨p,xs,i,z,rfl,rfl,hq,he,q⟩:=h
 cases rx
 obtain ⟨t,rfl⟩:=ry
 obtain ⟨its,r,pl,hz⟩:=I.tuple hq
 obtain ⟨j,h1,h2,h3,h4,h5⟩:=atI_get he
 obtain ⟨w,ew,rw'⟩:=r.get h2
 have hl:=r.length
 have hn:=line63
 have fin:EP X pins σ Q w s:=⟨z,H,I,rw',q⟩
 exact subscriptTail_builtinR (x:=w) pl.typeIs slot_tuple_getitem.lookup
  (getItem_tuple (j:=j) (Q:=fun r s'=>r=w/\EP X pins σ Q r s') pl (by lia) (by lia) (by rw [List.size_toArray,<-hl];exact h1) (by simpa using ew) ⟨rfl,fin⟩) hs
theorem ix_str:IxR X rIxS:=by
 intro value slice pins s σ H x y v u Q I rx ry h hs
 obtain ⟨z,i,c,rfl,rfl,hz,he,q⟩:=h
 obtain ⟨t,rfl⟩:=rx
 obtain ⟨t',rfl⟩:=ry
 obtain ⟨j,h1,h2,h3,h4,h5⟩:=atI_get he
 have hl:z.cps.toList.length=z.length:=by simp [Str.length]
 rw [hl] at h1 h4 h5
 have hn:=line63
 exact tail_any (typeIs_str s z t) slot_str_getitem.lookup (getItem_str (c:=c) (by
  have e1:decide (i < -(2 ^ 63:Int))=false:=decide_eq_false (by lia)
  have e2:decide (i>=2 ^ 63)=false:=decide_eq_false (by lia)
  rw [e1,e2,Bool.or_false]) (by rw [h1];simpa using h2) ⟨.str ⟨#[c]⟩,H,I.tok _,⟨_,rfl⟩,q⟩) hs
theorem mapSeq_set (its:List Value) (n j:Nat) (u:Value):Obj.mapSeq (·.setIfInBounds j u) { cls:=.type "list",data:=.seq its.toArray n }={ cls:=.type "list",data:=.seq (its.set j u).toArray n }:=by
 simp [Obj.mapSeq]
theorem Inv.lst {pins:List (Addr×Obj)} {σ:St} {H:Hp} {s:Shared} {p:Addr} {xs:List V} (I:Inv X pins σ H s) (h:H p=some (.lst xs)) :
  ∃(its:List Value) (n:Nat),Vals xs its/\s.heap.get? p=some { cls:=.type "list",data:=.seq its.toArray n }/\xs.length<=sizeLine:=by
 obtain ⟨z,its,n,r,e⟩:=I.hok p _ h
 exact ⟨its,n,r,e,z⟩
theorem Inv.lstUpd {pins:List (Addr×Obj)} {σ:St} {H:Hp} {s:Shared} {p:Addr} {xs ys:List V} {its its':List Value} {n n':Nat} {f:Obj->Obj} (I:Inv X pins σ H s) (h:H p=some (.lst xs))
  (ho:s.heap.get? p=some { cls:=.type "list",data:=.seq its.toArray n }) (hf:f { cls:=.type "list",data:=.seq its.toArray n }={ cls:=.type "list",data:=.seq its'.toArray n' }) (r:Vals ys its') (hz:ys.length<=sizeLine) (t:Nat) :
  Inv X pins σ (upd H p (.lst ys)) { s with heap:=s.heap.update p f,toks:=t }:=by
 have e:(s.heap.update p f).get? p=some { cls:=.type "list",data:=.seq its'.toArray n' }:=by
  rw [Heap.get?_update_self f ho (by rw [hf] <;> rfl),hf]
 refine I.write (x:=p) (e:=p) (by rw [h];trivial) (.inl rfl) (fun b u hb q=>(Heap.get?_update_other _ _ (Ne.symm hb)).trans q) ⟨_,e⟩ ?_
 exact ⟨hz,its',n',r,e⟩
def rSetL:V->V->V->Hp->(Hp->Prop)->Prop:=fun o i v H Q=>∃p xs k j,o=.ref p/\i=.int k/\H p=some (.lst xs)/\ixN xs.length k=some j/\Q (upd H p (.lst (xs.set j v)))
theorem set_list:PSet X rSetL:=by
 intro pins s σ H o i v ov iv u Q I ro ri rv h
 obtain ⟨p,xs,k,j,rfl,rfl,hp,hj,q⟩:=h
 cases ro
 obtain ⟨t,rfl⟩:=ri
 obtain ⟨its,n,r,ho,hz⟩:=I.lst hp
 obtain ⟨h1,h2,h3,h4⟩:=ixN_seq hj
 have hl:=r.length
 have hn:=line63
 have I':Inv X pins σ (upd H p (.lst (xs.set j v))) { s with heap:=s.heap.update p (Obj.mapSeq (·.setIfInBounds j u)) }:=
  I.lstUpd hp ho (mapSeq_set its n j u) (r.set rv j) (by rw [List.length_set];exact hz) s.toks
 by_cases h0:0<=k
 ·have hk:k.toNat=j:=by
   rw [seqIndex_of h0 h4] at h1
   exact Option.some.inj h1
  exact PySem.W.ki_setAt ho h0 (by lia) (by rw [List.size_toArray,<-hl];exact h4) (by rw [hk];exact ⟨_,I',q⟩)
 ·have hk:(k+(its.toArray.size:Int)).toNat=j:=by
   rw [seqIndex_neg (by lia) h3] at h1
   rw [List.size_toArray,<-hl]
   exact Option.some.inj h1
  exact PySem.W.ki_setBack ho (by lia) (by rw [List.size_toArray,<-hl];exact h3) (by lia) (by rw [hk];exact ⟨_,I',q⟩)
theorem slice_bounds (lo hi:Option Int) (n:Nat):(sliceBounds lo hi none n).1=((HT.sIx n 0 lo:Nat):Int)/\(sliceBounds lo hi none n).2.1=((HT.sIx n n hi:Nat):Int)/\(sliceBounds lo hi none n).2.2=1:=by
 refine ⟨?_,?_,rfl⟩
 ·cases lo with
  | none=>simp [sliceBounds,HT.sIx]
  | some i=>
   simp only [sliceBounds,HT.sIx,Option.getD_none,show (1:Int) > 0 by decide,if_true]
   by_cases h:i < 0
   ·simp only [h,if_true] <;> lia
   ·simp only [h,if_false] <;> lia
 ·cases hi with
  | none=>simp [sliceBounds,HT.sIx]
  | some i=>
   simp only [sliceBounds,HT.sIx,Option.getD_none,show (1:Int) > 0 by decide,if_true]
   by_cases h:i < 0
   ·simp only [h,if_true] <;> lia
   ·simp only [h,if_false] <;> lia
theorem slicePick_cut (its:List Value) (lo hi:Option Int):slicePick its.toArray lo hi none=((its.drop (HT.sIx its.length 0 lo)).take (HT.sIx its.length its.length hi - HT.sIx its.length 0 lo)).toArray:=by
 obtain ⟨h1,h2,h3⟩:=slice_bounds lo hi its.toArray.size
 unfold slicePick
 rw [h1,h2,h3]
 simp only [sliceRange_one,pick_run,List.size_toArray] <;> rfl
def rSlL (K:PySem.W.Frag):V->Option Int->Option Int->Hp->VK->Prop:=fun x lo hi H Q=>∃a xs,x=.ref a/\SqL K H a xs/\∀p,H p=none->Q (.ref p) (upd H p (.lst (cutV xs lo hi)))
theorem sl_list:SlR X (rSlL X.K):=by
 intro pins s σ H x v vl vu lo hi sl Q I rx hs pl pu h
 obtain ⟨a,xs,rfl,hx,q⟩:=h
 cases rx
 obtain ⟨its,r,ht,hz⟩:=I.list hx
 have hlen:=r.length
 refine ⟨"list",_,slot_list_getitem.lookup,ht.isList.typeIs,?_⟩
 refine wpAny_getItem_list_slice ht.isList hs pl pu .none (by simp) ?_ (by rw [List.size_toArray] <;> lia)
 rw [slicePick_cut,<-hlen]
 refine ⟨.ref s.heap.objs.size,_,I.laid (t':=s.toks) (o:=.lst (cutV xs lo hi)) (fun b ob q=>Heap.get?_push_of_some _ q) (Nat.le_refl _) ?_,rfl,q _ (I.hok.fresh (Nat.le_refl _))⟩
 exact ⟨Nat.le_trans (cutV_length xs lo hi) hz,_,0,(r.drop (HT.sIx xs.length 0 lo)).take (HT.sIx xs.length xs.length hi - HT.sIx xs.length 0 lo),Heap.get?_push_size _ rfl⟩
def flatV:V->Bool
 | .non=>true
 | .bl _=>true
 | .int _=>true
 | .str _=>true
 | _=>false
def eqV:V->V->Bool
 | .non,.non=>true
 | .bl a,.bl b=>a == b
 | .bl a,.int b=>(if a then 1 else 0) == b
 | .int a,.bl b=>a == (if b then 1 else 0)
 | .int a,.int b=>a == b
 | .str a,.str b=>a == b
 | _,_=>false
theorem eqAt_V {A:Around} {s:Shared} {y x:V} {u v:Value} (ry:RelV y u) (rx:RelV x v) (fy:flatV y=true) (fx:flatV x=true):SeqAt.EqAt A s u v (eqV y x):=by
 cases y with
 | non=>
  cases ry
  cases x with
  | non=>cases rx;exact SeqAt.EqAt.same _
  | bl b=>cases rx;exact SeqAt.EqAt.none_bool b
  | int b=>obtain ⟨t,rfl⟩:=rx;exact SeqAt.EqAt.none_int b t
  | str b=>obtain ⟨t,rfl⟩:=rx;exact SeqAt.EqAt.none_str b t
  | _=>exact absurd (show false=true from fx) Bool.false_ne_true
 | bl a=>
  cases ry
  cases x with
  | non=>cases rx;exact SeqAt.EqAt.bool_none a
  | bl b=>cases rx;exact SeqAt.EqAt.bool_bool a b
  | int b=>obtain ⟨t,rfl⟩:=rx;exact SeqAt.EqAt.bool_int a b t
  | str b=>obtain ⟨t,rfl⟩:=rx;exact SeqAt.EqAt.bool_str a b t
  | _=>exact absurd (show false=true from fx) Bool.false_ne_true
 | int a=>
  obtain ⟨t',rfl⟩:=ry
  cases x with
  | non=>cases rx;exact SeqAt.EqAt.int_none a t'
  | bl b=>cases rx;exact SeqAt.EqAt.int_bool a t' b
  | int b=>obtain ⟨t,rfl⟩:=rx;exact SeqAt.EqAt.int_int a t' b t
  | str b=>obtain ⟨t,rfl⟩:=rx;exact SeqAt.EqAt.int_str a t' b t
  | _=>exact absurd (show false=true from fx) Bool.false_ne_true
 | str a=>
  obtain ⟨t',rfl⟩:=ry
  cases x with
  | non=>cases rx;exact SeqAt.EqAt.str_none a t'
  | bl b=>cases rx;exact SeqAt.EqAt.str_bool a t' b
  | int b=>obtain ⟨t,rfl⟩:=rx;exact SeqAt.EqAt.str_int a t' b t
  | str b=>obtain ⟨t,rfl⟩:=rx;exact SeqAt.EqAt.str_str a t' b t
  | _=>exact absurd (show false=true from fx) Bool.false_ne_true
 | _=>exact absurd (show false=true from fy) Bool.false_ne_true
def eqU (x:V) (u:Value):Bool:=match u with
 | .none=>eqV .non x
 | .bool b=>eqV (.bl b) x
 | .int i _=>eqV (.int i) x
 | .str z _=>eqV (.str z) x
 | _=>false
theorem eqU_of {x y:V} {u:Value} (r:RelV y u) (f:flatV y=true):eqU x u=eqV y x:=by
 cases y with
 | non=>cases r;rfl
 | bl b=>cases r;rfl
 | int i=>obtain ⟨t,rfl⟩:=r;rfl
 | str z=>obtain ⟨t,rfl⟩:=r;rfl
 | _=>exact absurd (show false=true from f) Bool.false_ne_true
theorem any_eqU {x:V}:∀{xs:List V} {us:List Value},Vals xs us->xs.all flatV=true->us.any (eqU x)=xs.any fun y=>eqV y x
 | _,_,.nil,_=>rfl
 | y::xs,u::us,.cons r t,f=>by
  rw [List.all_cons,Bool.and_eq_true] at f
  rw [List.any_cons,List.any_cons,eqU_of r f.1,any_eqU t f.2]
theorem mem_eqAt {A:Around} {s:Shared} {x:V} {v:Value} (rx:RelV x v) (fx:flatV x=true):∀{xs:List V} {us:List Value},Vals xs us->xs.all flatV=true->∀u∈us,SeqAt.EqAt A s u v (eqU x u)
 | _,_,.nil,_=>fun u hu=>by cases hu
 | y::xs,u::us,.cons r t,f=>fun u' hu=>by
  rw [List.all_cons,Bool.and_eq_true] at f
  rcases List.mem_cons.mp hu with rfl | hu
  ·rw [eqU_of r f.1];exact eqAt_V r rx f.1 fx
  ·exact mem_eqAt rx fx t f.2 u' hu
def inV (x:V) (xs:List V):Bool:=xs.any fun y=>eqV y x
def rIn (K:PySem.W.Frag) (neg:Bool):R2:=fun x y H Q=>∃p xs,y=.ref p/\(SqL K H p xs\/SqT K H p xs)/\flatV x=true/\xs.all flatV=true/\Q (.bl (if neg then !inV x xs else inV x xs)) H
theorem op_notIn_seq:OpR X (compareOp .NotIn) (rIn X.K true):=by
 intro pins s σ H x y v u Q I rx ry h
 obtain ⟨p,xs,rfl,hq,fx,fs,q⟩:=h
 cases ry
 rcases hq with hq | hq
 ·obtain ⟨its,r,pl,hz⟩:=I.list hq
  refine SeqAt.notIn_listAt (eqU x) pl.isList (fun w hw=>mem_eqAt rx fx r fs w (by simpa using hw)) ⟨.bl _,H,I,rfl,?_⟩
  rw [show its.toArray.any (eqU x)=its.any (eqU x) by simp,any_eqU r fs]
  exact q
 ·obtain ⟨its,r,pl,hz⟩:=I.tuple hq
  refine SeqAt.notIn_tupleAt (eqU x) pl (fun w hw=>mem_eqAt rx fx r fs w (by simpa using hw)) ⟨.bl _,H,I,rfl,?_⟩
  rw [show its.toArray.any (eqU x)=its.any (eqU x) by simp,any_eqU r fs]
  exact q
theorem call_len_seq:CallR X (.builtin "len") (fun xs H Q=>∃p ys,xs=[.ref p]/\(SqL X.K H p ys\/SqT X.K H p ys)/\Q (.int ys.length) H):=by
 intro pins s σ H xs us Q I r h
 obtain ⟨p,ys,rfl,hq,q⟩:=h
 obtain ⟨u,rfl,rx⟩:=vals1 r
 cases rx
 have hn:=line63
 rcases hq with hq | hq
 ·obtain ⟨its,r',pl,hz⟩:=I.list hq
  have hlen:=r'.length
  exact Calls.call_len_list pl.isList (by simp only [List.size_toArray] <;> lia) ⟨.int ys.length,H,I.tok _,⟨s.toks+1,by rw [List.size_toArray,hlen]⟩,q⟩
 ·obtain ⟨its,r',pl,hz⟩:=I.tuple hq
  have hlen:=r'.length
  exact len_tuple pl (by simp only [List.size_toArray] <;> lia) ⟨.int ys.length,H,I.tok _,⟨s.toks+1,by rw [List.size_toArray,hlen]⟩,q⟩
theorem call_list_of:CallR X (.type "list") (fun xs H Q=>∃p ys,xs=[.ref p]/\(SqL X.K H p ys\/SqT X.K H p ys)/\∀l,H l=none->Q (.ref l) (upd H l (.lst ys))):=by
 intro pins s σ H xs us Q I r h
 obtain ⟨p,ys,rfl,hq,q⟩:=h
 obtain ⟨u,rfl,rx⟩:=vals1 r
 cases rx
 have fin:∀(its:List Value),Vals ys its->ys.length<=sizeLine->∀(h':Heap) (c':Nat),(∀b o',s.heap.get? b=some o'->h'.get? b=some o')->
   h'.get? s.heap.objs.size=some { cls:=.type "list",dict:=none,data:=.seq its.toArray c',slots:=#[] }->EP X pins σ Q (.ref s.heap.objs.size) { s with heap:=h' }:=fun its r' hz h' c' kp e=>
  ⟨.ref s.heap.objs.size,_,I.laid (t':=s.toks) kp (Nat.le_refl _) (show ObjOk X.prog X.w _ h' _ (.lst ys) from ⟨hz,its,c',r',e⟩),rfl,q _ (I.hok.fresh (Nat.le_refl _))⟩
 rcases hq with hq | hq
 ·obtain ⟨its,r',pl,hz⟩:=I.list hq
  have hlen:=r'.length
  obtain ⟨o,ho,hc,n,hd⟩:=pl.isList
  exact call_list_seq p (.inl rfl) ho hc hd (fun h' c' kp e=>fin its r' hz h' c' kp e) (by simp only [List.size_toArray] <;> lia)
 ·obtain ⟨its,r',pl,hz⟩:=I.tuple hq
  have hlen:=r'.length
  obtain ⟨o,ho,hc,n,hd⟩:=pl
  exact call_list_seq p (.inr rfl) ho hc hd (fun h' c' kp e=>fin its r' hz h' c' kp e) (by simp only [List.size_toArray] <;> lia)
def tyV (K:PySem.W.Frag) (T:String) (x:V) (H:Hp):Prop:=match x with
 | .str _=>T = "str"
 | .int _=>T = "int"
 | .ref p=>(T = "list"/\∃xs,SqL K H p xs)\/(T = "tuple"/\∃o,K.lookup p=some o/\o.cls=.type "tuple"/\o.dict=none)\/
   (T = "dict"/\((∃kvs,H p=some (.dK kvs))\/∃kvs,H p=some (.dT kvs)))\/(T = "set"/\∃S n,H p=some (.set S n))
 | _=>False
theorem tyV_is {pins:List (Addr×Obj)} {σ:St} {H:Hp} {s:Shared} {T:String} {x:V} {v:Value} (I:Inv X pins σ H s) (r:RelV x v) (ty:tyV X.K T x H) :
  s.TypeIs v T/\∀a,v=.ref a->∃ob,s.heap.get? a=some ob/\ob.dict=none:=by
 cases x with
 | str z=>
  obtain ⟨t,rfl⟩:=r
  cases (show T = "str" from ty)
  exact ⟨typeIs_str s z t,fun _ e=>nomatch e⟩
 | int i=>
  obtain ⟨t,rfl⟩:=r
  cases (show T = "int" from ty)
  exact ⟨typeIs_int s i t,fun _ e=>nomatch e⟩
 | ref p=>
  cases r
  rcases ty with ⟨rfl,xs,hq⟩ | ⟨rfl,o,hk,hc,hd⟩ | ⟨rfl,hk⟩ | ⟨rfl,S,n,hk⟩
  ·obtain ⟨its,_,pl,_⟩:=I.list hq
   refine ⟨pl.isList.typeIs,fun a e=>?_⟩
   cases e
   obtain ⟨o,n,e,c,hd,_⟩:=pl
   exact ⟨o,e,hd⟩
  ·refine ⟨⟨o,I.kIn p o hk,hc⟩,fun a e=>?_⟩
   cases e
   exact ⟨o,I.kIn _ o hk,hd⟩
  ·have z:∃o,s.heap.get? p=some o/\o.ExactDict:=by
    rcases hk with ⟨kvs,hk⟩ | ⟨kvs,hk⟩
    ·obtain ⟨_,_,_,_,o,_,_,e,ex,_⟩:=I.hok p _ hk
     exact ⟨o,e,ex⟩
    ·obtain ⟨_,_,_,_,o,_,_,e,ex,_⟩:=I.hok p _ hk
     exact ⟨o,e,ex⟩
   obtain ⟨o,e,ex⟩:=z
   refine ⟨⟨o,e,ex.1⟩,fun a e2=>?_⟩
   cases e2
   exact ⟨o,e,ex.2.1⟩
  ·obtain ⟨o,_,_,_,e,ex,_⟩:=I.hok p _ hk
   refine ⟨⟨o,e,ex.1⟩,fun a e2=>?_⟩
   cases e2
   exact ⟨o,e,ex.2.1⟩
 | _=>exact False.elim ty
def tBM0 (K:PySem.W.Frag) (T:String) (r:V->List V->Hp->VK->Prop) (to:TE):TE:=fun σ H Q=>to σ H fun x H1=>tyV K T x H1/\r x [] H1 Q
def tBM (K:PySem.W.Frag) (T:String) (r:V->List V->Hp->VK->Prop) (to:TE) (t:TA):TE:=fun σ H Q=>to σ H fun x H1=>tyV K T x H1/\t σ H1 fun xs H2=>r x xs H2 Q
variable {o e:Expr} {es:List Expr} {to:TE} {t:TA} {name:Str} {apos cpos:Pos} {T id:String} {r:V->List V->Hp->VK->Prop}
theorem pe_bm0 (pa:PlainAttrs T) (slot:Slot T name id) (hty:typeOf (.builtin id)=pure (.type "method_descriptor")) (hm:MtR X id r) (ho:PE X o to)
  (hbase:attributeBase o name X.env (eval o X.env)=eval o X.env:=by rfl) (hline:(apos.endLine == cpos.line)=true:=by rfl):PE X (.Call (.Attribute o name apos) [] [] cpos) (tBM0 X.K T r to):=by
 intro pins s σ H Q I h
 refine wpAny_Call_method0_late hbase hline (thn (ho pins s σ H _ I h) fun v s1 ⟨x,H1,I1,r1,ty,q1⟩=>?_)
 obtain ⟨h1,h2⟩:=tyV_is I1 r1 ty
 exact ⟨T,id,pa,slot,hty,h1,h2,Calls.callWith_builtin rfl (PySem.evalArgs_none (hm pins s1 σ H1 x [] v [] Q I1 r1 .nil q1))⟩
theorem pe_bm (pa:PlainAttrs T) (slot:Slot T name id) (hty:typeOf (.builtin id)=pure (.type "method_descriptor")) (hm:MtR X id r) (ho:PE X o to) (ha:PA X (e::es) t)
  (hbase:attributeBase o name X.env (eval o X.env)=eval o X.env:=by rfl)
  (hfew:((backTo cpos (starEach (e::es) X.env)).all (fun x=>!x.1) && (backToKw cpos (keywordEach [] X.env)).all (fun x=>x.1.isSome)
   && decide ((e::es).length+([]:List Keyword).length+(if ([]:List Keyword).isEmpty then 0 else 1) < 30))=true:=by rfl)
  (hline:(apos.endLine == cpos.line)=true:=by rfl) (hs:starEach (e::es) X.env=(false,eval e X.env)::starEach es X.env:=by rfl) (hplain:(backTo cpos (starEach es X.env)).any (·.1)=false:=by rfl) :
  PE X (.Call (.Attribute o name apos) (e::es) [] cpos) (tBM X.K T r to t):=by
 intro pins s σ H Q I h
 refine wpAny_Call_method_late hbase hfew hline rfl (thn (ho pins s σ H _ I h) fun v s1 ⟨x,H1,I1,r1,ty,q1⟩=>?_)
 obtain ⟨h1,h2⟩:=tyV_is I1 r1 ty
 refine ⟨T,id,pa,slot,hty,h1,h2,?_⟩
 have hA:=ha cpos pins s1 σ H1 _ I1 q1
 rw [hs] at hA ⊢
 refine Calls.callWith_builtin (by show (false || (backTo cpos (starEach es X.env)).any (·.1))=false;rw [hplain] <;> rfl) (Calls.evalArgs_plain ?_)
 exact thn hA fun us s2 ⟨vs,H2,I2,r2,q2⟩=>hm pins s2 σ H2 x vs v us Q I2 r1 r2 q2
end
end L2
namespace L2
open PySem PySem.Spec PyProof.Rows
def MtM (X:Cx) (id:String) (r:V->List V->Hp->VK->Prop):Prop:=
 ∀(pins:List (Addr×Obj)) (s:Shared) (σ:St) (H:Hp) (x:V) (xs:List V) (v:Value) (us:List Value) (Q:VK),Inv X pins σ H s->RelV x v->Vals xs us->r x xs H Q->
  wpAny (model X.prog X.w) X.A (call (.builtin id) (v::us)) (EP X pins σ Q) X.xe s
theorem Vals.one:∀{x:V} {us:List Value},Vals [x] us->∃u,us=[u]/\RelV x u
 | _,_,.cons r .nil=>⟨_,rfl,r⟩
theorem Vals.two:∀{x y:V} {us:List Value},Vals [x,y] us->∃u v,us=[u,v]/\RelV x u/\RelV y v
 | _,_,_,.cons r (.cons q .nil)=>⟨_,_,rfl,r,q⟩
theorem Vals.zero:∀{us:List Value},Vals [] us->us=[]
 | _,.nil=>rfl
section
variable {X:Cx} {pins:List (Addr×Obj)} {σ:St} {H:Hp} {s:Shared} {l b:Addr} {xs ys zs:List V}
theorem Inv.lset {its its':List Value} {n:Nat} {f:Array Value->Array Value} {t':Nat} (I:Inv X pins σ H s) (hH:H l=some (.lst xs))
  (e:s.heap.get? l=some { cls:=.type "list",data:=.seq its.toArray n }) (hf:f its.toArray=its'.toArray) (hv:Vals ys its') (hz:ys.length<=sizeLine) :
  Inv X pins σ (upd H l (.lst ys)) { s with heap:=s.heap.update l (Obj.mapSeq f),toks:=t' }:=by
 have q:=PySem.IsL.update e f
 rw [hf] at q
 refine I.write (x:=l) (e:=l) (by rw [hH];exact trivial) (.inl rfl) (fun b' u hb hu=>(Heap.get?_update_other s.heap (Obj.mapSeq f) (Ne.symm hb)).trans hu) ⟨_,q⟩ ?_
 exact ⟨hz,its',_,hv,q⟩
theorem Inv.lnew {its:List Value} {t':Nat} (I:Inv X pins σ H s) (hv:Vals ys its) (hz:ys.length<=sizeLine) :
  Inv X pins σ (upd H s.heap.objs.size (.lst ys)) { s with heap:=s.heap.push { cls:=.type "list",data:=.seq its.toArray },toks:=t' }:=
 I.laid (fun _ _ q=>Heap.get?_push_of_some _ q) (Nat.le_refl _) ⟨hz,its,0,hv,Heap.get?_push_size _ rfl⟩
theorem Inv.fresh (I:Inv X pins σ H s):H s.heap.objs.size=none:=I.hok.fresh (Nat.le_refl _)
theorem Inv.lstM (I:Inv X pins σ H s) (hH:H l=some (.lst xs)):xs.length<=sizeLine/\∃(its:List Value) (n:Nat),Vals xs its/\xs.length=its.length/\s.heap.get? l=some { cls:=.type "list",data:=.seq its.toArray n }:=by
 obtain ⟨z,its,n,r,e⟩:=I.hok l _ hH
 exact ⟨z,its,n,r,r.length,e⟩
theorem notLongL {n:Nat} (h:n<=sizeLine):Builtin.List.listTooLong n=false:=by
 unfold Builtin.List.listTooLong
 exact decide_eq_false (by lia)
end
section
variable {X:Cx}
def rAppend:V->List V->Hp->VK->Prop:=fun x vs H Q=>∃l xs y,x=.ref l/\vs=[y]/\H l=some (.lst xs)/\xs.length < sizeLine/\Q .non (upd H l (.lst (xs++[y])))
theorem mt_append:MtM X "list.append" rAppend:=by
 intro pins s σ H x vs v us Q I rx rv h
 obtain ⟨l,xs,y,rfl,rfl,hH,hz,q⟩:=h
 cases rx
 obtain ⟨u,rfl,ru⟩:=rv.one
 obtain ⟨z,its,n,r,hl,e⟩:=I.lstM hH
 refine call_meets F.slot_list_append ⟨_,e,rfl⟩ F.entry_list_append (F.args_list_append_2 _ _) (PySem.list_append l its.toArray n u (by rw [List.size_toArray];lia)) ⟨e,?_⟩
 refine ⟨.non,_,I.lset (its':=its++[u]) hH e (by simp) (r.append (.cons ru .nil)) ?_,rfl,q⟩
 rw [List.length_append,List.length_singleton]
 lia
def rExtend:V->List V->Hp->VK->Prop:=fun x vs H Q=>∃l b xs zs,x=.ref l/\vs=[.ref b]/\H l=some (.lst xs)/\H b=some (.lst zs)/\xs.length+zs.length<=sizeLine/\Q .non (upd H l (.lst (xs++zs)))
theorem mt_extend:MtM X "list.extend" rExtend:=by
 intro pins s σ H x vs v us Q I rx rv h
 obtain ⟨l,b,xs,zs,rfl,rfl,hH,hB,hz,q⟩:=h
 cases rx
 obtain ⟨u,rfl,ru⟩:=rv.one
 cases ru
 obtain ⟨z,its,n,r,hl,e⟩:=I.lstM hH
 obtain ⟨z2,its2,n2,r2,hl2,e2⟩:=I.lstM hB
 have hsz:its.toArray.size+its2.toArray.size<=sizeLine:=by rw [List.size_toArray,List.size_toArray];lia
 have hlong:¬(!its.toArray.isEmpty && Builtin.List.listTooLong (its.toArray.size+its2.toArray.size))=true:=by
  rw [notLongL hsz,Bool.and_false]
  exact Bool.false_ne_true
 refine call_meets F.slot_list_extend ⟨_,e,rfl⟩ F.entry_list_extend (F.args_list_extend_2 _ _)
  (AutoSeq1.list_extend_list_list_0 l its.toArray n b its2.toArray n2 hlong (by rw [List.size_toArray];lia) (by lia)) ⟨e,e2,?_⟩
 refine ⟨.non,_,I.lset (its':=its++its2) hH e (by simp) (r.append r2) ?_,rfl,q⟩
 rw [List.length_append]
 lia
def rClear:V->List V->Hp->VK->Prop:=fun x vs H Q=>∃l xs,x=.ref l/\vs=[]/\H l=some (.lst xs)/\Q .non (upd H l (.lst []))
theorem mt_clear:MtM X "list.clear" rClear:=by
 intro pins s σ H x vs v us Q I rx rv h
 obtain ⟨l,xs,rfl,rfl,hH,q⟩:=h
 cases rx
 have hus:=rv.zero
 subst hus
 obtain ⟨z,its,n,r,hl,e⟩:=I.lstM hH
 refine call_meets F.slot_list_clear ⟨_,e,rfl⟩ F.entry_list_clear (F.args_list_clear_1 _) (AutoSeq1.list_clear_list_0 l its.toArray n (by rw [List.size_toArray];lia)) ⟨e,?_⟩
 exact ⟨.non,_,I.lset (its':=[]) (ys:=[]) hH e rfl .nil (Nat.zero_le _),rfl,q⟩
def rCat:R2:=fun x y H Q=>∃l b xs zs,x=.ref l/\y=.ref b/\H l=some (.lst xs)/\H b=some (.lst zs)/\xs.length+zs.length<=sizeLine/\∀p,H p=none->Q (.ref p) (upd H p (.lst (xs++zs)))
theorem op_cat:OpR X (binaryOp .Add) rCat:=by
 intro pins s σ H x y v u Q I rx ry h
 obtain ⟨l,b,xs,zs,rfl,rfl,hH,hB,hz,q⟩:=h
 cases rx
 cases ry
 obtain ⟨z,its,n,r,hl,e⟩:=I.lstM hH
 obtain ⟨z2,its2,n2,r2,hl2,e2⟩:=I.lstM hB
 refine PySem.P.add_list e e2 ?_ (by rw [List.size_toArray,List.size_toArray];lia)
 have ea:its.toArray++its2.toArray=(its++its2).toArray:=by simp
 rw [ea]
 exact ⟨.ref _,_,I.lnew (t':=s.toks) (r.append r2) (by rw [List.length_append];lia),rfl,q _ I.fresh⟩
end
section
variable {prog:Program} {w:World} {A:Around} {E:Value->Shared->Prop} {s:Shared}
end
section
variable {X:Cx}
end
end L2
namespace L2
open PySem PySem.Spec PyProof.Rows
section
variable {κ:Type} [DecidableEq κ]
def valV (kvs:List (κ×V)) (k:κ):Option V:=(kvs.find? fun kv=>decide (kv.1=k)).map (·.2)
def putK (kvs:List (κ×V)) (k:κ) (v:V):List (κ×V):=
 if (kvs.any fun kv=>decide (kv.1=k))=true then kvs.map (fun kv=>if kv.1=k then (kv.1,v) else kv) else kvs++[(k,v)]
theorem valV_pos {p:κ×V} {r:List (κ×V)} {k:κ} (e:p.1=k):valV (p::r) k=some p.2:=by simp [valV,List.find?_cons,e]
theorem valV_neg {p:κ×V} {r:List (κ×V)} {k:κ} (e:¬p.1=k):valV (p::r) k=valV r k:=by simp [valV,List.find?_cons,e]
theorem valV_any (k:κ):∀kvs:List (κ×V),(kvs.any fun kv=>decide (kv.1=k))=(valV kvs k).isSome
 | []=>rfl
 | p::r=>by
  rw [List.any_cons]
  by_cases e:p.1=k
  ·simp only [valV_pos e,decide_eq_true e,Bool.true_or,Option.isSome_some]
  ·rw [valV_neg e,decide_eq_false e,Bool.false_or];exact valV_any k r
theorem valV_map (k j:κ) (y:V):∀kvs:List (κ×V),valV (kvs.map fun kv=>if kv.1=k then (kv.1,y) else kv) j=(valV kvs j).map fun x=>if j=k then y else x
 | []=>rfl
 | p::r=>by
  have ih:=valV_map k j y r
  rw [List.map_cons]
  by_cases h:p.1=k
  ·rw [if_pos h]
   by_cases e:p.1=j
   ·rw [valV_pos (p:=(p.1,y)) e,valV_pos e,Option.map_some,if_pos (e.symm.trans h)]
   ·rw [valV_neg (p:=(p.1,y)) e,valV_neg e,ih]
  ·rw [if_neg h]
   by_cases e:p.1=j
   ·rw [valV_pos (p:=p) e,valV_pos e,Option.map_some,if_neg (fun z=>h (e.trans z))]
   ·rw [valV_neg (p:=p) e,valV_neg e,ih]
theorem valV_snoc (k j:κ) (y:V):∀kvs:List (κ×V),valV kvs k=none->valV (kvs++[(k,y)]) j=if j=k then some y else valV kvs j
 | [],_=>by
  by_cases e:k=j
  ·rw [if_pos e.symm];exact valV_pos (p:=(k,y)) e
  ·rw [if_neg (fun z=>e z.symm)];exact valV_neg (p:=(k,y)) e
 | p::r,hn=>by
  rw [List.cons_append]
  have hk:¬p.1=k:=fun z=>by rw [valV_pos z] at hn;cases hn
  rw [valV_neg hk] at hn
  have ih:=valV_snoc k j y r hn
  by_cases e:p.1=j
  ·rw [valV_pos e,valV_pos e,if_neg (fun z=>hk (e.trans z))]
  ·rw [valV_neg e,valV_neg e,ih]
theorem valV_put (kvs:List (κ×V)) (k j:κ) (y:V):valV (putK kvs k y) j=if j=k then some y else valV kvs j:=by
 unfold putK
 by_cases a:(kvs.any fun kv=>decide (kv.1=k))=true
 ·rw [if_pos a,valV_map]
  rw [valV_any] at a
  by_cases e:j=k
  ·obtain ⟨x,hx⟩:=Option.isSome_iff_exists.mp a
   rw [if_pos e,e,hx,Option.map_some,if_pos rfl]
  ·rw [if_neg e]
   cases valV kvs j with
   | none=>rfl
   | some x=>rw [Option.map_some,if_neg e]
 ·rw [if_neg a]
  refine valV_snoc k j y kvs ?_
  rw [valV_any] at a
  cases q:valV kvs k with
  | none=>rfl
  | some x=>rw [q] at a;exact (a rfl).elim
theorem length_putK (kvs:List (κ×V)) (k:κ) (v:V):(putK kvs k v).length<=kvs.length+1:=by
 unfold putK
 split
 ·rw [List.length_map];lia
 ·rw [List.length_append,List.length_cons,List.length_nil];lia
theorem putK_new {kvs:List (κ×V)} {k:κ} (v:V) (h:valV kvs k=none):putK kvs k v=kvs++[(k,v)]:=by
 unfold putK
 rw [valV_any,h]
 exact if_neg (by decide)
theorem RelO.isSome_eq {o:Option V} {u:Option Value} (r:RelO o u):o.isSome=u.isSome:=by
 cases o with
 | none=>cases u with
  | none=>rfl
  | some _=>exact (show False from r).elim
 | some _=>cases u with
  | none=>exact (show False from r).elim
  | some _=>rfl
theorem KV.val {kvs:List (κ×V)} {vs:List (κ×Value)} (r:KV kvs vs) (k:κ):RelO (valV kvs k) (valueAt vs k):=by
 unfold KV at r
 induction r with
 | nil=>exact True.intro
 | @cons p q ps qs h t ih=>
  obtain ⟨h1,h2⟩:=h
  by_cases e:p.1=k
  ·have e':q.1=k:=h1.symm.trans e
   have b:valueAt (q::qs) k=some q.2:=by simp [valueAt,List.find?_cons,e']
   rw [valV_pos e,b];exact h2
  ·have e':¬q.1=k:=fun z=>e (h1.trans z)
   have b:valueAt (q::qs) k=valueAt qs k:=by simp [valueAt,List.find?_cons,e']
   rw [valV_neg e,b];exact ih
theorem KV.any {kvs:List (κ×V)} {vs:List (κ×Value)} (r:KV kvs vs) (k:κ):(kvs.any fun kv=>decide (kv.1=k))=vs.any fun kv=>decide (kv.1=k):=by
 unfold KV at r
 induction r with
 | nil=>rfl
 | cons h t ih=>rw [List.any_cons,List.any_cons,ih,h.1]
theorem KV.repl {kvs:List (κ×V)} {vs:List (κ×Value)} (r:KV kvs vs) (k:κ) {y:V} {u:Value} (ry:RelV y u) :
  KV (kvs.map fun kv=>if kv.1=k then (kv.1,y) else kv) (vs.map fun kv=>if kv.1=k then (kv.1,u) else kv):=by
 unfold KV at r ⊢
 induction r with
 | nil=>exact .nil
 | @cons p q ps qs h t ih=>
  rw [List.map_cons,List.map_cons]
  refine .cons ?_ ih
  obtain ⟨h1,h2⟩:=h
  by_cases e:p.1=k
  ·rw [if_pos e,if_pos (h1.symm.trans e)];exact ⟨h1,ry⟩
  ·rw [if_neg e,if_neg (fun z=>e (h1.trans z))];exact ⟨h1,h2⟩
theorem KV.put {kvs:List (κ×V)} {vs:List (κ×Value)} (r:KV kvs vs) (k:κ) {y:V} {u:Value} (ry:RelV y u):KV (putK kvs k y) (stored vs k u):=by
 unfold putK stored
 rw [r.any k]
 by_cases e:(vs.any fun kv=>decide (kv.1=k))=true
 ·rw [if_pos e,if_pos e];exact r.repl k ry
 ·rw [if_neg e,if_neg e];exact Paired.snoc r ⟨rfl,ry⟩
theorem KV.length {kvs:List (κ×V)} {vs:List (κ×Value)} (r:KV kvs vs):kvs.length=vs.length:=Paired.length r
end
theorem kV_is {P:Program} {w:World} {k:Key} {u:Value} (r:RelV (kV k) u):(mixKind P w).is k u=true:=by
 cases k with
 | inl i=>obtain ⟨t,e⟩:=(show ∃t,u=Value.int i t from r);subst e;exact mixKind_int P w i t
 | inr x=>obtain ⟨t,e⟩:=(show ∃t,u=Value.str x t from r);subst e;exact mixKind_str P w x t
theorem items_are {P:Program} {w:World}:∀{ks:List Key} {us:List Value},Vals (ks.map kV) us->ItemsAre (mixKind P w) ks us
 | [],_,r=>by rw [List.map_nil] at r;cases r;exact .nil
 | k::ks,_,r=>by
  rw [List.map_cons] at r
  cases r with
  | cons h t=>exact .cons (kV_is h) (items_are t)
abbrev KT (H:Hp):List (List Key×V)->List (List Key×Addr×Value)->Prop:=Paired fun p q=>p.1=q.1/\H q.2.1=some (.tup (p.1.map kV))/\RelV p.2 q.2.2
theorem KT.val {H:Hp} {kvs:List (List Key×V)} {xs:List (List Key×Addr×Value)} (r:KT H kvs xs) (k:List Key):RelO (valV kvs k) ((atKey xs k).map (·.2)):=by
 induction r with
 | nil=>exact True.intro
 | @cons p q ps qs h t ih=>
  obtain ⟨h1,_,h2⟩:=h
  by_cases e:p.1=k
  ·have e':q.1=k:=h1.symm.trans e
   have b:atKey (q::qs) k=some q.2:=by simp [atKey,List.find?_cons,e']
   rw [valV_pos e,b];exact h2
  ·have e':¬q.1=k:=fun z=>e (h1.trans z)
   have b:atKey (q::qs) k=atKey qs k:=by simp [atKey,List.find?_cons,e']
   rw [valV_neg e,b];exact ih
theorem KT.repl {H:Hp} {kvs:List (List Key×V)} {xs:List (List Key×Addr×Value)} (r:KT H kvs xs) (k:List Key) {y:V} {u:Value} (ry:RelV y u) :
  KT H (kvs.map fun kv=>if kv.1=k then (kv.1,y) else kv) (xs.map (putAt k u)):=by
 induction r with
 | nil=>exact .nil
 | @cons p q ps qs h t ih=>
  rw [List.map_cons,List.map_cons]
  refine .cons ?_ ih
  obtain ⟨h1,h2,h3⟩:=h
  unfold putAt
  by_cases e:p.1=k
  ·rw [if_pos e,if_pos (h1.symm.trans e)];exact ⟨h1,h2,ry⟩
  ·rw [if_neg e,if_neg (fun z=>e (h1.trans z))];exact ⟨h1,h2,h3⟩
theorem KT.put {H:Hp} {kvs:List (List Key×V)} {xs:List (List Key×Addr×Value)} (r:KT H kvs xs) (k:List Key) {b:Addr} {y:V} {u:Value} (hb:H b=some (.tup (k.map kV))) (ry:RelV y u) :
  KT H (putK kvs k y) (storedH xs k b u):=by
 have e:(kvs.any fun kv=>decide (kv.1=k))=(atKey xs k).isSome:=by
  rw [valV_any,(r.val k).isSome_eq,Option.isSome_map]
 unfold putK storedH
 rw [e]
 by_cases q:(atKey xs k).isSome=true
 ·rw [if_pos q,if_pos q];exact r.repl k ry
 ·rw [if_neg q,if_neg q];exact Paired.snoc r ⟨rfl,hb,ry⟩
theorem KT.keeps {H H':Hp} {kvs:List (List Key×V)} {xs:List (List Key×Addr×Value)} (r:KT H kvs xs) (ht:∀b ys,H b=some (.tup ys)->H' b=some (.tup ys)):KT H' kvs xs:=
 Paired.mapP r fun _ _ z=>⟨z.1,ht _ _ z.2.1,z.2.2⟩
section
variable {P:Program} {w:World} {H:Hp} {h:Heap} {a:Addr}
theorem rd_of {u:HO} (ok:HOk P w H h) (e:Rd H a u):ObjOk P w H h a u:=e.ok ok
theorem dk_rd {kvs:List (Key×V)} (ok:HOk P w H h) (e:Rd H a (.dK kvs)):kvs.length<=sizeLine/\(a == sysModules)=false/\∃vs,KV kvs vs/\h.DictOf (mixKind P w) a vs:=
 show ObjOk P w H h a (.dK kvs) from rd_of ok e
theorem dk_of {kvs:List (Key×V)} (ok:HOk P w H h) (e:H a=some (.dK kvs)):kvs.length<=sizeLine/\(a == sysModules)=false/\∃vs,KV kvs vs/\h.DictOf (mixKind P w) a vs:=dk_rd ok (.inl e)
theorem key_of {ks:List Key} (ok:HOk P w H h) (e:H a=some (.tup (ks.map kV))):(tupleKind (mixKind P w)).is h ks a:=by
 obtain ⟨_,its,r,o,h1,h2,n,h3⟩:=(show ObjOk P w H h a (.tup (ks.map kV)) from ok a _ e)
 exact ⟨o,its.toArray,n,h1,h2,h3,by simpa using items_are r⟩
theorem dt_rd {kvs:List (List Key×V)} (ok:HOk P w H h) (e:Rd H a (.dT kvs)):kvs.length<=sizeLine/\(a == sysModules)=false/\
  ∃xs,KT H kvs xs/\h.DictOfH (tupleKind (mixKind P w)) a xs:=by
 obtain ⟨z,y,xs,r,o,es,ep,h1,h2,h3,h4,h5⟩:=(show ObjOk P w H h a (.dT kvs) from rd_of ok e)
 refine ⟨z,y,xs,r,o,es,ep,h1,h2,h3,h4,fun x hx=>?_,h5⟩
 have all:∀{l:List (List Key×V)} {m:List (List Key×Addr×Value)},KT H l m->∀x∈m,(tupleKind (mixKind P w)).is h x.1 x.2.1:=by
  intro l m q
  induction q with
  | nil=>intro x hx;exact nomatch hx
  | @cons p q ps qs hq t ih=>
   intro x hx
   rcases List.mem_cons.mp hx with e | hx
   ·subst e
    exact key_of ok (by rw [<-hq.1];exact hq.2.1)
   ·exact ih x hx
 exact all r x hx
theorem dt_of {kvs:List (List Key×V)} (ok:HOk P w H h) (e:H a=some (.dT kvs)):kvs.length<=sizeLine/\(a == sysModules)=false/\
  ∃xs,KT H kvs xs/\h.DictOfH (tupleKind (mixKind P w)) a xs:=dt_rd ok (.inl e)
end
def DGet (H:Hp) (a:Addr) (y:V) (r:Option V):Prop:=
 (∃kvs k,Rd H a (.dK kvs)/\y=kV k/\r=valV kvs k)\/∃kvs k b,Rd H a (.dT kvs)/\y=.ref b/\H b=some (.tup (k.map kV))/\r=valV kvs k
def DPut (H:Hp) (a:Addr) (y v:V) (H':Hp):Prop:=
 (∃kvs k,H a=some (.dK kvs)/\y=kV k/\kvs.length < sizeLine/\H'=upd H a (.dK (putK kvs k v)))\/
 ∃kvs k b,H a=some (.dT kvs)/\y=.ref b/\H b=some (.tup (k.map kV))/\kvs.length < sizeLine/\H'=upd H a (.dT (putK kvs k v))
theorem DGet.k {H:Hp} {a:Addr} {kvs:List (Key×V)} {k:Key} (e:H a=some (.dK kvs)):DGet H a (kV k) (valV kvs k):=.inl ⟨kvs,k,.inl e,rfl,rfl⟩
theorem DPut.k {H:Hp} {a:Addr} {kvs:List (Key×V)} {k:Key} {v:V} (e:H a=some (.dK kvs)) (hl:kvs.length < sizeLine):DPut H a (kV k) v (upd H a (.dK (putK kvs k v))):=.inl ⟨kvs,k,e,rfl,hl,rfl⟩
section
variable {X:Cx} {pins:List (Addr×Obj)} {σ:St} {H:Hp} {s:Shared} {a:Addr} {y v:V} {u r:Value} {o:Option V} {A:Around} {E:Value->Shared->Prop}
theorem Inv.big (I:Inv X pins σ H s):sysModules < s.heap.objs.size:=by
 have h:mainGlobals < s.heap.objs.size:=(I.mod.glob.keeps I.bk).lt
 exact Nat.lt_trans (by decide) h
theorem d_getItem {Q:Value->Shared->Prop} (hu:A.units+1 < cLine) (I:Inv X pins σ H s) (g:DGet H a y (some v)) (ry:RelV y u) (h:∀w' s',Inv X pins σ H s'->RelV v w'->Q w' s') :
  wpAny (model X.prog X.w) A (getItem (.ref a) u) Q E s:=by
 rcases g with ⟨kvs,k,e,ey,l⟩ | ⟨kvs,k,b,e,ey,eb,l⟩
 ·subst ey
  obtain ⟨z,hd,vs,rel,dd⟩:=dk_rd I.hok e
  obtain ⟨w',hw,rw'⟩:=RelO.some_of (v:=v) (o:=valueAt vs k) (by rw [l];exact rel.val k)
  exact wpAny_getItem_of (kV_is ry) dd.mapOf hw (h w' _ (I.tok _) rw')
 ·subst ey
  cases (show u=Value.ref b from ry)
  obtain ⟨z,hd,xs,rel,dd⟩:=dt_rd I.hok e
  obtain ⟨w',hw,rw'⟩:=RelO.some_of (v:=v) (o:=(atKey xs k).map (·.2)) (by rw [l];exact rel.val k)
  obtain ⟨p,hp,hp2⟩:=Option.map_eq_some_iff.mp hw
  refine wpAny_getItem_heap (tupleKind_room_in1 hu) (key_of I.hok eb) dd hp ?_
  rw [hp2]
  exact h w' _ (I.tok _) rw'
theorem d_write {h':Heap} {t':Nat} {ob:HO} (I:Inv X pins σ H s) (mu:Mut (H a)) (hs:Heap.SameBut a s.heap h') (he:∃q,h'.get? a=some q) (new:ObjOk X.prog X.w (upd H a ob) h' a ob) :
  Inv X pins σ (upd H a ob) { s with heap:=h',toks:=t' }:=
 I.write (x:=a) (e:=a) mu (.inl rfl) (fun b q hb z=>(hs.2 b hb).trans z) he new
theorem dk_new {P:Program} {w:World} {H':Hp} {h':Heap} {kvs:List (Key×V)} {vs:List (Key×Value)} (z:kvs.length<=sizeLine) (hd:(a == sysModules)=false) (rel:KV kvs vs) (dd:h'.DictOf (mixKind P w) a vs) :
  ObjOk P w H' h' a (.dK kvs):=⟨z,hd,vs,rel,dd⟩
theorem d_setItem {H':Hp} {Q:Unit->Shared->Prop} (hu:A.units+1 < cLine) (I:Inv X pins σ H s) (g:DPut H a y v H') (ry:RelV y u) (rv:RelV v r) (h:∀s',Inv X pins σ H' s'->Q () s') :
  wpAny (model X.prog X.w) A (setItem (.ref a) u r) Q E s:=by
 rcases g with ⟨kvs,k,e,ey,l,eH⟩ | ⟨kvs,k,b,e,ey,eb,l,eH⟩
 ·subst ey eH
  obtain ⟨z,hd,vs,rel,dd⟩:=dk_of I.hok e
  have hz:vs.length<=sizeLine:=by rw [<-rel.length];exact z
  have hl:(putK kvs k v).length<=sizeLine:=by have:=length_putK kvs k v;lia
  refine wpAny_setItem_pairs (hsz:=hz) (kV_is ry) dd fun h' dd' hs=>h _ ?_
  have he:∃q,h'.get? a=some q:=let ⟨q,_,_,hq,_⟩:=dd';⟨q,hq⟩
  exact d_write I (by rw [e];exact True.intro) hs he (dk_new hl hd (rel.put k rv) dd')
 ·subst ey eH
  cases (show u=Value.ref b from ry)
  obtain ⟨z,hd,xs,rel,dd⟩:=dt_of I.hok e
  have hz:xs.length<=sizeLine:=by rw [<-Paired.length rel];exact z
  have hl:(putK kvs k v).length<=sizeLine:=by have:=length_putK kvs k v;lia
  refine wpAny_setItem_heap (hsz:=hz) (tupleKind_room_in1 hu) (key_of I.hok eb) dd fun h' dd' hs=>h _ ?_
  obtain ⟨q,es,ep,hq,h2,h3,h4,_,h5⟩:=dd'
  refine d_write I (by rw [e];exact True.intro) hs ⟨q,hq⟩ ⟨hl,hd,_,(rel.put k eb rv).keeps fun c ys ec=>?_,q,es,ep,hq,h2,h3,h4,h5⟩
  rw [upd_ne (ne_of ec e (fun z=>nomatch z))]
  exact ec
end
section
variable {X:Cx} {pins:List (Addr×Obj)} {σ:St} {H:Hp} {s:Shared} {a:Addr} {kvs:List (Key×V)} {k:Key} {u:Value} {A:Around} {E:Value->Shared->Prop}
end
def NoSl (i:Expr):Prop:=∀ov iv,subscripted i false ov iv=operate [ov,iv] (getItem ov iv)
theorem subD_of {prog:Program} {w:World} {A:Around} {E:Value->Shared->Prop} {s:Shared} {env:Env} {value slice:Expr} {pos:Pos} {T id:String} {Q:Value->Shared->Prop}
  (hl:typeLookup (.type T) "__getitem__" = pure (some (.builtin id))) (hs:NoSl slice)
  (h:wpAny (model prog w) A (eval value env) (fun o s₁=>wpAny (model prog w) A (eval slice env) (fun i s₂=>s₂.TypeIs o T/\wpAny (model prog w) A (getItem o i) Q E s₂) E s₁) E s) :
  wpAny (model prog w) A (eval (.Subscript value slice pos) env) Q E s:=by
 refine Subscript_ (wpAny_mono h (fun o s₁ h₁=>wpAny_mono h₁ (fun i s₂ h₂=>?_) fun _ _ x=>x) fun _ _ x=>x)
 obtain ⟨hT,h₂⟩:=h₂
 unfold subscriptTail
 refine wpAny_bind ?_
 rw [getitemInPython_of_ne hT.not_modules]
 refine wpAny_bind (wpAny_specialOf hT hl ?_)
 have fin:wpAny (model prog w) A (subscripted slice false o i) (fun r s₃=>wpAny (model prog w) A (letTemporaryGo value o r >>= fun _=>pure r) Q E s₃) E s₂:=by
  rw [hs o i]
  exact wpAny_operating (wpAny_mono h₂ (fun r s₃ h₃=>wpAny_bind (wpAny_letTemporaryGo (wpAny_pure h₃))) fun _ _ x=>x)
 first
  | exact wpAny_pure (wpAny_bind fin)
  | exact wpAny_bind (wpAny_pure (wpAny_bind fin))
  | exact wpAny_bind fin
theorem dict_typeIs {X:Cx} {pins:List (Addr×Obj)} {σ:St} {H:Hp} {s:Shared} {a:Addr} {y:V} {o:Option V} (I:Inv X pins σ H s) (g:DGet H a y o):s.TypeIs (.ref a) "dict":=by
 rcases g with ⟨kvs,k,e,_,_⟩ | ⟨kvs,k,b,e,_,_,_⟩
 ·obtain ⟨_,_,vs,_,dd⟩:=dk_rd I.hok e
  exact dd.typeIs
 ·obtain ⟨_,_,xs,_,dd⟩:=dt_rd I.hok e
  exact dd.typeIs
def tDGet (td ty:TE):TE:=fun σ H Q=>td σ H fun x H1=>ty σ H1 fun y H2=>∃a v,x=.ref a/\DGet H2 a y (some v)/\Q v H2
def sDPut (td ty tv:TE):TS:=fun D σ H=>tv σ H fun v H1=>td σ H1 fun x H2=>ty σ H2 fun y H3=>∃a H4,x=.ref a/\DPut H3 a y v H4/\D.nx σ H4
section
variable {X:Cx} {o i e value:Expr} {pos pos' tpos:Pos} {td ty tv:TE}
theorem pe_dget (hu:X.A.units+1 < cLine) (ho:PE X o td) (hi:PE X i ty) (hs:NoSl i):PE X (.Subscript o i pos) (tDGet td ty):=by
 intro pins s σ H Q I h
 refine subD_of PySem.F.slot_dict_getitem.lookup hs (thn (ho pins s σ H _ I h) fun u s1 ⟨x,H1,I1,rx,q1⟩=>thn (hi pins s1 σ H1 _ I1 q1) fun iv s2 ⟨y,H2,I2,ry,a,v,ex,g,q2⟩=>?_)
 subst ex
 obtain rfl:u=Value.ref a:=rx
 exact ⟨dict_typeIs I2 g,d_getItem hu I2 g ry fun w' s3 I3 rw'=>⟨v,H2,I3,rw',q2⟩⟩
theorem ps_dput (hu:X.A.units+1 < cLine) (ho:PE X o td) (hi:PE X i ty) (hv:PE X value tv) (hs:swapsWith value (some (.Subscript o i pos')) pos.line X.env=pure false) :
  PS X (.Assign [.Subscript o i pos'] value pos) (sDPut td ty tv):=by
 intro pins s σ H D I h
 refine wpAny_Assign_Subscript (thn (hv pins s σ H _ I h) fun r s1 ⟨v,H1,I1,rv,q1⟩=>thn (ho pins s1 σ H1 _ I1 q1) fun u s2 ⟨x,H2,I2,rx,q2⟩=>thn (hi pins s2 σ H2 _ I2 q2) fun iv s3 ⟨y,H3,I3,ry,a,H4,ex,g,q3⟩=>?_) hs
 subst ex
 obtain rfl:u=Value.ref a:=rx
 exact d_setItem hu I3 g ry rv fun s4 I4=>⟨σ,H4,I4,q3⟩
end
theorem dk_empty {P:Program} {w:World} {H:Hp} (h:Heap) (hb:sysModules < h.objs.size):ObjOk P w H (h.push { cls:=.type "dict",data:=.dict #[] }) h.objs.size (.dK []):=
 ⟨Nat.zero_le _,beq_eq_false_iff_ne.mpr (Ne.symm (Nat.ne_of_lt hb)),[],.nil,Heap.DictOf.new h⟩
def tDNewK:TE:=fun _ H Q=>∀p,H p=none->Q (.ref p) (upd H p (.dK []))
section
variable {X:Cx} {pos:Pos}
theorem pe_dnewK:PE X (.Dict [] [] pos) tDNewK:=fun pins s σ H Q I h=>
 wpAny_Dict_empty ⟨.ref s.heap.objs.size,_,I.laid (a:=s.heap.objs.size) (o:=.dK []) (t':=s.toks) (fun _ _ q=>Heap.get?_push_of_some _ q) (Nat.le_refl _) (dk_empty s.heap I.big),rfl,h _ (I.hok.fresh (Nat.le_refl _))⟩
end
structure M1 (X:Cx) (o:Expr) (m:Str) (apos:Pos) (e:Expr) (cpos:Pos):Prop where
 base:attributeBase o m X.env (eval o X.env)=eval o X.env
 few:((backTo cpos (starEach [e] X.env)).all (fun x=>!x.1) && (backToKw cpos (keywordEach [] X.env)).all (fun x=>x.1.isSome)
  && decide (([e]:List Expr).length+([]:List Keyword).length+(if ([]:List Keyword).isEmpty then 0 else 1) < 30))=true
 line:(apos.endLine == cpos.line)=true
 trees:backTo cpos (starEach [e] X.env)=[(false,eval e X.env)]
structure M2 (X:Cx) (o:Expr) (m:Str) (apos:Pos) (e f:Expr) (cpos:Pos):Prop where
 base:attributeBase o m X.env (eval o X.env)=eval o X.env
 few:((backTo cpos (starEach [e,f] X.env)).all (fun x=>!x.1) && (backToKw cpos (keywordEach [] X.env)).all (fun x=>x.1.isSome)
  && decide (([e,f]:List Expr).length+([]:List Keyword).length+(if ([]:List Keyword).isEmpty then 0 else 1) < 30))=true
 line:(apos.endLine == cpos.line)=true
 trees:backTo cpos (starEach [e,f] X.env)=[(false,eval e X.env),(false,eval f X.env)]
section
variable {X:Cx} {pins:List (Addr×Obj)} {σ:St} {H:Hp} {s:Shared} {a:Addr} {y d:V} {u r:Value} {o:Option V} {A:Around} {E:Value->Shared->Prop}
end
section
variable {X:Cx} {o e f:Expr} {apos cpos:Pos} {td ty tx:TE}
end
section
variable {X:Cx} {pins:List (Addr×Obj)} {σ:St} {H:Hp} {s:Shared} {a:Addr} {kvs:List (Key×V)} {A:Around} {E:Value->Shared->Prop}
theorem d_copyOf {Q:Value->Shared->Prop} (I:Inv X pins σ H s) (e:Rd H a (.dK kvs)) (h:∀p s',H p=none->Inv X pins σ (upd H p (.dK kvs)) s'->Q (.ref p) s'):wpAny (model X.prog X.w) A (call (.type "dict") [.ref a]) Q E s:=by
 obtain ⟨z,hd,vs,rel,dd⟩:=dk_rd I.hok e
 refine kt_call_dict hd dd (by rw [<-rel.length];exact z) fun h' dd' hs=>?_
 refine h _ _ (I.hok.fresh (Nat.le_refl _)) (I.laid (a:=s.heap.objs.size) (o:=.dK kvs) (t':=s.toks) (fun b q hq=>?_) (Nat.le_refl _) (dk_new z (beq_eq_false_iff_ne.mpr (Ne.symm (Nat.ne_of_lt I.big))) rel dd'))
 exact (hs.2 b (Nat.ne_of_lt (Heap.lt_size hq))).trans (Heap.get?_push_of_some _ hq)
end
section
variable {X:Cx} {pins:List (Addr×Obj)} {σ:St} {H:Hp} {s:Shared} {a:Addr} {y:V} {u:Value} {A:Around} {E:Value->Shared->Prop}
end
end L2
namespace Att
open PySem PySem.W PySem.Calls PyProof.Rows
theorem ints_of_wellAll {P:Params} {h:Heap}:∀(ns:List Int) (vs:List Value),WellAll P h vs (ns.map WData.int)->IntsAre vs ns:=by
 intro ns
 induction ns with
 | nil=>
  intro vs w
  rw [List.map_nil] at w
  cases w
  exact .nil
 | cons n ns ih=>
  intro vs w
  rw [List.map_cons] at w
  cases w with
  | cons a b=>
   cases a
   exact .cons _ _ (ih _ b)
theorem script_of {l:OpenLaw} {n:Nat} (hn:l.most=some n) {P:Params} {h:Heap} {args:List WData} {vals:List Value}
  (hpre:l.row.toRowW.claim.pre args=true) (hwl:WellAll P h vals args) :
  ∃a vs ns,vals=[Value.ref a]/\args=[WData.list (ns.map WData.int)]/\h.get? a=some { cls:=.type "list",data:=.seq vs.toArray }/\IntsAre vs ns/\ns.length<=n:=by
 have hsh:WShape.hasAll [] args [.list .int]=true:=(pre_splitW hpre).1
 have hc:l.pre.holds [] { args:=args }=true:=(pre_splitW hpre).2
 obtain ⟨d,r,rfl,h1,h2⟩:=hasAllW_cons hsh
 obtain rfl:=hasAllW_nil h2
 obtain ⟨xs,rfl,h3⟩:=hasW_list h1
 obtain ⟨ns,rfl⟩:=items_int h3
 have hlen:ns.length<=n:=by
  unfold OpenLaw.pre at hc
  have h4:(WTm.not (.lt (.lit (.int (n:Int))) (.len (.arg 0)))).holds [] { args:=[.list (ns.map .int)] }=true:=by
   have h4:=(holds_andW hc).1
   rw [hn] at h4
   exact h4
  have h5:=condW_of h4 (w_not (w_lt w_lit (w_len_list (w_arg rfl))))
  rw [List.length_map] at h5
  refine Nat.le_of_not_lt fun q=>?_
  have q':(n:Int) < ((ns.length:Nat):Int):=by lia
  first
   | (rw [decide_eq_true q'] at h5;exact absurd h5 (by decide))
   | (simp at h5;lia)
 cases hwl with
 | cons w1 w2=>
  cases w2
  cases w1 with
  | list ho hall=>exact ⟨_,_,ns,rfl,rfl,ho,ints_of_wellAll ns _ hall,hlen⟩
theorem post_true (l:OpenLaw) (args:List WData):l.row.toRowW.claim.post args (.bool true) args=true:=
 postW_of (r:=l.row.toRowW) (X:=(true == true))
  (show WShape.has [] (.bool true) .bool=true by first | rfl | decide | simp [WShape.has,WShape.arms,WShape.armsAll])
  (show (WTm.eq .res (.lit (.bool true))).value [] { args:=args,res:=some (.bool true),after:=args }=some (.bool (true == true)) from w_eq_bool (w_res rfl) w_lit) rfl
theorem attach_call {l:OpenLaw} {n:Nat} {q:Program} {loose:List Str} {XP:(Str->Option Value)->Heap->Prop} {YP:World->Heap->Prop} {d:DefRec}
  (hn:l.most=some n) (hdf:d.params.defaults=[])
  (call:∀(w:World) (s₀ s₁:Shared) (mg mb:Str->Option Value) (fa:Addr) (o:Obj) (pm cd doc:Value) (a:Addr) (vs:List Value) (ns:List Int),
   Ground q loose [] XP w s₀ mg mb s₁.heap->YP w s₁.heap->
   s₁.heap.get? fa=some o->o.data=.func (docDef d.name d.params d.body d.scope pm cd doc)->s₁.heap.CodeRec cd d.name->mg d.name=some (.ref fa)->
   s₁.heap.get? a=some { cls:=.type "list",data:=.seq vs.toArray }->IntsAre vs ns->ns.length<=n->s₁.gens = #[]->
   codeAny (model l.prog w) callerA (.call (.ref fa) ⟨[.ref a],[]⟩) (fun r s'=>r=.ok (.ret (.bool true))/\OldK s₁.heap s'.heap/\s'.os=s₁.os/\AllBare s'.gens) s₁) :
  WalkO q loose XP YP l.row.toRowW d [] (fun f vs=>PySem.call f vs):=by
 intro w s₀ s₁ mg mb G Y fa o pm cd doc dV kV ho hd hcd hD hmg hg args vals as hpre hlay hrd hwl hlo
 obtain rfl:dV=.none:=Dflts.none hD hdf
 obtain rfl:kV=.none:=Dflts.noKw hD
 obtain ⟨a,vs,ns,rfl,rfl,hobj,hints,hlen⟩:=script_of hn hpre hwl
 refine enter_call (codeAny_mono (call w s₀ s₁ mg mb fa o pm cd doc a vs ns G Y ho (fd_plain hd) hcd hmg hobj hints hlen hg) fun r s' hq=>?_)
 obtain ⟨rfl,h2,h3,h4⟩:=hq
 exact ⟨.inl ⟨.bool true,.bool true,[],rfl,fun _=>rfl,.bool true,post_true l _,fun _=>⟨List.Pairwise.nil,fun _ hm=>(nomatch hm)⟩⟩,h2,h3,h4⟩
section
variable {prog:Program} {w:World} {A:Around} {E:Value->Shared->Prop} {s:Shared} {K:Frag}
end
end Att
namespace L2
open PySem PySem.Spec PyProof.Rows
theorem vals_ints:∀{vs:List Value} {ns:List Int},IntsAre vs ns->Vals (ns.map V.int) vs
 | _,_,.nil=>.nil
 | _,_,.cons n t h=>.cons ⟨t,rfl⟩ (vals_ints h)
def Only (H:Hp):Prop:=∀b,H b=none\/∃o xs,H b=some (.frz o (.lst xs))
theorem law_call {P:Program} {w:World} {K:PySem.W.Frag} {mg mb:Str->Option Value} {CX:CXT} {k:Nat} {fa a:Addr} {fd:FuncData} {x:Str} {sp:Sp} {s₁:Shared} {vs:List Value} {ns:List Int}
  (KX:K.In s₁.heap) (hns:s₁.heap.Ns mainGlobals mg) (hb:s₁.heap.Ns builtinsNs mb) (hbb:∀x:Str,x≠"__name__"->mb x=bootBuiltins x) (hlim:s₁.heap.NoLimit) (hg:s₁.gens = #[])
  (ha:s₁.heap.get? a=some { cls:=.type "list",data:=.seq vs.toArray }) (hi:IntsAre vs ns) (hl:ns.length<=sizeLine) (hr:Room k callerA)
  (F:∀base:Heap,K.In base->base.Ns mainGlobals mg->FnOk P w K mg base CX k fa fd [x] sp) (hbind:∀(s:Shared) (u:Value),BindsTo s fd ⟨[u],[]⟩ [(x,u)])
  (hsp:∀H:Hp,Only H->SqL K H a (ns.map V.int)->sp [.ref a] H (fun v _=>v=.bl true) fun _ _ _=>False)
  (hCX:∀H e s',CX [] H s₁ (fun _ _ _=>False) e s'->False) :
  codeAny (model P w) callerA (.call (.ref fa) ⟨[.ref a],[]⟩) (fun r s'=>r=.ok (.ret (.bool true))/\OldK s₁.heap s'.heap/\s'.os=s₁.os/\AllBare s'.gens) s₁:=by
 have rv:=vals_ints hi
 have lenV:=hi.length
 have core:∀H:Hp,Only H->SqL K H a (ns.map V.int)->HOk P w H s₁.heap->(∀b,H b≠none->b=a)->(H a≠none->K.lookup a=none)->
   codeAny (model P w) callerA (.call (.ref fa) ⟨[.ref a],[]⟩) (fun r s'=>r=.ok (.ret (.bool true))/\OldK s₁.heap s'.heap/\s'.os=s₁.os/\AllBare s'.gens) s₁:=by
  intro H hO hS hok hA hK
  have base_of:∀{b:Addr} {o:Obj},s₁.heap.get? b=some o->H b=none->(hidT s₁.heap H).get? b=some o:=fun e n=>hidT_get e n
  have noA:∀{b:Addr} {o:Obj} {es:Array DictEntry} {ep:Nat},s₁.heap.get? b=some o->o.data=.dict es ep->H b=none:=fun {b o es ep} e d=>by
   cases q:H b with
   | none=>rfl
   | some u=>
    have e':b=a:=hA b (by rw [q];simp)
    subst e'
    rw [ha] at e;cases e
    have d':Data.seq vs.toArray _=Data.dict es ep:=d
    cases d'
  have nsK:∀{b:Addr} {m:Str->Option Value},s₁.heap.Ns b m->(hidT s₁.heap H).Ns b m:=fun {b m} ⟨o,es,ep,e,d,r⟩=>⟨o,es,ep,base_of e (noA e d),d,r⟩
  have hKb:K.In (hidT s₁.heap H):=fun b o e=>base_of (KX b o e) (by
   cases q:H b with
   | none=>rfl
   | some u=>
    have e':b=a:=hA b (by rw [q];simp)
    subst e'
    rw [hK (by rw [q];simp)] at e;cases e)
  have hM:Mod K mg (hidT s₁.heap H):=⟨hKb,nsK hns,⟨mb,nsK hb,hbb⟩,let ⟨mc,h1,h2⟩:=hlim;⟨mc,nsK h1,h2⟩⟩
  have e0:Env0 P w K mg (hidT s₁.heap H) callerA [] s₁ H:=⟨rfl,hM,fun b o e=>of_hidT e,Nat.le_of_eq (hidT_size _ _),trivial,fun b hb=>absurd (show b∈([]:List Addr) from hb) (by simp),hok,.of_eq hg⟩
  refine codeAny_mono ((F _ hKb (nsK hns)).run callerA [] s₁ H ⟨[.ref a],[]⟩ [.ref a] [.ref a] _ _ hr e0 (hbind s₁ (.ref a)) (.cons rfl .nil) (hsp H hO hS)) fun r s' h=>?_
  cases r with
  | error e=>exact (hCX H e s' h).elim
  | ok fl=>
   cases fl with
   | next=>exact False.elim h
   | brk=>exact False.elim h
   | cont=>exact False.elim h
   | ret u=>
    obtain ⟨v,H',os,bare,un,hok',r',q⟩:=h
    have q':v=.bl true:=q
    subst q'
    obtain rfl:u=Value.bool true:=r'
    refine ⟨rfl,OldK.of_keep fun b o e=>?_,os,bare⟩
    cases q:H b with
    | none=>exact un.keep b o e q (by intro z;exact absurd (show b∈([]:List Addr) from z) (by simp)) (by simp)
    | some u=>
     rcases hO b with z | ⟨ob,xs,z⟩
     ·rw [q] at z;cases z
     ·have z2:=un.frzs b ob _ z
      obtain ⟨e1,_⟩:=hok b _ z
      obtain ⟨e2,_⟩:=hok' b _ z2
      rw [e] at e1;cases e1
      exact e2
 cases hk:K.lookup a with
 | some o=>
  have e:=KX a o hk
  rw [ha] at e
  cases e
  refine core (fun _=>none) (fun _=>.inl rfl) (.inr ⟨_,vs.toArray,_,hk,rfl,rfl,rfl,by rw [List.size_toArray,lenV];exact hl,by simpa using rv⟩) (fun b u z=>by have z':(none:Option HO)=some u:=z;cases z') (fun b z=>absurd rfl z) fun z=>absurd rfl z
 | none=>
  refine core (fun b=>if b=a then some (.frz { cls:=.type "list",data:=.seq vs.toArray } (.lst (ns.map V.int))) else none) (fun b=>?_) (.inl (.inr ⟨{ cls:=.type "list",data:=.seq vs.toArray },if_pos rfl⟩)) (fun b u z=>?_) (fun b z=>?_) fun _=>hk
  ·by_cases hb:b=a
   ·exact .inr ⟨_,_,if_pos hb⟩
   ·exact .inl (if_neg hb)
  ·by_cases hb:b=a
   ·have z':=(if_pos hb).symm.trans z
    cases z'
    subst hb
    exact ⟨ha,by rw [List.length_map];exact hl,vs,_,rv,ha⟩
   ·have z':=(if_neg hb).symm.trans z
    cases z'
  ·by_cases hb:b=a
   ·exact hb
   ·exact absurd (if_neg hb) z
end L2
namespace L2
open PySem PySem.Spec PyProof.Rows
theorem walk_of {l:PySem.W.OpenLaw} {n k:Nat} {q:Program} {loose:List Str} {XP:(Str->Option Value)->Heap->Prop} {YP:World->Heap->Prop} {d:DefRec} {K:Params->PySem.W.Frag} {CX:World->CXT} {sp:World->Sp} {x:Str}
  (hn:l.most=some n) (hn2:n<=sizeLine) (hdf:d.params.defaults=[]) (hr:Room k callerA)
  (hY:∀(w:World) (h:Heap),YP w h->(K w.params).In h)
  (F:∀(w:World) (mg:Str->Option Value) (fa:Addr) (h:Heap),(K w.params).In h->h.Ns mainGlobals mg->mg d.name=some (.ref fa)->
   ∃fd:FuncData,(∀(s:Shared) (u:Value),BindsTo s fd ⟨[u],[]⟩ [(x,u)])/\
    ∀base:Heap,(K w.params).In base->base.Ns mainGlobals mg->FnOk l.prog w (K w.params) mg base (CX w) k fa fd [x] (sp w))
  (hsp:∀(w:World) (H:Hp) (a:Addr) (ns:List Int),ns.length<=n->Only H->SqL (K w.params) H a (ns.map V.int)->sp w [.ref a] H (fun v _=>v=.bl true) fun _ _ _=>False)
  (hCX:∀(w:World) (H:Hp) (s:Shared) (e:Value) (s':Shared),CX w [] H s (fun _ _ _=>False) e s'->False) :
  PySem.W.WalkO q loose XP YP l.row.toRowW d [] (fun f vs=>PySem.call f vs):=by
 refine Att.attach_call hn hdf fun w s₀ s₁ mg mb fa o pm cd doc a vs ns G Y ho hd hcd hmg hobj hints hlen hg=>?_
 have KX:=hY w _ Y
 obtain ⟨fd,hb,hF⟩:=F w mg fa _ KX G.T.g hmg
 exact law_call KX G.T.g G.T.b G.T.builtins G.T.nolimit hg hobj hints (Nat.le_trans hlen hn2) hr hF hb (fun H hO hS=>hsp w H a ns hlen hO hS) fun H e s'=>hCX w H s₁ e s'
end L2
namespace L2
open PySem PySem.Spec PyProof.Rows
def defArgs (s:Stmt):Arguments:=match s with
 | .FunctionDef _ a _ _ _ _ _ _ _ _=>a
 | _=>{ posonlyargs:=[],args:=[],vararg:=none,kwonlyargs:=[],kw_defaults:=[],kwarg:=none,defaults:=[] }
def defBody (s:Stmt):List Stmt:=match s with
 | .FunctionDef _ _ b _ _ _ _ _ _ _=>b
 | _=>[]
def defScope (s:Stmt):Scope:=match s with
 | .FunctionDef _ _ _ _ _ _ sc _ _ _=>sc
 | _=>{ kind:=.function,names:=[],isGenerator:=false,isCoroutine:=false }
abbrev CX0:CXT:=fun _ _ _ _ _ _=>False
abbrev E0:XK:=fun _ _ _=>False
theorem pass0 {X:Cx}:Passes CX0 X E0:=fun _ _ _ _ _ _ _ h=>h.elim
structure Fun (K:PySem.W.Frag) (x qual:Str) (st:Stmt) (f:Addr) (fd:FuncData):Prop where
 ex:∃(oc:Value) (od:Option Addr) (kV doc pm:Value) (an:Option Addr) (cdv ct:Value) (osl:Array (Option Value)),
  fd=PySem.W.fnOf x qual (defArgs st) (defBody st) (defScope st) .none kV doc pm an cdv ct/\K.lookup f=some ⟨oc,od,.func fd,osl⟩/\PySem.W.codeIn K cdv qual=true
 kp:PySem.W.keepIn K (.ref f)=true
section
variable {P:Program} {w:World} {K:PySem.W.Frag} {mg:Str->Option Value} {base:Heap}
theorem Fun.ok {x qual:Str} {st:Stmt} {f:Addr} {fd:FuncData} {N ps:List Str} {k:Nat} {sp:Sp} (F:Fun K x qual st f fd) (S:FnScope N ps (defScope st)) (len:∀vs H Q E,sp vs H Q E->vs.length=ps.length)
  (hbody:∀(cdv:Value) (A:Around) (outer:List Env) (s:Shared) (H:Hp) (vs:List V) (Q:VK) (E:XK),Room k (A.deeper (envOfC qual (defScope st) s.heap.objs.size f cdv))->sp vs H Q E->
   ∃t,PSs (cxOf CX0 P w K mg base N qual (defScope st) f cdv A outer s H E).nox (defBody st) t/\t { nx:=fun _ H'=>Q .non H',rt:=Q } (start N vs) H):FnOk P w K mg base CX0 (k+1) f fd ps sp:=by
 obtain ⟨oc,od,kV,doc,pm,an,cdv,ct,osl,rfl,lk,hcd⟩:=F.ex
 refine fn_of lk hcd S len fun A outer s H vs Q E hr hsp=>?_
 obtain ⟨t,h,q⟩:=hbody cdv A outer s H vs Q E hr hsp
 exact ⟨t,h.nox,q⟩
theorem Fun.binds {x qual:Str} {st:Stmt} {f:Addr} {fd:FuncData} {ps:List Str} (F:Fun K x qual st f fd)
  (h:∀(kV doc pm:Value) (an:Option Addr) (cdv ct:Value) (us:List Value),us.length=ps.length->bindArgs (PySem.W.fnOf x qual (defArgs st) (defBody st) (defScope st) .none kV doc pm an cdv ct) ⟨us,[]⟩=pure (ps.zip us)):Binds K fd ps []:=by
 obtain ⟨oc,od,kV,doc,pm,an,cdv,ct,osl,rfl,lk,hcd⟩:=F.ex
 exact .all (h kV doc pm an cdv ct)
theorem fun_mk {x qual:Str} {st:Stmt} {f:Addr} {oc:Value} {od an:Option Addr} {osl:Array (Option Value)} {kV doc pm cdv ct:Value} (l:K.lookup f=some ⟨oc,od,.func (PySem.W.fnOf x qual (defArgs st) (defBody st) (defScope st) .none kV doc pm an cdv ct),osl⟩)
  (c:PySem.W.codeIn K cdv qual=true) (k:PySem.W.keepIn K (.ref f)=true):Fun K x qual st f (PySem.W.fnOf x qual (defArgs st) (defBody st) (defScope st) .none kV doc pm an cdv ct):=⟨⟨oc,od,kV,doc,pm,an,cdv,ct,osl,rfl,l,c⟩,k⟩
end
theorem hu_of {A:Around} {k:Nat} (hr:Room k A):A.units+1 < cLine:=Nat.lt_of_le_of_lt (Nat.add_le_add_left (by decide:1<=64) _) hr.units
theorem small1000 {n:Nat} (h:n<=1000):n < sizeLine:=Nat.lt_of_le_of_lt h (by decide)
section
variable {X:Cx}
theorem pv (i:Nat) {x:Str} {pos:Pos} (hN:X.N[i]? = some x:=by rfl) (hv:Vis X.env.scope x:=by first | exact Or.inl rfl | exact Or.inr (Or.inl rfl) | exact Or.inr (Or.inr rfl)) (hd:(x == ("__debug__" : Str))=false:=by decide)
  (hcd:(x == ("__classdict__" : Str))=false:=by decide):PE X (.Name x pos) (tVar i):=pe_var hN hv hd hcd
end
def Same (H H':Hp):Prop:=∀b o,H b=some o->H' b=some o
theorem Same.refl (H:Hp):Same H H:=fun _ _ h=>h
theorem Same.trans {H H1 H2:Hp} (a:Same H H1) (b:Same H1 H2):Same H H2:=fun c o h=>b c o (a c o h)
theorem Same.free {H H':Hp} (e:Same H H') {l:Addr} (h:H' l=Option.none):H l=Option.none:=by
 cases q:H l with
 | none=>rfl
 | some o=>
  rw [e l o q] at h
  cases h
section
variable {κ:Type} [DecidableEq κ]
end
end L2
end
section
theorem L2.hide {p:Prop} (h:∀q:Prop,(p->q)->q):p:=h p id
end
section
namespace L2
open PySem PySem.Spec PyProof.Rows
theorem forIn_pureX {α β:Type} {f:α->β->Sem (ForInStep β)} (g:α->β->β):∀(l:List α) (b:β),(∀x∈l,∀c,f x c=pure (.yield (g x c)))->forIn l b f=pure (l.foldl (fun c x=>g x c) b)
 | [],b,_=>rfl
 | x::l,b,h=>by
  rw [List.forIn_cons,h x List.mem_cons_self,pure_bind]
  exact forIn_pureX g l (g x b) fun y hy=>h y (List.mem_cons_of_mem _ hy)
def closL (env:Env) (names:List (Str×NameKind)) (cs:List (Str×Addr)):List (Str×Addr):=
 names.foldl (fun c y=>if y.2 == NameKind.free then (y.1,(env.cells.lookup y.1).getD 0)::c else c) cs
theorem closureFor_closL {scope:Scope} {env:Env} (h:∀y∈scope.names,y.2=.free->∃c,env.cells.lookup y.1=some c):closureFor scope env=pure (closL env scope.names []):=by
 simp only [closureFor]
 rw [forIn_pureX (fun y c=>if y.2 == NameKind.free then (y.1,(env.cells.lookup y.1).getD 0)::c else c) scope.names [] (fun x hx c=>by
  obtain ⟨n,kind⟩:=x
  dsimp only
  by_cases hk:kind=.free
  ·subst hk
   obtain ⟨a,e⟩:=h (n,.free) hx rfl
   have e':env.cells.lookup n=some a:=e
   have:cellOf env n=pure a:=by unfold cellOf;rw [e']
   rw [this,e']
   rfl
  ·have hb:(kind == NameKind.free)=false:=by simpa using hk
   rw [hb];rfl)]
 simp only [pure_bind]
 rfl
theorem closL_mem {env:Env}:∀(names:List (Str×NameKind)) (cs:List (Str×Addr)),(∀y∈names,y.2=.free->∃c,env.cells.lookup y.1=some c)->(∀p∈cs,env.cells.lookup p.1=some p.2)->
  ∀p∈closL env names cs,env.cells.lookup p.1=some p.2
 | [],cs,_,hc=>hc
 | y::r,cs,h,hc=>by
  unfold closL
  rw [List.foldl_cons]
  refine closL_mem r _ (fun z hz=>h z (List.mem_cons_of_mem _ hz)) fun p hp=>?_
  by_cases hk:y.2=.free
  ·have hb:(y.2 == NameKind.free)=true:=by simpa using hk
   rw [if_pos hb] at hp
   rcases List.mem_cons.mp hp with e | hp
   ·obtain ⟨c,e1⟩:=h y List.mem_cons_self hk
    rw [e];dsimp only;rw [e1];rfl
   ·exact hc p hp
  ·have hb:¬(y.2 == NameKind.free)=true:=by simpa using hk
   rw [if_neg hb] at hp
   exact hc p hp
theorem closL_keeps {env:Env} {p:Str×Addr}:∀(names:List (Str×NameKind)) (cs:List (Str×Addr)),p∈cs->p∈closL env names cs
 | [],_,h=>h
 | y::r,cs,h=>by
  unfold closL
  rw [List.foldl_cons]
  refine closL_keeps r _ ?_
  split
  ·exact List.mem_cons_of_mem _ h
  ·exact h
theorem closL_has {env:Env} {x:Str}:∀(names:List (Str×NameKind)) (cs:List (Str×Addr)),(x,NameKind.free)∈names->∃c,(x,c)∈closL env names cs
 | y::r,cs,h=>by
  rcases List.mem_cons.mp h with e | h
  ·subst e
   exact ⟨_,by
    unfold closL;rw [List.foldl_cons]
    refine closL_keeps r _ ?_
    rw [if_pos (by rfl)]
    exact List.mem_cons_self⟩
  ·obtain ⟨c,hc⟩:=closL_has r (if y.2 == NameKind.free then (y.1,(env.cells.lookup y.1).getD 0)::cs else cs) h
   exact ⟨c,by unfold closL;rw [List.foldl_cons];exact hc⟩
theorem lookup_of_all {f:Str->Option Addr} {x:Str}:∀{cs:List (Str×Addr)},(∀p∈cs,f p.1=some p.2)->(∃c,(x,c)∈cs)->cs.lookup x=f x
 | [],_,⟨_,h⟩=>nomatch h
 | (n,a)::r,hc,⟨c,h⟩=>by
  rw [List.lookup_cons]
  by_cases e:x=n
  ·subst e
   rw [beq_self_eq_true]
   exact (hc (x,a) List.mem_cons_self).symm
  ·have hb:(x == n)=false:=by simpa using e
   rw [hb]
   refine lookup_of_all (fun p hp=>hc p (List.mem_cons_of_mem _ hp)) ⟨c,?_⟩
   rcases List.mem_cons.mp h with q | q
   ·exact absurd (congrArg Prod.fst q) e
   ·exact q
theorem relabel_free {env : Env} {y : Str} : ∀ {names : List (Str × NameKind)}, (∀ z ∈ names, z.2 ≠ .cell) →
    ((names.map fun (n, k) => if (k == NameKind.free && env.scope.kind == .function && env.kindOf n == some .cell) then (n, NameKind.cell) else (n, k)).lookup y = some .cell ∨
     (names.map fun (n, k) => if (k == NameKind.free && env.scope.kind == .function && env.kindOf n == some .cell) then (n, NameKind.cell) else (n, k)).lookup y = some .free) → names.lookup y = some .free
  | [], _, h => by rcases h with h | h <;> cases h
  | (n, k) :: r, hc, h => by
    have ih := @relabel_free env y r fun z hz => hc z (List.mem_cons_of_mem _ hz)
    rw [List.map_cons] at h
    rw [List.lookup_cons]
    by_cases e : y = n
    · subst e
      rw [beq_self_eq_true]
      by_cases hb : (k == NameKind.free && env.scope.kind == .function && env.kindOf y == some .cell) = true
      · have hk : k = .free := by
          rw [Bool.and_eq_true, Bool.and_eq_true] at hb
          simpa using hb.1.1
        rw [hk]
      · dsimp only at h
        rw [if_neg hb, List.lookup_cons, beq_self_eq_true] at h
        dsimp only at h
        rcases h with h | h
        · exact absurd (Option.some.inj h) (hc (y, k) List.mem_cons_self)
        · exact h
    · have hn : (y == n) = false := by simpa using e
      rw [hn]
      dsimp only at h ⊢
      apply ih
      by_cases hb : (k == NameKind.free && env.scope.kind == .function && env.kindOf n == some .cell) = true
      · rw [if_pos hb, List.lookup_cons, hn] at h
        exact h
      · rw [if_neg hb, List.lookup_cons, hn] at h
        exact h
structure CB where
 C:Addr
 cl:List (Str×Addr)
 s2:Shared
 H2:Hp
 ex:List Addr
@[reducible] def cxC (X:Cx) (scope:Scope) (N:List Str) (c:CB):Cx:=
 { prog:=X.prog,w:=X.w,K:=X.K,mg:=X.mg,base:=X.base,A:=X.A,N:=N,s₀:=c.s2,H₀:=c.H2,env:=compEnvC scope c.cl c.C X.env,outer:=X.stack,stack:=X.stack,ex:=c.ex,fn:=fun _=>false,calm:=X.calm,pn:=[],xe:=fun _ _=>False }
def subS (σ:St) (idx:List Nat):St:=idx.map fun i=>(σ[i]?).join
def subN (N:List Str) (idx:List Nat):List Str:=idx.map fun i=>N.getD i ""
def PIfs (X:Cx) (ifs:List Expr) (t:TT):Prop:=
 ∀(pins:List (Addr×Obj)) (s:Shared) (σ:St) (H:Hp) (Q:Bool->Hp->Prop),Inv X pins σ H s->t σ H Q->
  wpAny (model X.prog X.w) X.A (forIn ifs true fun c r=>if r=true then do let ok <-isTrue c X.env (eval c X.env);pure (ForInStep.yield ok) else pure (ForInStep.yield r)) (TP X pins σ Q) X.xe s
def tYes:TT:=fun _ H Q=>Q true H
theorem pifs_nil {X:Cx}:PIfs X [] tYes:=fun _ _ _ H _ I h=>wpAny_tests_nil ⟨H,I,h⟩
theorem pifs_one {X:Cx} {e:Expr} {t:TT} (h:PT X e t):PIfs X [e] t:=fun pins s σ H Q I q=>wpAny_tests_one (h pins s σ H Q I q)
def tComp (wi:TI) (k:Nat) (idx:List Nat) (g:CB->TG) (tt:CB->TT) (te:CB->TE):TE:=fun σ H Q=>wi σ H fun J H1=>∀D,H1 D=none->∃W:Nat->Nat->List V->Hp->Prop,(∃m,W 0 m [] (upd H1 D (.lst [])))/\
 ∀i m ys H',W i m ys H'->(J.stop i H'/\Q (.ref D) H')\/(J.go i H'/\∃N:List V->Hp->Prop,(∀ys' H'',N ys' H''->∃m',m' < m/\W (i+1) m' ys' H'')/\∀(c:CB) (own:St),own.length=k->∀x H2,J.yld i H' x H2->g c x (own++subS σ idx) H2 fun σ3 H3=>
  (∃own',own'.length=k/\σ3=own'++subS σ idx)/\tt c σ3 H3 fun b H4=>if b=true then te c σ3 H4 fun y H5=>H5 D=some (.lst ys)/\ys.length < sizeLine/\N (ys++[y]) (upd H5 D (.lst (ys++[y]))) else N ys H4)
structure CScope (X:Cx) (scope:Scope) (xs:List Str) (idx:List Nat):Prop where
 kind:scope.kind=.function
 nocell:∀y∈scope.names,y.2≠.cell
 loc:∀y∈scope.names,y.2=.local->scope.names.lookup y.1=some .local
 free:∀y∈scope.names,y.2=.free->scope.names.lookup y.1=some .free/\(X.env.kindOf y.1=some .cell\/X.env.kindOf y.1=some .free)
 ix:∀i∈idx,∃y,X.N[i]? = some y/\scope.names.lookup y=some .free
section
variable {prog:Program} {w:World} {A:Around} {R:Result->Shared->Prop} {s:Shared}
theorem codeAny_compLoop_any {elt target iter:Expr} {ifs:List Expr} {scope:Scope} {pos:Pos} {it acc:Value} {env:Env} (I:Nat->Shared->Prop)
  (turn:∀n s,I n s->wpAny (model prog w) A (pyNext it) (fun r s₁=>match r with
   | none=>R (.ok .next) s₁
   | some v=>wpAny (model prog w) A (letOwnedTupleGo target it v) (fun _ s₁'=>wpAny (model prog w) A (assign target env v) (fun _ s₂=>
     wpAny (model prog w) A (forIn ifs true fun c r=>if r=true then do let ok <-isTrue c env (eval c env);pure (ForInStep.yield ok) else pure (ForInStep.yield r)) (fun ok s₃=>
      if ok=true then wpAny (model prog w) A (eval elt env) (fun x s₄=>
       wpAny (model prog w) A (call (.builtin "list.append") [acc,x]) (fun _ s₅=>∃m,m < n/\I m s₅) (fun _ _=>False) s₄) (fun _ _=>False) s₃
      else ∃m,m < n/\I m s₃) (fun _ _=>False) s₂) (fun _ _=>False) s₁') (fun _ _=>False) s₁) (fun _ _=>False) s)
  (n:Nat) (h:I n s) :
  codeAny (model prog w) A (.compLoop (.ListComp elt [⟨target,iter,ifs,0⟩] scope pos) 0 it acc env) R s:=by
 refine codeAny_loop rfl I (fun n s hI=>?_) n h
 show wpAny _ A ((compTurn (.ListComp elt [⟨target,iter,ifs,0⟩] scope pos) 0 it acc env).onRaise (fun x=>do noteFrame x env;theTreesLotGoes x)) _ _ s
 refine wpAny_noted ?_
 rw [compTurn_list]
 refine wpAny_bind (wpAny_standAt (wpAny_bind (wpAny_mono (turn n s hI) (fun r s₁ h₁=>?_) fun _ _ h'=>False.elim h')))
 cases r with
 | none=>exact wpAny_pure h₁
 | some v=>
  refine wpAny_bind (wpAny_mono h₁ (fun _ s₁' h₁'=>?_) fun _ _ h'=>False.elim h')
  refine wpAny_bind (wpAny_mono h₁' (fun _ s₂ h₂=>wpAny_bind (wpAny_mono h₂ (fun ok s₃ h₃=>?_) fun _ _ h'=>False.elim h')) fun _ _ h'=>False.elim h')
  cases ok with
  | false=>exact wpAny_pure ⟨rfl,h₃⟩
  | true=>
   exact wpAny_bind (wpAny_bind (wpAny_mono h₃ (fun x s₄ h₄=>wpAny_bind (wpAny_mono h₄ (fun _ s₅ h₅=>wpAny_pure (wpAny_pure ⟨rfl,h₅⟩)) fun _ _ h'=>False.elim h')) fun _ _ h'=>False.elim h'))
end
section
variable {X:Cx} {pins:List (Addr×Obj)} {σ:St} {H:Hp} {s:Shared}
theorem HOk.but {P:Program} {w:World} {h h':Heap} {C:Addr} (x:HOk P w H h) (hn:H C=none) (hs:Heap.SameBut C h h'):HOk P w H h':=fun b ob e=>by
 refine (x b ob e).stay (fun c w' hc q=>(hs.2 c ?_).trans q) (fun _ q=>q) fun _ _ q=>q
 rintro rfl
 rcases hc with rfl | hc
 ·rw [hn] at e;cases e
 ·rw [hn] at hc;cases hc
theorem Un.but {fs ex:List Addr} {H':Hp} {h h1 h2:Heap} {C:Addr} (u:Un fs ex H H' h h1) (hC:h.get? C=none) (hs:Heap.SameBut C h1 h2):Un fs ex H H' h h2:=by
 have ne:∀b o,h.get? b=some o->b≠C:=fun b o e z=>by rw [z,hC] at e;cases e
 exact ⟨fun b o e n h1 h2=>(hs.2 b (ne b o e)).trans (u.keep b o e n h1 h2),fun b o e n h1 h2=>by
   obtain ⟨sl,q⟩:=u.slot b o e n h1 h2
   exact ⟨sl,(hs.2 b (ne b o e)).trans q⟩,u.free,fun b o e h2=>by
   obtain ⟨o',q⟩:=u.there b o e h2
   exact ⟨o',(hs.2 b (ne b o e)).trans q⟩,u.tups,u.frzs,u.tbls⟩
theorem subS_get {idx:List Nat} {j:Nat} {v:V} (h:(subS σ idx)[j]? = some (some v)):∃i,idx[j]? = some i/\σ[i]? = some (some v):=by
 unfold subS at h
 rw [List.getElem?_map] at h
 cases e:idx[j]? with
 | none=>rw [e] at h;cases h
 | some i=>
  rw [e] at h
  refine ⟨i,rfl,?_⟩
  have h':(σ[i]?).join=some v:=Option.some.inj h
  cases q:σ[i]? with
  | none=>rw [q] at h';cases h'
  | some o=>rw [q] at h';cases o with
   | none=>cases h'
   | some z=>cases h';rfl
theorem subN_get {N:List Str} {idx:List Nat} {j i:Nat} {y:Str} (h:idx[j]? = some i) (e:N[i]? = some y):(subN N idx)[j]? = some y:=by
 unfold subN
 rw [List.getElem?_map,h]
 show some (N.getD i "")=some y
 rw [List.getD_eq_getElem?_getD,e];rfl
theorem Inv.block {scope:Scope} {xs:List Str} {idx:List Nat} {fp:List Addr} {C:Addr} {h':Heap} {t':Nat} {H1:Hp} {D:Addr} {m0:Str->Option Value} (I:Inv X pins σ H s) (S:CScope X scope xs idx)
  (hfp:∀b∈fp,FpOk X pins H b) (hfo:∀b∈fp,∃o,s.heap.get? b=some o) (hC:s.heap.objs.size<=C) (hDC:D≠C) (hD:s.heap.objs.size<=D) (hn:h'.Ns C m0) (hk:∀b o,s.heap.get? b=some o->h'.get? b=some o)
  (hl:∃n,h'.get? D=some { cls:=.type "list",data:=.seq #[] n }) :
  Inv (cxC X scope (xs++subN X.N idx) ⟨C,closL X.env scope.names [],s,H,fp⟩) [] (List.replicate xs.length none++subS σ idx) (upd H D (.lst [])) { s with heap:=h',toks:=t' }:=by
 have hfree:∀y∈scope.names,y.2=.free->∃c,X.env.cells.lookup y.1=some c:=fun y hy e=>I.ok.has y.1 (S.free y hy e).2
 have hall:=closL_mem (env:=X.env) scope.names [] hfree (fun p hp=>(nomatch hp))
 have hcell:∀y c,(closL X.env scope.names []).lookup y=some c->X.env.cells.lookup y=some c:=fun y c e=>hall (y,c) (PySem.mem_of_lookup e)
 have hhas:∀y,scope.names.lookup y=some .free->(closL X.env scope.names []).lookup y=X.env.cells.lookup y:=fun y e=>lookup_of_all (f:=fun n=>X.env.cells.lookup n) hall (closL_has scope.names [] (PySem.mem_of_lookup e))
 have lt:∀b,(∃o,s.heap.get? b=some o)->b < s.heap.objs.size:=fun b ⟨o,e⟩=>Heap.lt_size e
 have hDn:H D=none:=I.hok.fresh hD
 refine ⟨⟨I.ok.mod,S.kind,I.ok.glob,I.ok.blt,hC,fun x y c h1 h2=>I.ok.inj x y c (hcell x c h1) (hcell y c h2),fun y hy=>?_,fun _ _ e=>(nomatch e),I.ok.hd,I.ok.frames,.inl rfl,fun b hb=>⟨?_,fun x c e=>(hfp b hb).2.2.2.2.1 x c (hcell x c e)⟩,I.bs,Nat.le_trans I.ok.bsz I.sz,fun b o e hb=>?_,fun b hb z=>?_,I.stack,I.stkFree⟩,
  rfl,I.bare,?_,⟨m0,hn,fun i y v e1 e2 hv=>?_⟩,fun x c e=>?_,?_,fun x c e=>?_,fun p hp=>(nomatch hp),?_,?_⟩
 ·
  have q:scope.names.lookup y=some .free:=relabel_free S.nocell hy
  have q2:=PySem.mem_of_lookup q
  obtain ⟨c,e⟩:=hfree _ q2 rfl
  exact ⟨c,(hhas y q).trans e⟩
 ·
  exact Nat.ne_of_lt (Nat.lt_of_lt_of_le (lt b (hfo b hb)) hC)
 ·
  rcases (hfp b hb).2.2.2.1 with z | z
  ·exact I.ok.noex b o e z
  ·exact absurd (Nat.lt_of_lt_of_le (Heap.lt_size e) (Nat.le_trans I.ok.bsz z)) (Nat.lt_irrefl _)
 ·
  rcases List.mem_cons.mp (I.stkSub b z) with q | q
  ·exact (hfp b hb).2.1 q
  ·exact (hfp b hb).2.2.1 q
 ·
  exact Un.laid hk hD hDn
 ·
  by_cases hi:i < xs.length
  ·rw [List.getElem?_append_left (by simpa using hi)] at e2
   rw [List.getElem?_replicate] at e2
   split at e2 <;> cases e2
  ·have hi':xs.length<=i:=Nat.le_of_not_lt hi
   rw [List.getElem?_append_right (by simpa using hi'),List.length_replicate] at e2
   obtain ⟨i0,ei,es⟩:=subS_get e2
   obtain ⟨y',ey,ef⟩:=S.ix i0 (List.mem_of_getElem? ei)
   have e1':(xs++subN X.N idx)[i]? = some y:=e1
   rw [List.getElem?_append_right hi',subN_get ei ey] at e1'
   cases e1'
   obtain ⟨m,hm,hl'⟩:=I.loc
   have ef2:=S.free (y,.free) (PySem.mem_of_lookup ef) rfl
   have vis:Vis X.env.scope y:=.inr ef2.2
   obtain ⟨u,ru,lk⟩:=hl' i0 y v ey es vis
   refine ⟨u,ru,?_⟩
   rcases lk with ⟨k1,_⟩ | ⟨_,c,ec,hc⟩
   ·rcases ef2.2 with z | z
    ·have z':X.env.kindOf y=some .cell:=z
     rw [k1] at z';cases z'
    ·have z':X.env.kindOf y=some .free:=z
     rw [k1] at z';cases z'
   ·refine .inr ⟨?_,c,(hhas y ef).trans ec,hc.keeps hk⟩
    rcases hv with z | z | z
    ·exfalso
     have z':(relabel scope X.env).names.lookup y=some .local:=z
     have:∀(names:List (Str×NameKind)),names.lookup y=some .free->(names.map fun (n,k)=>if (k == NameKind.free && X.env.scope.kind == .function && X.env.kindOf n == some .cell) then (n,NameKind.cell) else (n,k)).lookup y≠some .local:=by
      intro names
      induction names with
      | nil=>intro h;cases h
      | cons p r ih=>
       obtain ⟨n,k⟩:=p
       intro h
       rw [List.map_cons]
       by_cases e:y=n
       ·subst e
        rw [List.lookup_cons,beq_self_eq_true] at h
        cases h
        dsimp only
        split
        ·rw [List.lookup_cons,beq_self_eq_true];exact fun q=>nomatch q
        ·rw [List.lookup_cons,beq_self_eq_true];exact fun q=>nomatch q
       ·have hn:(y == n)=false:=by simpa using e
        rw [List.lookup_cons,hn] at h
        dsimp only
        split
        ·rw [List.lookup_cons,hn];exact ih h
        ·rw [List.lookup_cons,hn];exact ih h
     exact this scope.names ef z'
    ·exact .inl z
    ·exact .inr z
 ·
  obtain ⟨v,q⟩:=I.cell x c (hcell x c e)
  exact ⟨v,q.keeps hk⟩
 ·
  show upd H D (.lst []) C=none
  rw [upd_ne (Ne.symm hDC)]
  exact I.hok.fresh hC
 ·
  have e':=hcell x c e
  obtain ⟨v,q⟩:=I.cell x c e'
  rw [upd_ne (Nat.ne_of_lt (Nat.lt_of_lt_of_le q.lt hD))]
  exact I.freeC x c e'
 ·
  obtain ⟨n,e⟩:=hl
  exact I.hok.laid hk hD ⟨Nat.zero_le _,[],n,.nil,e⟩
 ·show (List.replicate xs.length none++subS σ idx).length=(xs++subN X.N idx).length
  rw [List.length_append,List.length_append,List.length_replicate]
  unfold subS subN
  rw [List.length_map,List.length_map]
end
section
variable {X:Cx} {elt target iter:Expr} {ifs:List Expr} {scope:Scope} {pos:Pos} {xs:List Str} {idx:List Nat} {wi:TI} {g:CB->TG} {tt:CB->TT} {te:CB->TE}
theorem comp_run {pins:List (Addr×Obj)} {σ:St} {H2:Hp} {s2:Shared} {fp:List Addr} {it:Addr} {tn:Nat->Heap->Prop} {J:It} {Q:V->Hp->Prop} {RR:Value->Addr->Result->Shared->Prop} {E:Value->Shared->Prop} (hc:X.calm=true) (S:CScope X scope xs idx)
  (hg:∀c,PG (cxC X scope (xs++subN X.N idx) c) target (g c)) (ht:∀c,PIfs (cxC X scope (xs++subN X.N idx) c) ifs (tt c)) (he:∀c,PE (cxC X scope (xs++subN X.N idx) c) elt (te c))
  (I2:Inv X pins σ H2 s2) (T:Turn X.prog X.w X.K target J fp it tn) (st2:tn 0 s2.heap) (f2:∀b∈fp,FpOk X pins H2 b)
  (h:∀D,H2 D=none->∃W:Nat->Nat->List V->Hp->Prop,(∃m,W 0 m [] (upd H2 D (.lst [])))/\
   ∀i m ys H',W i m ys H'->(J.stop i H'/\Q (.ref D) H')\/(J.go i H'/\∃N:List V->Hp->Prop,(∀ys' H'',N ys' H''->∃m',m' < m/\W (i+1) m' ys' H'')/\∀(c:CB) (own:St),own.length=xs.length->∀x H2,J.yld i H' x H2->g c x (own++subS σ idx) H2 fun σ3 H3=>
    (∃own',own'.length=xs.length/\σ3=own'++subS σ idx)/\tt c σ3 H3 fun b H4=>if b=true then te c σ3 H4 fun y H5=>H5 D=some (.lst ys)/\ys.length < sizeLine/\N (ys++[y]) (upd H5 D (.lst (ys++[y]))) else N ys H4))
  (hRR:∀D C σ' H' s',s2.heap.objs.size<=C->Inv (cxC X scope (xs++subN X.N idx) ⟨C,closL X.env scope.names [],s2,H2,fp⟩) [] σ' H' s'->Q (.ref D) H'->RR (.ref D) C (.ok .next) s') :
  wpAny (model X.prog X.w) X.A (newList []) (fun acc s₃=>wpAny (model X.prog X.w) X.A (newFunctionEnv scope X.env.globals (closL X.env scope.names []) [] X.env.qual none .none (some X.env)) (fun cenv s₄=>
   codeAny (model X.prog X.w) X.A (.compStart (.ListComp elt [⟨target,iter,ifs,0⟩] scope pos) 0 (.ref it) acc { cenv with scope:=relabel scope X.env }) (RR acc cenv.locals) s₄) E s₃) E s2:=by
 refine wpAny_newObj_type (wpAny_newFunctionEnv S.nocell (by intro y hy;simp at hy) (fun h₁ hns₁ hsb₁=>?_) S.kind)
 dsimp only at hns₁ hsb₁ ⊢
 generalize hH2:s2.heap.push { cls:=.type "list",dict:=none,data:=.seq ([]:List Value).toArray }=HH at hns₁ hsb₁ ⊢
 have hCs:HH.objs.size=s2.heap.objs.size+1:=by rw [<-hH2,Heap.size_push]
 have hDC:s2.heap.objs.size≠HH.objs.size:=by rw [hCs];exact Nat.ne_of_lt (Nat.lt_succ_self _)
 have hCle:s2.heap.objs.size<=HH.objs.size:=by rw [hCs];exact Nat.le_succ _
 have old:∀b o,s2.heap.get? b=some o->h₁.get? b=some o:=fun b o e=>hsb₁.extBut b o (by rw [hCs];exact Nat.ne_of_lt (Nat.lt_succ_of_lt (Heap.lt_size e))) (Heap.get?_push_of_some _ (hH2 ▸ Heap.get?_push_of_some _ e))
 have hacc:∃n,h₁.get? s2.heap.objs.size=some { cls:=.type "list",data:=.seq #[] n }:=⟨_,hsb₁.extBut _ _ hDC (Heap.get?_push_of_some _ (hH2 ▸ Heap.get?_push_size _ rfl))⟩
 have st1:tn 0 h₁:=T.keep _ _ _ st2 fun b _ o e=>old b o e
 obtain ⟨W,⟨m0,w0⟩,turn⟩:=h s2.heap.objs.size I2.fresh
 have loop:∀s₃:Shared,s₃={ s2 with heap:=h₁,toks:=s2.toks+([]:List (Str×Value)).length }->
   codeAny (model X.prog X.w) X.A (.compLoop (.ListComp elt [⟨target,iter,ifs,0⟩] scope pos) 0 (.ref it) (.ref s2.heap.objs.size) (compEnvC scope (closL X.env scope.names []) HH.objs.size X.env)) (RR (.ref s2.heap.objs.size) HH.objs.size) s₃:=by
  rintro s₃ rfl
  have I3:=I2.block (t':=s2.toks+([]:List (Str×Value)).length) (H1:=H2) S f2 (fun b hb=>let ⟨o,e,_⟩:=T.obj _ _ st2 b hb;⟨o,e⟩) hCle hDC (Nat.le_refl _) hns₁ old hacc
  generalize hY:cxC X scope (xs++subN X.N idx) ⟨HH.objs.size,closL X.env scope.names [],s2,H2,fp⟩=Y at I3
  have eY:Y=cxC X scope (xs++subN X.N idx) ⟨HH.objs.size,closL X.env scope.names [],s2,H2,fp⟩:=hY.symm
  have nof:∀b∈fp,b∉Y.fs:=fun b hb z=>by
   rw [eY] at z
   rcases List.mem_cons.mp (I2.stkSub b z) with q | q
   ·exact (f2 b hb).2.1 q
   ·exact (f2 b hb).2.2.1 q
  have stat:∀{H':Hp},(∀b∈fp,H' b=none)->∀b∈fp,FpOk Y [] H' b:=fun {H'} hn b hb=>by
   have lt:b < s2.heap.objs.size:=let ⟨o,e,_⟩:=T.obj _ _ st2 b hb;Heap.lt_size e
   refine ⟨hn b hb,?_,nof b hb,.inl (by rw [eY];exact hb),fun x c e=>?_,fun p hp=>?_⟩
   ·rw [eY];exact Nat.ne_of_lt (Nat.lt_of_lt_of_le lt hCle)
   ·rw [eY] at e
    have hall:=closL_mem (env:=X.env) scope.names [] (fun y hy e=>I2.ok.has y.1 (S.free y hy e).2) (fun p hp=>nomatch hp)
    exact (f2 b hb).2.2.2.2.1 x c (hall (x,c) (PySem.mem_of_lookup e))
   ·rw [eY] at hp;exact nomatch hp
  have T':Turn Y.prog Y.w Y.K target J fp it tn:=by rw [eY];exact T
  have hg':PG Y target (g ⟨HH.objs.size,closL X.env scope.names [],s2,H2,fp⟩):=by rw [eY];exact hg _
  have ht':PIfs Y ifs (tt ⟨HH.objs.size,closL X.env scope.names [],s2,H2,fp⟩):=by rw [eY];exact ht _
  have he':PE Y elt (te ⟨HH.objs.size,closL X.env scope.names [],s2,H2,fp⟩):=by rw [eY];exact he _
  have hcY:Y.calm=true:=by rw [eY];exact hc
  have eA:Y.A=X.A:=by rw [eY]
  have eP:Y.prog=X.prog:=by rw [eY]
  have eW:Y.w=X.w:=by rw [eY]
  have eE:Y.env=compEnvC scope (closL X.env scope.names []) HH.objs.size X.env:=by rw [eY]
  have eX:Y.xe=fun _ _=>False:=by rw [eY]
  have fin:∀σ' H' s',Inv Y [] σ' H' s'->Q (.ref s2.heap.objs.size) H'->RR (.ref s2.heap.objs.size) HH.objs.size (.ok .next) s':=fun σ' H' s' I' q=>hRR _ _ σ' H' s' hCle (by rw [<-eY];exact I') q
  rw [<-eE,<-eA,<-eP,<-eW]
  have fr0:∀b∈fp,(upd H2 s2.heap.objs.size (.lst [])) b=none:=fun b hb=>by
   have lt:b < s2.heap.objs.size:=let ⟨o,e,_⟩:=T.obj _ _ st2 b hb;Heap.lt_size e
   rw [upd_ne (Nat.ne_of_lt lt)];exact (f2 b hb).1
  refine codeAny_compLoop_any (fun n s'=>∃i ys own H',own.length=xs.length/\Inv Y [] (own++subS σ idx) H' s'/\tn i s'.heap/\(∀b∈fp,H' b=none)/\W i n ys H') ?_ m0
   ⟨0,[],_,_,List.length_replicate,I3,st1,fr0,w0⟩
  rintro n s4 ⟨i,ys,own,H4,hown,I4,st4,fr4,w4⟩
  rcases turn i n ys H4 w4 with ⟨stop,qn⟩ | ⟨go,NN,hNN,step⟩
  ·exact thn (T'.done Y rfl rfl rfl hcY i [] s4 _ H4 _ I4 (stat fr4) st4 stop) fun r s5 ⟨hr,I5⟩=>by subst hr;exact fin _ _ _ I5 qn
  ·refine thn (T'.item Y rfl rfl rfl hcY i [] s4 _ H4 _ I4 (stat fr4) st4 go) fun r s5 ⟨u,hr,h5⟩=>?_
   subst hr
   refine thn h5 fun _ s6 ⟨x,H6,I6,r6,y6,st6,fr6⟩=>?_
   have I6':=I6.pinned (stat fr6) (T'.obj _ _ st6)
   have step':=step ⟨HH.objs.size,closL X.env scope.names [],s2,H2,fp⟩ own hown x H6 y6
   refine wpAny_mono (hg' _ s6 _ H6 x u _ I6' r6 step') (fun _ s7 ⟨σ7,H7,I7,q7⟩=>?_) (fun _ _ z=>by rw [eX] at z;exact z)
   obtain ⟨⟨own7,ho7,e7⟩,q7⟩:=q7
   refine wpAny_mono (ht' _ s7 σ7 H7 _ I7 q7) (fun b s8 ⟨H8,I8,q8⟩=>?_) (fun _ _ z=>by rw [eX] at z;exact z)
   have again:∀{H9:Hp} {s9:Shared} {ys':List V},Inv Y ([]++pinsAt fp s6.heap) σ7 H9 s9->NN ys' H9->∃m,m < n/\∃i ys own H',own.length=xs.length/\Inv Y [] (own++subS σ idx) H' s9/\tn i s9.heap/\(∀b∈fp,H' b=none)/\W i m ys H':=fun {H9 s9 ys'} I9 n9=>by
    obtain ⟨m',hm,w9⟩:=hNN _ _ n9
    rw [e7] at I9
    refine ⟨m',hm,i+1,ys',own7,H9,ho7,I9.unpinned,T'.keep _ _ _ st6 fun b hb o e=>(I9.pin (b,o) (List.mem_append_right _ (List.mem_append_right _ (mem_pinsAt hb e)))).1,fun b hb=>?_,w9⟩
    obtain ⟨o,e,d⟩:=T'.obj _ _ st6 b hb
    exact (I9.pin (b,o) (List.mem_append_right _ (List.mem_append_right _ (mem_pinsAt hb e)))).2.1
   cases b with
   | false=>exact again I8 q8
   | true=>
    refine wpAny_mono (he' _ s8 σ7 H8 _ I8 q8) (fun u9 s9 ⟨y,H9,I9,r9,hy,hz,q9⟩=>?_) (fun _ _ z=>by rw [eX] at z;exact z)
    have ap:=mt_append (X:=Y) _ s9 σ7 H9 (.ref s2.heap.objs.size) [y] (.ref s2.heap.objs.size) [u9] (fun _ H10=>NN (ys++[y]) H10) I9 rfl (.cons r9 .nil) ⟨_,ys,y,rfl,rfl,hy,hz,q9⟩
    refine wpAny_mono ap (fun _ s10 ⟨_,H10,I10,_,q10⟩=>again I10 q10) (fun _ _ z=>by rw [eX] at z;exact z)
 exact codeAny_compStart_list (loop _ rfl) (T.self _ 0 _ _ _ st1 (loop _ rfl))
theorem pe_comp (hc:X.calm=true) (S:CScope X scope xs idx) (hi:PI X target iter wi)
  (hg:∀c,PG (cxC X scope (xs++subN X.N idx) c) target (g c)) (ht:∀c,PIfs (cxC X scope (xs++subN X.N idx) c) ifs (tt c)) (he:∀c,PE (cxC X scope (xs++subN X.N idx) c) elt (te c))
  (hs:∀x,foldedSetIterable iter X.env x=pure x:=by intro _;rfl):PE X (.ListComp elt [⟨target,iter,ifs,0⟩] scope pos) (tComp wi xs.length idx g tt te):=by
 intro pins s σ H Q I h
 rw [eval_ListComp]
 have hclos:closureFor scope X.env=pure (closL X.env scope.names []):=closureFor_closL fun y hy e=>I.ok.has y.1 (S.free y hy e).2
 refine wpAny_comprehension_free (use:=none) rfl hs hclos S.kind S.loc (thn (hi pins s σ H _ I h) fun xv s₁ h₁=>thn h₁ fun itv s₂ h₂=>?_)
 obtain ⟨it,fp,tn,J,H2,e,I2,T,st2,f2,hW⟩:=h₂
 subst e
 refine comp_run (Q:=Q) (RR:=fun acc C=>compPost (model X.prog X.w) X.A X.xe none (EP X pins σ Q) acc C) hc S hg ht he I2 T st2 f2 hW ?_
 intro D C σ' H' s' hC I' q
 obtain ⟨m',hn,_⟩:=I'.loc
 refine ⟨m',hn,fun h'' hs''=>?_⟩
 obtain ⟨hh,gg,d,t,os⟩:=s'
 obtain rfl:os=s₂.os:=I'.os
 have Cn:s₂.heap.get? C=none:=Heap.get?_none_of_le hC
 refine ⟨.ref D,H',I2.call (s:=s₂) (h':=h'') (g':=gg) (d':=d) (t':=t) (ch:=fp) (I'.base.but Cn hs'') (I'.hok.but I'.free hs'') I'.bare (fun b hb=>?_),rfl,q⟩
 obtain ⟨_,f1,_,f3,f4,f5⟩:=f2 b hb
 exact ⟨f3,f1,f4,f5⟩
end
theorem comp_range {lo:Int} {n k:Nat} {idx:List Nat} {g:CB->TG} {tt:CB->TT} {te:CB->TE} {σ:St} {Q:VK} {H1:Hp} {D:Addr} (Pv:Nat->List V->Hp->Prop) (h0:Pv 0 [] (upd H1 D (.lst [])))
  (hs:∀i ys H,i < n->Pv i ys H->∀(c:CB) (own:St),own.length=k->g c (.int (lo+i)) (own++subS σ idx) H fun σ3 H3=>
   (∃own',own'.length=k/\σ3=own'++subS σ idx)/\tt c σ3 H3 fun b H4=>if b=true then te c σ3 H4 fun y H5=>H5 D=some (.lst ys)/\ys.length < sizeLine/\Pv (i+1) (ys++[y]) (upd H5 D (.lst (ys++[y]))) else Pv (i+1) ys H4)
  (hd:∀ys H,Pv n ys H->Q (.ref D) H) :
  ∃W:Nat->Nat->List V->Hp->Prop,(∃m,W 0 m [] (upd H1 D (.lst [])))/\
   ∀i m ys H',W i m ys H'->((Itr lo n).stop i H'/\Q (.ref D) H')\/((Itr lo n).go i H'/\∃N:List V->Hp->Prop,(∀ys' H'',N ys' H''->∃m',m' < m/\W (i+1) m' ys' H'')/\∀(c:CB) (own:St),own.length=k->∀x H2,(Itr lo n).yld i H' x H2->g c x (own++subS σ idx) H2 fun σ3 H3=>
    (∃own',own'.length=k/\σ3=own'++subS σ idx)/\tt c σ3 H3 fun b H4=>if b=true then te c σ3 H4 fun y H5=>H5 D=some (.lst ys)/\ys.length < sizeLine/\N (ys++[y]) (upd H5 D (.lst (ys++[y]))) else N ys H4):=by
 refine ⟨fun i m ys H=>m=n - i/\i<=n/\Pv i ys H,⟨n,by simp,Nat.zero_le _,h0⟩,?_⟩
 rintro i m ys H ⟨rfl,hi,p⟩
 by_cases hlt:i < n
 ·refine .inr ⟨hlt,Pv (i+1),fun ys' H' p'=>⟨n - (i+1),by omega,rfl,hlt,p'⟩,fun c own ho x H' y=>?_⟩
  obtain ⟨e,y⟩:=y
  subst e y
  exact hs i ys _ hlt p c own ho
 ·have e:i=n:=by omega
  subst e
  exact .inl ⟨Nat.le_refl _,hd ys H p⟩
theorem comp_list {K:PySem.W.Frag} {a:Addr} {zs:List V} {k:Nat} {idx:List Nat} {g:CB->TG} {tt:CB->TT} {te:CB->TE} {σ:St} {Q:VK} {H1:Hp} {D:Addr} (Pv:Nat->List V->Hp->Prop) (h0:Pv 0 [] (upd H1 D (.lst [])))
  (hl:∀i ys H,i<=zs.length->Pv i ys H->SqL K H a zs)
  (hs:∀i x ys H,zs[i]? = some x->Pv i ys H->∀(c:CB) (own:St),own.length=k->g c x (own++subS σ idx) H fun σ3 H3=>
   (∃own',own'.length=k/\σ3=own'++subS σ idx)/\tt c σ3 H3 fun b H4=>if b=true then te c σ3 H4 fun y H5=>H5 D=some (.lst ys)/\ys.length < sizeLine/\Pv (i+1) (ys++[y]) (upd H5 D (.lst (ys++[y]))) else Pv (i+1) ys H4)
  (hd:∀ys H,Pv zs.length ys H->Q (.ref D) H) :
  ∃W:Nat->Nat->List V->Hp->Prop,(∃m,W 0 m [] (upd H1 D (.lst [])))/\
   ∀i m ys H',W i m ys H'->((Itl K a).stop i H'/\Q (.ref D) H')\/((Itl K a).go i H'/\∃N:List V->Hp->Prop,(∀ys' H'',N ys' H''->∃m',m' < m/\W (i+1) m' ys' H'')/\∀(c:CB) (own:St),own.length=k->∀x H2,(Itl K a).yld i H' x H2->g c x (own++subS σ idx) H2 fun σ3 H3=>
    (∃own',own'.length=k/\σ3=own'++subS σ idx)/\tt c σ3 H3 fun b H4=>if b=true then te c σ3 H4 fun y H5=>H5 D=some (.lst ys)/\ys.length < sizeLine/\N (ys++[y]) (upd H5 D (.lst (ys++[y]))) else N ys H4):=by
 refine ⟨fun i m ys H=>m=zs.length - i/\i<=zs.length/\Pv i ys H,⟨zs.length,by simp,Nat.zero_le _,h0⟩,?_⟩
 rintro i m ys H ⟨rfl,hi,p⟩
 have q:=hl i ys H hi p
 by_cases hlt:i < zs.length
 ·refine .inr ⟨⟨zs,zs[i],q,by simp [hlt]⟩,Pv (i+1),fun ys' H' p'=>⟨zs.length - (i+1),by omega,rfl,hlt,p'⟩,fun c own ho x H' y=>?_⟩
  obtain ⟨e,y⟩:=y
  subst e
  exact hs i x ys _ (y zs q) p c own ho
 ·have e:i=zs.length:=by omega
  subst e
  exact .inl ⟨⟨zs,q,Nat.le_refl _⟩,hd ys H p⟩
theorem own1 {own:St} {k:St} {x:V} (h:own.length=1):(own++k).set 0 (some x)=[some x]++k:=by
 match own,h with
 | [_],_=>rfl
theorem comp_range1 {lo:Int} {n:Nat} {idx:List Nat} {tt:CB->TT} {te:CB->TE} {σ:St} {Q:VK} {H1:Hp} {D:Addr} (Pv:Nat->List V->Hp->Prop) (h0:Pv 0 [] (upd H1 D (.lst [])))
  (hs:∀i ys H,i < n->Pv i ys H->∀(c:CB),tt c (some (.int (lo+i))::subS σ idx) H fun b H4=>if b=true then te c (some (.int (lo+i))::subS σ idx) H4 fun y H5=>H5 D=some (.lst ys)/\ys.length < sizeLine/\Pv (i+1) (ys++[y]) (upd H5 D (.lst (ys++[y]))) else Pv (i+1) ys H4)
  (hd:∀ys H,Pv n ys H->Q (.ref D) H) :
  ∃W:Nat->Nat->List V->Hp->Prop,(∃m,W 0 m [] (upd H1 D (.lst [])))/\
   ∀i m ys H',W i m ys H'->((Itr lo n).stop i H'/\Q (.ref D) H')\/((Itr lo n).go i H'/\∃N:List V->Hp->Prop,(∀ys' H'',N ys' H''->∃m',m' < m/\W (i+1) m' ys' H'')/\∀(c:CB) (own:St),own.length=1->∀x H2,(Itr lo n).yld i H' x H2->gName 0 x (own++subS σ idx) H2 fun σ3 H3=>
    (∃own',own'.length=1/\σ3=own'++subS σ idx)/\tt c σ3 H3 fun b H4=>if b=true then te c σ3 H4 fun y H5=>H5 D=some (.lst ys)/\ys.length < sizeLine/\N (ys++[y]) (upd H5 D (.lst (ys++[y]))) else N ys H4):=
 comp_range (g:=fun _=>gName 0) Pv h0 (fun i ys H hi p c own ho=>by
  show (∃own',own'.length=1/\(own++subS σ idx).set 0 _=own'++subS σ idx)/\tt c ((own++subS σ idx).set 0 _) H _
  rw [own1 ho]
  exact ⟨⟨[_],rfl,rfl⟩,hs i ys H hi p c⟩) hd
theorem comp_list1 {K:PySem.W.Frag} {a:Addr} {zs:List V} {idx:List Nat} {tt:CB->TT} {te:CB->TE} {σ:St} {Q:VK} {H1:Hp} {D:Addr} (Pv:Nat->List V->Hp->Prop) (h0:Pv 0 [] (upd H1 D (.lst [])))
  (hl:∀i ys H,i<=zs.length->Pv i ys H->SqL K H a zs)
  (hs:∀i x ys H,zs[i]? = some x->Pv i ys H->∀(c:CB),tt c (some x::subS σ idx) H fun b H4=>if b=true then te c (some x::subS σ idx) H4 fun y H5=>H5 D=some (.lst ys)/\ys.length < sizeLine/\Pv (i+1) (ys++[y]) (upd H5 D (.lst (ys++[y]))) else Pv (i+1) ys H4)
  (hd:∀ys H,Pv zs.length ys H->Q (.ref D) H) :
  ∃W:Nat->Nat->List V->Hp->Prop,(∃m,W 0 m [] (upd H1 D (.lst [])))/\
   ∀i m ys H',W i m ys H'->((Itl K a).stop i H'/\Q (.ref D) H')\/((Itl K a).go i H'/\∃N:List V->Hp->Prop,(∀ys' H'',N ys' H''->∃m',m' < m/\W (i+1) m' ys' H'')/\∀(c:CB) (own:St),own.length=1->∀x H2,(Itl K a).yld i H' x H2->gName 0 x (own++subS σ idx) H2 fun σ3 H3=>
    (∃own',own'.length=1/\σ3=own'++subS σ idx)/\tt c σ3 H3 fun b H4=>if b=true then te c σ3 H4 fun y H5=>H5 D=some (.lst ys)/\ys.length < sizeLine/\N (ys++[y]) (upd H5 D (.lst (ys++[y]))) else N ys H4):=
 comp_list (g:=fun _=>gName 0) Pv h0 hl (fun i x ys H hi p c own ho=>by
  show (∃own',own'.length=1/\(own++subS σ idx).set 0 _=own'++subS σ idx)/\tt c ((own++subS σ idx).set 0 _) H _
  rw [own1 ho]
  exact ⟨⟨[_],rfl,rfl⟩,hs i x ys H hi p c⟩) hd
end L2
end
section
namespace L2
open PySem PySem.Spec PyProof.Rows
def cutS (z:Str) (lo hi:Option Int):Str:=⟨((z.cps.toList.drop (HT.sIx z.length 0 lo)).take (HT.sIx z.length z.length hi - HT.sIx z.length 0 lo)).toArray⟩
theorem strIdx_one (lo hi:Option Int) (n:Nat):Builtin.Str.strSliceIndices lo hi 1 n=sliceRange ((HT.sIx n 0 lo:Nat):Int) ((HT.sIx n n hi:Nat):Int) 1:=by
 obtain ⟨h1,h2,h3⟩:=slice_bounds lo hi n
 rw [<-h1,<-h2]
 cases lo <;> cases hi <;> simp [Builtin.Str.strSliceIndices,sliceBounds]
theorem str_ext {a b:Str} (h:a.cps.toList=b.cps.toList):a=b:=by
 obtain ⟨x⟩:=a;obtain ⟨y⟩:=b
 have:x=y:=Array.toList_inj.mp h
 rw [this]
theorem Txt_slice_cut (x:Str) (lo hi:Option Int):Txt.slice x lo hi=cutS x lo hi:=by
 have hl:x.cps.toList.length=x.length:=by simp [Str.length]
 have e:(Builtin.Str.strSliceIndices lo hi 1 x.length).filterMap (x.cps[·]?)=(x.cps.toList.drop (HT.sIx x.length 0 lo)).take (HT.sIx x.length x.length hi - HT.sIx x.length 0 lo):=by
  rw [strIdx_one,sliceRange_one,pick_run]
 have el:(Builtin.Str.strSliceIndices lo hi 1 x.length).length=HT.sIx x.length x.length hi - HT.sIx x.length 0 lo:=by
  rw [strIdx_one,sliceRange_one,List.length_map,List.length_range]
 unfold Txt.slice
 rw [e,el]
 have hj:HT.sIx x.length x.length hi<=x.length:=HT.sIx_le _ _ (Nat.le_refl _) hi
 by_cases h:HT.sIx x.length x.length hi - HT.sIx x.length 0 lo=x.length
 ·have hb:((1:Int) == 1 && HT.sIx x.length x.length hi - HT.sIx x.length 0 lo == x.length)=true:=by rw [h];simp
  rw [if_pos hb]
  refine str_ext ?_
  unfold cutS
  by_cases hx:x.length=0
  ·have e0:x.cps.toList=[]:=List.eq_nil_of_length_eq_zero (by lia)
   rw [e0];simp
  ·have h0:HT.sIx x.length 0 lo=0:=by lia
   rw [h,h0,List.drop_zero,<-hl,List.take_length]
 ·have hb:¬((1:Int) == 1 && HT.sIx x.length x.length hi - HT.sIx x.length 0 lo == x.length)=true:=by simpa using h
  rw [if_neg hb]
  rfl
theorem isPart_val {v:Value} {o:Option Int} (h:IsPart v o):∃p:Option (Int×Tok),v=partValue p/\p.map (·.1)=o:=by
 cases h with
 | none=>exact ⟨none,rfl,rfl⟩
 | int i t=>exact ⟨some (i,t),rfl,rfl⟩
theorem small1000' {n:Nat} (h:n<=1000):n<=sizeLine:=Nat.le_of_lt (Nat.lt_of_le_of_lt h (by decide))
section
variable {X:Cx}
def rSlS:V->Option Int->Option Int->Hp->VK->Prop:=fun x lo hi H Q=>∃z,x=.str z/\z.length<=sizeLine/\Q (.str (cutS z lo hi)) H
theorem sl_str:SlR X rSlS:=by
 intro pins s σ H x v vl vu lo hi sl Q I rx hs pl pu h
 obtain ⟨z,rfl,hz,q⟩:=h
 obtain ⟨t,rfl⟩:=rx
 obtain ⟨pl',rfl,el⟩:=isPart_val pl
 obtain ⟨pu',rfl,eu⟩:=isPart_val pu
 refine ⟨"str",_,F.slot_str_getitem.lookup,typeIs_str _ _ _,wpAny_getItem_str_slice (l:=pl') (u:=pu') (st:=none) hs rfl ?_⟩
 unfold sliceMade slicePicked
 rw [el,eu]
 refine post_val_or_str ⟨?_,fun t' k=>?_⟩
 ·exact Nat.le_trans (Txt.slice_le z lo hi) hz
 ·exact ⟨.str (cutS z lo hi),H,I.tok _,⟨t',by rw [<-Txt_slice_cut];rfl⟩,q⟩
theorem strVals {ss:List Str}:∀{us:List Value},Vals (ss.map V.str) us->∃l:List (Str×Tok),us=strValues l/\l.map (·.1)=ss:=by
 induction ss with
 | nil=>intro us r;cases r;exact ⟨[],rfl,rfl⟩
 | cons z ss ih=>
  intro us r
  rw [List.map_cons] at r
  cases r with
  | cons r1 r2=>
   obtain ⟨t,rfl⟩:=r1
   obtain ⟨l,rfl,e⟩:=ih r2
   exact ⟨(z,t)::l,rfl,by rw [List.map_cons,e]⟩
def rJoin (K:PySem.W.Frag):V->List V->Hp->VK->Prop:=fun x vs H Q=>∃sep a ss,x=.str sep/\vs=[.ref a]/\SqL K H a (ss.map V.str)/\JoinOk sep ss=true/\Q (.str (Txt.join sep ss)) H
theorem mt_join:MtR X "str.join" (rJoin X.K):=by
 intro pins s σ H x vs v us Q I rx rv h
 obtain ⟨sep,a,ss,rfl,rfl,hq,hok,q⟩:=h
 obtain ⟨t,rfl⟩:=rx
 obtain ⟨u,rfl,ru⟩:=rv.one
 cases ru
 obtain ⟨its,r,pl,hz⟩:=I.list hq
 obtain ⟨l,rfl,e⟩:=strVals r
 exact SC.join pl.isList e hok fun t' k=>⟨.str (Txt.join sep ss),H,I.tok _,⟨t',rfl⟩,q⟩
theorem strsAre_of {ss:List Str}:∀{us:List Value},Vals (ss.map V.str) us->StrsAre us ss:=by
 induction ss with
 | nil=>intro us r;cases r;exact .nil
 | cons z ss ih=>
  intro us r
  rw [List.map_cons] at r
  cases r with
  | cons r1 r2=>obtain ⟨t,rfl⟩:=r1;exact .cons z t (ih r2)
theorem vals_strs:∀{us:List Value} {ss:List Str},StrsAre us ss->Vals (ss.map V.str) us
 | _,_,.nil=>.nil
 | _,_,.cons x t r=>.cons ⟨t,rfl⟩ (vals_strs r)
def rSorted (K:PySem.W.Frag):List V->Hp->VK->Prop:=fun vs H Q=>∃a ss,vs=[.ref a]/\SqL K H a (ss.map V.str)/\ss.length < 64/\
 ∀ss':List Str,ss'.Perm ss->sortedS ss'=true->∀p,H p=none->Q (.ref p) (upd H p (.lst (ss'.map V.str)))
theorem call_sorted:CallR X (.builtin "sorted") (rSorted X.K):=by
 intro pins s σ H vs us Q I rv h
 obtain ⟨a,ss,rfl,hq,h64,q⟩:=h
 obtain ⟨u,rfl,ru⟩:=vals1 rv
 cases ru
 obtain ⟨its,r,pl,hz⟩:=I.list hq
 have hl:=r.length
 rw [List.length_map] at hl
 refine sorted_strs pl.isList (strsAre_of r) (by lia) fun out ss' h1 h2 h3=>?_
 obtain ⟨c,hc⟩:=sortedAll_at s.heap its out
 have hc':(sortedAll s.heap its out).get? (s.heap.objs.size+1)=some { cls:=.type "list",data:=.seq out.toList.toArray c }:=hc
 have hn:H (s.heap.objs.size+1)=none:=I.hok.fresh (Nat.le_succ _)
 refine ⟨.ref (s.heap.objs.size+1),_,I.laid (t':=s.toks) (o:=.lst (ss'.map V.str)) (fun b ob e=>sortedAll_old e) (Nat.le_succ _) ?_,rfl,q ss' h2 h3 _ hn⟩
 have hlen:ss'.length=ss.length:=h2.length_eq
 exact ⟨by rw [List.length_map,hlen];exact small1000' (by lia),out.toList,c,vals_strs h1,hc'⟩
theorem call_isi (c:Value):CallR X (.builtin "isinstance") (fun vs H Q=>∃x t b n,vs=[x,.ty n]/\TyOf X.K H x t/\PySem.W.kitOne X.K t (.type n)=some b/\Q (.bl b) H):=by
 intro pins s σ H vs us Q I rv h
 obtain ⟨x,t,b,n,rfl,ty,e,q⟩:=h
 obtain ⟨u,v,rfl,ru,rv'⟩:=rv.two
 obtain rfl:v=Value.type n:=rv'
 exact isinst_ok I ru ty e fun tk=>⟨.bl b,H,I.tok _,rfl,q⟩
def eqVs (xs ys:List V):Bool:=xs.length == ys.length && (List.range xs.length).all fun j=>eqV (xs.getD j .non) (ys.getD j .non)
theorem call_dictD:CallR X (.type "dict") (fun vs H Q=>∃a kvs,vs=[.ref a]/\H a=some (.dK kvs)/\∀p,H p=none->Q (.ref p) (upd H p (.dK kvs))):=by
 intro pins s σ H vs us Q I rv h
 obtain ⟨a,kvs,rfl,hq,q⟩:=h
 obtain ⟨u,rfl,ru⟩:=vals1 rv
 cases ru
 exact d_copyOf I (.inl hq) fun p s' hp I'=>⟨.ref p,_,I',rfl,q p hp⟩
end
section
variable {X:Cx} {elt target iter:Expr} {ifs:List Expr} {scope:Scope} {pos spos py:Pos} {xs:List Str} {idx:List Nat} {wi:TI} {g:CB->TG} {tt:CB->TT} {te:CB->TE}
theorem ps_setC {i:Nat} {y:Str} (hN:X.N.Nodup) (hi0:X.N[i]? = some y) (hy:X.env.scope.names.lookup y=some .local) (hc:X.calm=true) (S:CScope X scope xs idx) (hi:PI X target iter wi)
  (hg:∀c,PG (cxC X scope (xs++subN X.N idx) c) target (g c)) (ht:∀c,PIfs (cxC X scope (xs++subN X.N idx) c) ifs (tt c)) (he:∀c,PE (cxC X scope (xs++subN X.N idx) c) elt (te c))
  (hsw:swapsWith (.ListComp elt [⟨target,iter,ifs,0⟩] scope pos) (some (.Name y py)) spos.line X.env=pure true:=by rfl)
  (hs:∀x,foldedSetIterable iter X.env x=pure x:=by intro _;rfl):PS X (.Assign [.Name y py] (.ListComp elt [⟨target,iter,ifs,0⟩] scope pos) spos) (tAsg (tComp wi xs.length idx g tt te) (gName i)):=by
 intro pins s σ H D I h
 have hclos:closureFor scope X.env=pure (closL X.env scope.names []):=closureFor_closL fun y hy e=>I.ok.has y.1 (S.free y hy e).2
 rw [exec_Assign_Name_used _ _ _ _ hsw]
 refine wpAny_bind (wpAny_standAt (wpAny_bind ?_))
 show wpAny _ X.A (do let _ <-comprehension (.ListComp elt [⟨target,iter,ifs,0⟩] scope pos) scope X.env _ (newList []) false (eval iter X.env) (some (assign (.Name y py) X.env))) _ _ s
 refine wpAny_bind (wpAny_mono (wpAny_comprehension_free (use:=some (assign (.Name y py) X.env)) (Q:=fun _ s'=>SP X pins D .next s') rfl hs hclos S.kind S.loc
  (thn (hi pins s σ H _ I h) fun xv s₁ h₁=>thn h₁ fun itv s₂ h₂=>?_)) (fun _ s' hq=>wpAny_pure (wpAny_pure hq)) fun _ _ e=>e)
 obtain ⟨it,fp,tn,J,H2,e,I2,T,st2,f2,hW⟩:=h₂
 subst e
 refine comp_run (Q:=fun v H'=>gName i v σ H' D.nx) (RR:=fun acc C=>compPost (model X.prog X.w) X.A X.xe (some (assign (.Name y py) X.env)) (fun _ s'=>SP X pins D .next s') acc C) hc S hg ht he I2 T st2 f2 hW ?_
 intro DD C σ' H' s' hC I' q
 show wpAny _ X.A (assign (.Name y py) X.env (.ref DD)) _ _ _
 obtain ⟨hh,gg,d,t,os⟩:=s'
 obtain rfl:os=s₂.os:=I'.os
 have Cn:s₂.heap.get? C=none:=Heap.get?_none_of_le hC
 have I3:Inv X pins σ H' { s₂ with heap:=hh,gens:=gg,drawn:=d,toks:=t }:=I2.call (s:=s₂) (h':=hh) (g':=gg) (d':=d) (t':=t) (ch:=fp) (I'.base.but Cn (Heap.SameBut.refl _ _)) I'.hok I'.bare (fun b hb=>by
  obtain ⟨_,f1,_,f3,f4,f5⟩:=f2 b hb
  exact ⟨f3,f1,f4,f5⟩)
 obtain ⟨m',hn,_⟩:=I'.loc
 have hLC:X.env.locals≠C:=Nat.ne_of_lt (Nat.lt_of_lt_of_le I2.lt hC)
 refine wpAny_assign_Name (store_ok2 I3 hN hi0 (.inl hy) (v:=.ref DD) rfl (fun s'' I4 ⟨a,hs4,ha⟩=>?_) (.inr hy))
 have haC:C≠a:=by
  rcases ha with e | e
  ·rw [e];exact Ne.symm hLC
  ·obtain ⟨v,q⟩:=I2.cell y a e
   exact Nat.ne_of_gt (Nat.lt_of_lt_of_le q.lt hC)
 refine ⟨m',hn.sameBut hs4 haC,fun h3 hs3=>?_⟩
 obtain ⟨hh4,gg4,d4,t4,os4⟩:=s''
 have I5:Inv X pins (σ.set i (some (.ref DD))) H' { heap:=h3,gens:=gg4,drawn:=d4,toks:=t4,os:=os4 }:=
  I4.turned (s:={ heap:=hh4,gens:=gg4,drawn:=d4,toks:=t4,os:=os4 }) (h':=h3) (t':=t4) (it:=C) (fun b o hb e=>(hs3.2 b hb).trans e) I'.free (Ne.symm hLC) (.inr (Nat.le_trans I2.sz hC)) (fun x c e z=>by
   obtain ⟨v,q⟩:=I2.cell x c e
   exact absurd (Nat.lt_of_lt_of_le q.lt hC) (by rw [z];exact Nat.lt_irrefl _)) (fun p hp z=>by
   have:=(I2.pin p hp).1
   rw [z,Cn] at this;cases this)
 exact ⟨_,H',I5,q⟩
end
end L2
end
section
namespace L2
open PySem PySem.Spec PyProof.Rows
def csOk (osc:Scope) (N:List Str) (scope:Scope) (idx:List Nat):Bool:=
 scope.kind == .function && scope.names.all (fun y=>y.2 != .cell) && scope.names.all (fun y=>y.2 != .local || scope.names.lookup y.1 == some .local) &&
 scope.names.all (fun y=>y.2 != .free || (scope.names.lookup y.1 == some .free && (osc.names.lookup y.1 == some .cell || osc.names.lookup y.1 == some .free))) &&
 idx.all (fun i=>match N[i]? with | some y=>scope.names.lookup y == some .free | none=>false)
theorem cscope_of {X:Cx} {scope:Scope} {xs:List Str} {idx:List Nat} {osc:Scope} {N:List Str} (h:csOk osc N scope idx=true) (e1:X.env.scope=osc:=by rfl) (e2:X.N=N:=by rfl):CScope X scope xs idx:=by
 unfold csOk at h
 simp only [Bool.and_eq_true] at h
 refine hide fun gG hG=>?_
 obtain ⟨⟨⟨⟨h1,h2⟩,h3⟩,h4⟩,h5⟩:=h
 refine hG ?_
 refine ⟨by simpa using h1,fun y hy e=>?_,fun y hy e=>?_,fun y hy e=>?_,fun i hi=>?_⟩
 ·have:=List.all_eq_true.mp h2 y hy
  rw [e] at this;exact absurd this (by decide)
 ·have:=List.all_eq_true.mp h3 y hy
  rw [e] at this;simpa using this
 ·have:=List.all_eq_true.mp h4 y hy
  rw [e] at this
  have t:(scope.names.lookup y.1 == some NameKind.free && (osc.names.lookup y.1 == some .cell || osc.names.lookup y.1 == some .free))=true:=by simpa using this
  rw [Bool.and_eq_true,Bool.or_eq_true] at t
  refine ⟨by simpa using t.1,?_⟩
  show X.env.scope.names.lookup y.1=_\/X.env.scope.names.lookup y.1=_
  rw [e1]
  exact t.2.imp (by simp) (by simp)
 ·have:=List.all_eq_true.mp h5 i hi
  rw [e2]
  cases e:N[i]? with
  | none=>rw [e] at this;cases this
  | some y=>rw [e] at this;exact ⟨y,rfl,by simpa using this⟩
theorem atI_0 {α:Type} (a:α) (xs:List α):atI (a::xs) 0=some a:=atI_nat (j:=0) rfl
theorem atI_1 {α:Type} (a b:α) (xs:List α):atI (a::b::xs) 1=some b:=atI_nat (j:=1) rfl
theorem atI_2 {α:Type} (a b c:α) (xs:List α):atI (a::b::c::xs) 2=some c:=atI_nat (j:=2) rfl
theorem atI_3 {α:Type} (a b c d:α) (xs:List α):atI (a::b::c::d::xs) 3=some d:=atI_nat (j:=3) rfl
theorem atI_4 {α:Type} (a b c d e:α) (xs:List α):atI (a::b::c::d::e::xs) 4=some e:=atI_nat (j:=4) rfl
theorem atI_5 {α:Type} (a b c d e f:α) (xs:List α):atI (a::b::c::d::e::f::xs) 5=some f:=atI_nat (j:=5) rfl
theorem ixN6_1:ixN 6 1=some 1:=rfl
theorem ixN6_2:ixN 6 2=some 2:=rfl
theorem ixN6_3:ixN 6 3=some 3:=rfl
theorem ixN6_4:ixN 6 4=some 4:=rfl
theorem ixN6_5:ixN 6 5=some 5:=rfl
theorem cmulR (i:Int):CMul i 48271/\CMul i 40693/\CMul i 3/\CMul i 4294967296:=⟨.inr ⟨by decide,by decide⟩,.inr ⟨by decide,by decide⟩,.inr ⟨by decide,by decide⟩,.inr ⟨by decide,by decide⟩⟩
theorem cmul1 (i:Int):CMul i 48271:=(cmulR i).1
theorem cmul2 (i:Int):CMul i 40693:=(cmulR i).2.1
theorem cmul3 (i:Int):CMul i 3:=(cmulR i).2.2.1
theorem cmul4 (i:Int):CMul i 4294967296:=(cmulR i).2.2.2
theorem cmul5 (i:Int):CMul 5 i/\CMul 3 i/\CMul 7 i/\CMul 10 i:=⟨.inl ⟨by decide,by decide⟩,.inl ⟨by decide,by decide⟩,.inl ⟨by decide,by decide⟩,.inl ⟨by decide,by decide⟩⟩
theorem cmul5a (i:Int):CMul 5 i:=(cmul5 i).1
theorem cmul5b (i:Int):CMul 3 i:=(cmul5 i).2.1
theorem cmul5c (i:Int):CMul 7 i:=(cmul5 i).2.2.1
theorem cmul5d (i:Int):CMul 10 i:=(cmul5 i).2.2.2
theorem cpow18:CPow 10 18:=⟨by decide,by decide,by decide⟩
def tCut (t u:TS):TS:=fun D σ H=>∃N:St->Hp->Prop,t { D with nx:=N } σ H/\∀σ' H',N σ' H'->u D σ' H'
theorem pss_cut {X:Cx} {st:Stmt} {rest:List Stmt} {t u:TS} (h1:PS X st t) (h2:PSs X rest u):PSs X (st::rest) (tCut t u):=by
 intro pins s σ H D I ⟨N,hn,hu⟩
 refine wpAny_execs_cons (thn (h1 pins s σ H { D with nx:=N } I hn) fun f s1 q=>?_)
 cases f with
 | next=>
  refine hide fun gG hG=>?_
  obtain ⟨σ',H',I',q⟩:=q
  refine hG ?_
  exact h2 pins s1 σ' H' D I' (hu σ' H' q)
 | ret v=>exact q
 | brk=>exact q
 | cont=>exact q
theorem atI_ints {ns:List Int} {k:Int} (h0:0<=k) (h:k < (ns.length:Int)):∃v:Int,atI (ns.map V.int) k=some (.int v):=by
 have hk:k.toNat < ns.length:=by lia
 have ek:k=((k.toNat:Nat):Int):=by lia
 have q:atI (ns.map V.int) ((k.toNat:Nat):Int)=some (.int ns[k.toNat]):=atI_nat (by rw [List.getElem?_map,List.getElem?_eq_getElem hk] <;> rfl)
 rw [<-ek] at q
 exact ⟨_,q⟩
theorem atI_of {α:Type} {xs:List α} {k:Int} (h0:0<=k) (h:k < (xs.length:Int)):∃v,atI xs k=some v/\xs[k.toNat]? = some v:=by
 have hk:k.toNat < xs.length:=by lia
 have ek:k=((k.toNat:Nat):Int):=by lia
 have q:atI xs ((k.toNat:Nat):Int)=some xs[k.toNat]:=atI_nat (List.getElem?_eq_getElem hk)
 rw [<-ek] at q
 exact ⟨_,q,List.getElem?_eq_getElem hk⟩
section
variable {X:Cx}
theorem OpR.imp {f:Value->Value->Sem Value} {r r':R2} (h:OpR X f r) (i:∀x y H Q,r' x y H Q->r x y H Q):OpR X f r':=fun pins s σ H x y v u Q I rx ry q=>h pins s σ H x y v u Q I rx ry (i _ _ _ _ q)
theorem IxR.imp {r r':R2} (h:IxR X r) (i:∀x y H Q,r' x y H Q->r x y H Q):IxR X r':=fun value slice pins s σ H x y v u Q I rx ry q hs=>h value slice pins s σ H x y v u Q I rx ry (i _ _ _ _ q) hs
theorem CallR.imp {f:Value} {r r':List V->Hp->VK->Prop} (h:CallR X f r) (i:∀x H Q,r' x H Q->r x H Q):CallR X f r':=fun pins s σ H vs us Q I rv q=>h pins s σ H vs us Q I rv (i _ _ _ q)
theorem MtR.imp {id:String} {r r':V->List V->Hp->VK->Prop} (h:MtR X id r) (i:∀x xs H Q,r' x xs H Q->r x xs H Q):MtR X id r':=fun pins s σ H x xs v us Q I rx rv q=>h pins s σ H x xs v us Q I rx rv (i _ _ _ _ q)
theorem SlR.imp {r r':V->Option Int->Option Int->Hp->VK->Prop} (h:SlR X r) (i:∀x lo hi H Q,r' x lo hi H Q->r x lo hi H Q):SlR X r':=fun pins s σ H x v vl vu lo hi sl Q I rx hs pl pu q=>h pins s σ H x v vl vu lo hi sl Q I rx hs pl pu (i _ _ _ _ _ q)
theorem sqL_of {K:PySem.W.Frag} {H:Hp} {a:Addr} {xs:List V} (h:H a=some (.lst xs)):SqL K H a xs:=SqL.of h
theorem sqT_of {K:PySem.W.Frag} {H:Hp} {a:Addr} {xs:List V} (h:H a=some (.tup xs)):SqT K H a xs:=SqT.of h
def qIxL:R2:=fun x y H Q=>∃p i,x=.ref p/\y=.int i/\∃xs,H p=some (.lst xs)/\∃v,atI xs i=some v/\Q v H
theorem ix_l:IxR X qIxL:=ix_list.imp fun x y H Q ⟨p,i,e1,e2,xs,h,v,e3,q⟩=>⟨p,xs,i,v,e1,e2,sqL_of h,e3,q⟩
def qIxT:R2:=fun x y H Q=>∃p i,x=.ref p/\y=.int i/\∃xs,H p=some (.tup xs)/\∃v,atI xs i=some v/\Q v H
theorem ix_t:IxR X qIxT:=ix_tup.imp fun x y H Q ⟨p,i,e1,e2,xs,h,v,e3,q⟩=>⟨p,xs,i,v,e1,e2,sqT_of h,e3,q⟩
def qIxS:R2:=fun x y H Q=>∃z i,x=.str z/\y=.int i/\z.length<=sizeLine/\∃c,atI z.cps.toList i=some c/\Q (.str ⟨#[c]⟩) H
theorem ix_s:IxR X qIxS:=ix_str.imp fun x y H Q ⟨z,i,e1,e2,hz,c,e3,q⟩=>⟨z,i,c,e1,e2,hz,e3,q⟩
def qSlL:V->Option Int->Option Int->Hp->VK->Prop:=fun x lo hi H Q=>∃a,x=.ref a/\∃xs,H a=some (.lst xs)/\∀p,H p=none->Q (.ref p) (upd H p (.lst (cutV xs lo hi)))
def qSlT:V->Option Int->Option Int->Hp->VK->Prop:=fun x lo hi H Q=>∃a,x=.ref a/\∃xs,H a=some (.tup xs)/\¬(HT.sIx xs.length 0 lo=0/\HT.sIx xs.length xs.length hi=xs.length)/\∀p,H p=none->Q (.ref p) (upd H p (.tup (cutV xs lo hi)))
theorem sl_t:SlR X qSlT:=sl_tup.imp fun x lo hi H Q ⟨a,e,xs,h,n,q⟩=>⟨a,xs,e,sqT_of h,n,q⟩
def qLenL:List V->Hp->VK->Prop:=fun vs H Q=>∃p,vs=[.ref p]/\∃xs,H p=some (.lst xs)/\Q (.int xs.length) H
theorem call_lenL:CallR X (.builtin "len") qLenL:=call_len_seq.imp fun x H Q ⟨p,e,xs,h,q⟩=>⟨p,xs,e,.inl (sqL_of h),q⟩
def qLenT:List V->Hp->VK->Prop:=fun vs H Q=>∃p,vs=[.ref p]/\∃xs,H p=some (.tup xs)/\Q (.int xs.length) H
theorem call_lenT:CallR X (.builtin "len") qLenT:=call_len_seq.imp fun x H Q ⟨p,e,xs,h,q⟩=>⟨p,xs,e,.inr (sqT_of h),q⟩
def qListL:List V->Hp->VK->Prop:=fun vs H Q=>∃p,vs=[.ref p]/\∃xs,H p=some (.lst xs)/\∀l,H l=none->Q (.ref l) (upd H l (.lst xs))
theorem call_listL:CallR X (.type "list") qListL:=call_list_of.imp fun x H Q ⟨p,e,xs,h,q⟩=>⟨p,xs,e,.inl (sqL_of h),q⟩
def qListT:List V->Hp->VK->Prop:=fun vs H Q=>∃p,vs=[.ref p]/\∃xs,H p=some (.tup xs)/\∀l,H l=none->Q (.ref l) (upd H l (.lst xs))
def qTupleL:List V->Hp->VK->Prop:=fun vs H Q=>∃p,vs=[.ref p]/\∃xs,H p=some (.lst xs)/\∀l,H l=none->Q (.ref l) (upd H l (.tup xs))
def qListD:List V->Hp->VK->Prop:=fun vs H Q=>∃a,vs=[.ref a]/\∃kvs,H a=some (.dK kvs)/\∀p,H p=none->Q (.ref p) (upd H p (.lst (kvs.map fun kv=>kV kv.1)))
def qDictD:List V->Hp->VK->Prop:=fun vs H Q=>∃a,vs=[.ref a]/\∃kvs,H a=some (.dK kvs)/\∀p,H p=none->Q (.ref p) (upd H p (.dK kvs))
theorem call_dictDK:CallR X (.type "dict") qDictD:=call_dictD.imp fun x H Q ⟨p,e,xs,h,q⟩=>⟨p,xs,e,h,q⟩
def qSorted:List V->Hp->VK->Prop:=fun vs H Q=>∃a,vs=[.ref a]/\∃ss:List Str,H a=some (.lst (ss.map V.str))/\ss.length < 64/\
 ∀ss':List Str,ss'.Perm ss->sortedS ss'=true->∀p,H p=none->Q (.ref p) (upd H p (.lst (ss'.map V.str)))
theorem call_sortedS:CallR X (.builtin "sorted") qSorted:=call_sorted.imp fun x H Q ⟨p,e,ss,h,n,q⟩=>⟨p,ss,e,sqL_of h,n,q⟩
def qJoin:V->List V->Hp->VK->Prop:=fun x vs H Q=>∃sep a,x=.str sep/\vs=[.ref a]/\∃ss:List Str,H a=some (.lst (ss.map V.str))/\JoinOk sep ss=true/\Q (.str (Txt.join sep ss)) H
theorem mt_joinS:MtR X "str.join" qJoin:=mt_join.imp fun x vs H Q ⟨sep,a,e1,e2,ss,h,n,q⟩=>⟨sep,a,ss,e1,e2,sqL_of h,n,q⟩
def qInL (neg:Bool):R2:=fun x y H Q=>∃p,y=.ref p/\∃xs,H p=some (.lst xs)/\flatV x=true/\xs.all flatV=true/\Q (.bl (if neg then !inV x xs else inV x xs)) H
theorem op_notInL:OpR X (compareOp .NotIn) (qInL true):=op_notIn_seq.imp fun x y H Q ⟨p,e,xs,h,f1,f2,q⟩=>⟨p,xs,e,.inl (sqL_of h),f1,f2,q⟩
def qInT (neg:Bool):R2:=fun x y H Q=>∃p,y=.ref p/\∃xs,H p=some (.tup xs)/\flatV x=true/\xs.all flatV=true/\Q (.bl (if neg then !inV x xs else inV x xs)) H
def qEqL (neg:Bool):R2:=fun x y H Q=>∃a b,x=.ref a/\y=.ref b/\∃xs,H a=some (.lst xs)/\∃ys,H b=some (.lst ys)/\xs.all flatV=true/\ys.all flatV=true/\Q (.bl (if neg then !eqVs xs ys else eqVs xs ys)) H
def qIsi (K:PySem.W.Frag):List V->Hp->VK->Prop:=fun vs H Q=>∃x n,vs=[x,.ty n]/\∃t,TyOf K H x t/\∃b,PySem.W.kitOne K t (.type n)=some b/\Q (.bl b) H
theorem call_isiT:CallR X (.builtin "isinstance") (qIsi X.K):=(call_isi .none).imp fun x H Q ⟨y,n,e,t,ty,b,h,q⟩=>⟨y,t,b,n,e,ty,h,q⟩
def qSet:V->V->V->Hp->(Hp->Prop)->Prop:=fun o i v H Q=>∃p k,o=.ref p/\i=.int k/\∃xs,H p=some (.lst xs)/\∃j,ixN xs.length k=some j/\Q (upd H p (.lst (xs.set j v)))
theorem set_l:PSet X qSet:=fun pins s σ H o i v ov iv u Q I ro ri rv ⟨p,k,e1,e2,xs,h,j,hj,q⟩=>set_list pins s σ H o i v ov iv u Q I ro ri rv ⟨p,xs,k,j,e1,e2,h,hj,q⟩
theorem get_l:PGet X (fun o i H Q=>qIxL o i H Q):=by
 intro pins s σ H o i ov iv Q I ro ri h
 refine hide fun gG hG=>?_
 obtain ⟨p,i,rfl,rfl,xs,hp,z,he,q⟩:=h
 refine hG ?_
 cases ro
 refine hide fun gG hG=>?_
 obtain ⟨t,rfl⟩:=ri
 obtain ⟨its,r,pl,hz⟩:=I.list (sqL_of hp)
 obtain ⟨j,h1,h2,h3,h4,h5⟩:=atI_get he
 obtain ⟨w,ew,rw'⟩:=r.get h2
 refine hG ?_
 have hl:=r.length
 have hn:=line63
 have fin:EP X pins σ Q w s:=⟨z,H,I,rw',q⟩
 by_cases h0:0<=i
 ·have hj:i.toNat=j:=by
   rw [seqIndex_of h0 h5] at h1
   exact Option.some.inj h1
  exact wpAny_getItem_list pl.isList h0 (by lia) (by rw [hj];simpa using ew) fin
 ·have hj:(i+(its.toArray.size:Int)).toNat=j:=by
   rw [seqIndex_neg (by lia) h4] at h1
   rw [List.size_toArray,<-hl]
   exact Option.some.inj h1
  exact wpAny_getItem_list_neg pl.isList (by lia) (by rw [List.size_toArray] <;> lia) (by lia) (by rw [hj];simpa using ew) fin
end
end L2
namespace L2
open PySem PySem.Spec PyProof.Rows
def txtOf:Expr->Option Str
 | .Constant (.str x) _ _=>some x
 | _=>none
def txtsOf (es:List Expr):List Str:=es.filterMap txtOf
def tTxts (es:List Expr):TA:=fun _ H Q=>Q ((txtsOf es).map V.str) H
theorem txt_is {e:Expr} (h:(txtOf e).isSome=true):∃x j p,e=.Constant (.str x) j p:=by
 cases e with
 | Constant v j p=>
  cases v with
  | str x=>exact ⟨x,j,p,rfl⟩
  | _=>exact Bool.noConfusion h
 | _=>exact Bool.noConfusion h
theorem of1 {α:Type} {C:List α->Prop} (h:∀a,C [a]):∀us:List α,us.length=1->C us
 | [a],_=>h a
theorem of2 {α:Type} {C:List α->Prop} (h:∀a b,C [a,b]):∀us:List α,us.length=2->C us
 | [a,b],_=>h a b
theorem of3 {α:Type} {C:List α->Prop} (h:∀a b c,C [a,b,c]):∀us:List α,us.length=3->C us
 | [a,b,c],_=>h a b c
theorem pa_txts {X:Cx}:∀{es:List Expr},(es.all fun e=>(txtOf e).isSome)=true->PA X es (tTxts es)
 | [],_=>fun pos pins s σ H Q I h=>pa_nil pos pins s σ H Q I h
 | e::es,h=>by
  rw [List.all_cons,Bool.and_eq_true] at h
  have ih:=pa_txts (X:=X) h.2
  refine hide fun gG hG=>?_
  obtain ⟨x,j,p,rfl⟩:=txt_is h.1
  refine hG ?_
  have c:=pa_cons (X:=X) (e:=.Constant (.str x) j p) (te:=tC (.str x)) pe_str ih rfl
  exact fun pos pins s σ H Q I q=>c pos pins s σ H Q I q
end L2
end
section
namespace L2
open PySem PySem.Spec PyProof.Rows
structure HC (X:Cx) (N:List Str) (sc:Scope):Prop where
 n:X.N=N
 s:X.env.scope=sc
def okV (N:List Str) (sc:Scope) (i:Nat) (x:Str):Bool:=
 N[i]? == some x && (sc.names.lookup x == some .local || sc.names.lookup x == some .cell || sc.names.lookup x == some .free) && !(x == ("__debug__" : Str)) && !(x == ("__classdict__" : Str))
def okL (N:List Str) (sc:Scope) (i:Nat) (x:Str):Bool:=N[i]? == some x && (sc.names.lookup x == some .local || sc.names.lookup x == some .cell)
def okL1 (N:List Str) (sc:Scope) (i:Nat) (x:Str):Bool:=N[i]? == some x && sc.names.lookup x == some .local
def okG (sc:Scope) (x:Str):Bool:=sc.names.lookup x == some .globalImplicit
section
variable {X:Cx} {N:List Str} {sc:Scope} {x:Str} {pos:Pos}
theorem pvk (hc:HC X N sc) (i:Nat) (h:okV N sc i x=true):PE X (.Name x pos) (tVar i):=by
 unfold okV at h
 simp only [Bool.and_eq_true,Bool.or_eq_true,beq_iff_eq,Bool.not_eq_true'] at h
 obtain ⟨⟨⟨h1,h2⟩,h3⟩,h4⟩:=h
 refine pe_var (by rw [hc.n];exact h1) ?_ h3 h4
 unfold Vis
 rw [hc.s]
 rcases h2 with (h2 | h2) | h2
 ·exact .inl h2
 ·exact .inr (.inl h2)
 ·exact .inr (.inr h2)
theorem glk (hc:HC X N sc) (h:okG sc x=true):Gl X x:=by
 show X.env.scope.names.lookup x=some .globalImplicit
 rw [hc.s];simpa [okG] using h
theorem okL_loc (hc:HC X N sc) {i:Nat} (h:okL N sc i x=true):X.N[i]? = some x/\Loc X.env.scope x:=by
 unfold okL at h
 simp only [Bool.and_eq_true,Bool.or_eq_true,beq_iff_eq] at h
 refine ⟨by rw [hc.n];exact h.1,?_⟩
 unfold Loc;rw [hc.s];exact h.2
theorem okL1_loc (hc:HC X N sc) {i:Nat} (h:okL1 N sc i x=true):X.N[i]? = some x/\X.env.scope.names.lookup x=some .local:=by
 unfold okL1 at h
 simp only [Bool.and_eq_true,beq_iff_eq] at h
 exact ⟨by rw [hc.n];exact h.1,by rw [hc.s];exact h.2⟩
theorem pgk (hc:HC X N sc) (nd:N.Nodup) (hf:∀x,X.fn x=true) (i:Nat) (h:okL N sc i x=true):PG X (.Name x pos) (gName i):=
 pg_name (by rw [hc.n];exact nd) (okL_loc hc h).1 (okL_loc hc h).2 (.inl (hf x))
theorem pgb (hc:HC X N sc) (nd:N.Nodup) (i:Nat) (h:okL1 N sc i x=true):PG X (.Name x pos) (gName i):=
 pg_name (by rw [hc.n];exact nd) (okL1_loc hc h).1 (.inl (okL1_loc hc h).2) (.inr (okL1_loc hc h).2)
theorem psk_set {e:Expr} {te:TE} {pos':Pos} (hc:HC X N sc) (nd:N.Nodup) (hf:∀x,X.fn x=true) (i:Nat) (h:okL N sc i x=true) (he:PE X e te) (hs:swapsWith e (some (.Name x pos')) pos.line X.env=pure false:=by rfl) :
  PS X (.Assign [.Name x pos'] e pos) (tAsg te (gName i)):=
 ps_set (by rw [hc.n];exact nd) (okL_loc hc h).1 (okL_loc hc h).2 he hs (.inl (hf x))
theorem psk_aug {e:Expr} {te:TE} {op:Operator} {ti:TIp} {pos':Pos} (hc:HC X N sc) (nd:N.Nodup) (hf:∀x,X.fn x=true) (i:Nat) (h:okL N sc i x=true) (he:PE X e te) (ho:PIp X op ti):PS X (.AugAssign (.Name x pos') op e pos) (tAug i te ti):=
 ps_aug (by rw [hc.n];exact nd) (okL_loc hc h).1 (okL_loc hc h).2 he ho (.inl (hf x))
end
def relabelS (scope osc:Scope):Scope:=
 { scope with names:=scope.names.map fun (n,k)=>if (k == .free && osc.kind == .function && osc.names.lookup n == some .cell) then (n,.cell) else (n,k) }
theorem relabelS_eq {scope osc:Scope} {env:Env} (h:env.scope=osc):relabel scope env=relabelS scope osc:=by
 subst h;rfl
theorem hc_block {X:Cx} {N:List Str} {osc scope:Scope} {xs:List Str} {idx:List Nat} (hc:HC X N osc) (c:CB):HC (cxC X scope (xs++subN X.N idx) c) (xs++subN N idx) (relabelS scope osc):=
 ⟨by show xs++subN X.N idx=_;rw [hc.n],relabelS_eq hc.s⟩
section
variable {X:Cx} {N:List Str} {osc:Scope} {elt target iter:Expr} {ifs:List Expr} {scope:Scope} {pos spos py:Pos} {xs:List Str} {idx:List Nat} {wi:TI} {g:CB->TG} {tt:CB->TT} {te:CB->TE}
theorem pek_comp (hc:HC X N osc) (xs:List Str) (idx:List Nat) (hcalm:X.calm=true) (S:csOk osc N scope idx=true) (hi:PI X target iter wi)
  (hg:∀c,HC (cxC X scope (xs++subN X.N idx) c) (xs++subN N idx) (relabelS scope osc)->PG (cxC X scope (xs++subN X.N idx) c) target (g c))
  (ht:∀c,HC (cxC X scope (xs++subN X.N idx) c) (xs++subN N idx) (relabelS scope osc)->PIfs (cxC X scope (xs++subN X.N idx) c) ifs (tt c))
  (he:∀c,HC (cxC X scope (xs++subN X.N idx) c) (xs++subN N idx) (relabelS scope osc)->PE (cxC X scope (xs++subN X.N idx) c) elt (te c))
  (hs:∀x,foldedSetIterable iter X.env x=pure x:=by intro _;rfl):PE X (.ListComp elt [⟨target,iter,ifs,0⟩] scope pos) (tComp wi xs.length idx g tt te):=
 pe_comp hcalm (cscope_of S hc.s hc.n) hi (fun c=>hg c (hc_block hc c)) (fun c=>ht c (hc_block hc c)) (fun c=>he c (hc_block hc c)) hs
theorem psk_comp {y:Str} (hc:HC X N osc) (nd:N.Nodup) (i:Nat) (h:okL1 N osc i y=true) (xs:List Str) (idx:List Nat) (hcalm:X.calm=true) (S:csOk osc N scope idx=true) (hi:PI X target iter wi)
  (hg:∀c,HC (cxC X scope (xs++subN X.N idx) c) (xs++subN N idx) (relabelS scope osc)->PG (cxC X scope (xs++subN X.N idx) c) target (g c))
  (ht:∀c,HC (cxC X scope (xs++subN X.N idx) c) (xs++subN N idx) (relabelS scope osc)->PIfs (cxC X scope (xs++subN X.N idx) c) ifs (tt c))
  (he:∀c,HC (cxC X scope (xs++subN X.N idx) c) (xs++subN N idx) (relabelS scope osc)->PE (cxC X scope (xs++subN X.N idx) c) elt (te c))
  (hsw:swapsWith (.ListComp elt [⟨target,iter,ifs,0⟩] scope pos) (some (.Name y py)) spos.line X.env=pure true)
  (hs:∀x,foldedSetIterable iter X.env x=pure x:=by intro _;rfl):PS X (.Assign [.Name y py] (.ListComp elt [⟨target,iter,ifs,0⟩] scope pos) spos) (tAsg (tComp wi xs.length idx g tt te) (gName i)):=
 ps_setC (by rw [hc.n];exact nd) (okL1_loc hc h).1 (okL1_loc hc h).2 hcalm (cscope_of S hc.s hc.n) hi (fun c=>hg c (hc_block hc c)) (fun c=>ht c (hc_block hc c)) (fun c=>he c (hc_block hc c)) hsw hs
end
end L2
namespace L2
open PySem PySem.Spec PyProof.Rows
@[irreducible] def QSs (X:Cx) (st:List Stmt) (t:TS):Prop:=PSs X st t
theorem QSs.to {X:Cx} {st:List Stmt} {t:TS} (h:QSs X st t):PSs X st t:=by unfold QSs at h;exact h
theorem QSs.of {X:Cx} {st:List Stmt} {t:TS} (h:PSs X st t):QSs X st t:=by unfold QSs;exact h
section
variable {X:Cx} {st:Stmt} {rest:List Stmt} {t u:TS} {pos:Pos}
theorem qss_nil:QSs X [] tNext:=.of pss_nil
theorem qss_one (h1:PS X st t):QSs X [st] t:=.of (pss_one h1)
theorem qss_cons (h1:PS X st t) (h2:QSs X rest u):QSs X (st::rest) (tSeq t u):=.of (pss_cons h1 h2.to)
theorem qss_cut (h1:PS X st t) (h2:QSs X rest u):QSs X (st::rest) (tCut t u):=.of (pss_cut h1 h2.to)
theorem qs_if {c:Expr} {a b:List Stmt} {tc:TT} (hc:PT X c tc) (ha:QSs X a t) (hb:QSs X b u):PS X (.If c a b pos) (tIfS tc t u):=ps_if hc ha.to hb.to
theorem qs_while {c:Expr} {body:List Stmt} {tc:TT} {tb:TS} (hp:PassesOwn (model X.prog X.w) X.A X.env X.xe) (hc:PT X c tc) (hb:QSs X body tb):PS X (.While c body [] pos) (tWhile tc tb):=ps_while hp hc hb.to
theorem qs_for {tg iter:Expr} {body:List Stmt} {wi:TI} {g:TG} {tb:TS} (hp:PassesOwn (model X.prog X.w) X.A X.env X.xe) (hc:X.calm=true) (hi:PI X tg iter wi) (hg:PG X tg g) (hb:QSs X body tb)
  (hs:∀x,foldedSetIterable iter X.env x=pure x:=by intro _;rfl):PS X (.For tg iter body [] pos) (tFor wi g tb):=ps_for hp hc hi hg hb.to hs
end
theorem Fun.okK {P:Program} {w:World} {K:PySem.W.Frag} {mg:Str->Option Value} {base:Heap} {x qual:Str} {st:Stmt} {f:Addr} {fd:FuncData} {N ps:List Str} {k:Nat} {sp:Sp} (F:Fun K x qual st f fd) (S:FnScope N ps (defScope st)) (len:∀vs H Q E,sp vs H Q E->vs.length=ps.length)
  (hbody:∀(cdv:Value) (A:Around) (outer:List Env) (s:Shared) (H:Hp) (vs:List V) (Q:VK) (E:XK),Room k (A.deeper (envOfC qual (defScope st) s.heap.objs.size f cdv))->sp vs H Q E->
   HC (cxOf CX0 P w K mg base N qual (defScope st) f cdv A outer s H E).nox N (defScope st)->(∀x,(cxOf CX0 P w K mg base N qual (defScope st) f cdv A outer s H E).nox.fn x=true)->
   ∃t,QSs (cxOf CX0 P w K mg base N qual (defScope st) f cdv A outer s H E).nox (defBody st) t/\t { nx:=fun _ H'=>Q .non H',rt:=Q } (start N vs) H):FnOk P w K mg base CX0 (k+1) f fd ps sp:=
 F.ok S len fun cdv A outer s H vs Q E hr h=>let ⟨t,h1,h2⟩:=hbody cdv A outer s H vs Q E hr h ⟨rfl,rfl⟩ fun _=>rfl;⟨t,h1.to,h2⟩
end L2
namespace L2
open PySem PySem.Spec PyProof.Rows
def ForAll (J:It) (g:TG) (tb:TS) (D:Ends) (σ:St) (H:Hp):Prop:=∃W:Nat->Nat->St->Hp->Prop,(∃m,W 0 m σ H)/\∀i m σ H,W i m σ H->
 (J.stop i H/\D.nx σ H)\/(J.go i H/\∃N:St->Hp->Prop,(∀σ' H',N σ' H'->∃m',m' < m/\W (i+1) m' σ' H')/\∀x H',J.yld i H x H'->g x σ H' fun σ2 H2=>tb { D with nx:=N,ct:=N,bk:=D.nx } σ2 H2)
theorem tFor_eq {wi:TI} {g:TG} {tb:TS} {D:Ends} {σ:St} {H:Hp}:tFor wi g tb D σ H=wi σ H (fun J H1=>ForAll J g tb D σ H1):=rfl
def CompAll (J:It) (k:Nat) (idx:List Nat) (g:CB->TG) (tt:CB->TT) (te:CB->TE) (σ:St) (Q:VK) (H1:Hp):Prop:=∀D,H1 D=none->∃W:Nat->Nat->List V->Hp->Prop,(∃m,W 0 m [] (upd H1 D (.lst [])))/\
 ∀i m ys H',W i m ys H'->(J.stop i H'/\Q (.ref D) H')\/(J.go i H'/\∃N:List V->Hp->Prop,(∀ys' H'',N ys' H''->∃m',m' < m/\W (i+1) m' ys' H'')/\∀(c:CB) (own:St),own.length=k->∀x H2,J.yld i H' x H2->g c x (own++subS σ idx) H2 fun σ3 H3=>
  (∃own',own'.length=k/\σ3=own'++subS σ idx)/\tt c σ3 H3 fun b H4=>if b=true then te c σ3 H4 fun y H5=>H5 D=some (.lst ys)/\ys.length < sizeLine/\N (ys++[y]) (upd H5 D (.lst (ys++[y]))) else N ys H4)
theorem tComp_eq {wi:TI} {k:Nat} {idx:List Nat} {g:CB->TG} {tt:CB->TT} {te:CB->TE} {σ:St} {H:Hp} {Q:VK}:tComp wi k idx g tt te σ H Q=wi σ H (fun J H1=>CompAll J k idx g tt te σ Q H1):=rfl
theorem forAll_rng {lo:Int} {n:Nat} {g:TG} {tb:TS} {D:Ends} {σ:St} {H:Hp} (Pv:Nat->St->Hp->Prop) (h0:Pv 0 σ H)
  (hs:∀i σ H,i < n->Pv i σ H->g (.int (lo+i)) σ H fun σ2 H2=>tb { D with nx:=Pv (i+1),ct:=Pv (i+1),bk:=D.nx } σ2 H2) (hd:∀σ H,Pv n σ H->D.nx σ H):ForAll (Itr lo n) g tb D σ H:=for_range Pv h0 hs hd
theorem forAll_list {K:PySem.W.Frag} {a:Addr} {xs:List V} {g:TG} {tb:TS} {D:Ends} {σ:St} {H:Hp} (Pv:Nat->St->Hp->Prop) (h0:Pv 0 σ H) (hl:∀i σ H,i<=xs.length->Pv i σ H->H a=some (.lst xs))
  (hs:∀i x σ H,xs[i]? = some x->Pv i σ H->g x σ H fun σ2 H2=>tb { D with nx:=Pv (i+1),ct:=Pv (i+1),bk:=D.nx } σ2 H2) (hd:∀σ H,Pv xs.length σ H->D.nx σ H):ForAll (Itl K a) g tb D σ H:=
 for_list Pv h0 (fun i σ H hi p=>sqL_of (hl i σ H hi p)) hs hd
theorem forAll_tup {K:PySem.W.Frag} {a:Addr} {xs:List V} {g:TG} {tb:TS} {D:Ends} {σ:St} {H:Hp} (Pv:Nat->St->Hp->Prop) (h0:Pv 0 σ H) (hl:∀i σ H,i<=xs.length->Pv i σ H->H a=some (.tup xs))
  (hs:∀i x σ H,xs[i]? = some x->Pv i σ H->g x σ H fun σ2 H2=>tb { D with nx:=Pv (i+1),ct:=Pv (i+1),bk:=D.nx } σ2 H2) (hd:∀σ H,Pv xs.length σ H->D.nx σ H):ForAll (Itt K a) g tb D σ H:=
 for_tup Pv h0 (fun i σ H hi p=>sqT_of (hl i σ H hi p)) hs hd
theorem compAll_rng {lo:Int} {n:Nat} {idx:List Nat} {tt:CB->TT} {te:CB->TE} {σ:St} {Q:VK} {H1:Hp} (Pv:Addr->Nat->List V->Hp->Prop) (h0:∀D,H1 D=none->Pv D 0 [] (upd H1 D (.lst [])))
  (hs:∀D,H1 D=none->∀i ys H,i < n->Pv D i ys H->∀(c:CB),tt c (some (.int (lo+i))::subS σ idx) H fun b H4=>if b=true then te c (some (.int (lo+i))::subS σ idx) H4 fun y H5=>H5 D=some (.lst ys)/\ys.length < sizeLine/\Pv D (i+1) (ys++[y]) (upd H5 D (.lst (ys++[y]))) else Pv D (i+1) ys H4)
  (hd:∀D,H1 D=none->∀ys H,Pv D n ys H->Q (.ref D) H):CompAll (Itr lo n) 1 idx (fun _=>gName 0) tt te σ Q H1:=
 fun D hD=>comp_range1 (Pv D) (h0 D hD) (hs D hD) (hd D hD)
theorem compAll_list {K:PySem.W.Frag} {a:Addr} {zs:List V} {idx:List Nat} {tt:CB->TT} {te:CB->TE} {σ:St} {Q:VK} {H1:Hp} (Pv:Addr->Nat->List V->Hp->Prop) (h0:∀D,H1 D=none->Pv D 0 [] (upd H1 D (.lst [])))
  (hl:∀D,H1 D=none->∀i ys H,i<=zs.length->Pv D i ys H->H a=some (.lst zs))
  (hs:∀D,H1 D=none->∀i x ys H,zs[i]? = some x->Pv D i ys H->∀(c:CB),tt c (some x::subS σ idx) H fun b H4=>if b=true then te c (some x::subS σ idx) H4 fun y H5=>H5 D=some (.lst ys)/\ys.length < sizeLine/\Pv D (i+1) (ys++[y]) (upd H5 D (.lst (ys++[y]))) else Pv D (i+1) ys H4)
  (hd:∀D,H1 D=none->∀ys H,Pv D zs.length ys H->Q (.ref D) H):CompAll (Itl K a) 1 idx (fun _=>gName 0) tt te σ Q H1:=
 fun D hD=>comp_list1 (Pv D) (h0 D hD) (fun i ys H hi p=>sqL_of (hl D hD i ys H hi p)) (hs D hD) (hd D hD)
end L2
namespace L2
open PySem PySem.Spec PyProof.Rows
def tTxtsL (ss:List Str):TA:=fun _ H Q=>Q (List.map V.str ss) H
theorem txts_all:∀{es:List Expr} {ss:List Str},(es.map txtOf == ss.map some)=true->(es.all fun e=>(txtOf e).isSome)=true/\txtsOf es=ss
 | [],[],_=>⟨rfl,rfl⟩
 | [],_::_,h=>by cases h
 | _::_,[],h=>by cases h
 | e::es,x::ss,h=>by
  have h':(txtOf e == some x && (es.map txtOf == ss.map some))=true:=h
  rw [Bool.and_eq_true] at h'
  have e1:txtOf e=some x:=by simpa using h'.1
  have ih:=txts_all h'.2
  refine ⟨by rw [List.all_cons,e1,ih.1];rfl,?_⟩
  show (e::es).filterMap txtOf=_
  rw [List.filterMap_cons,e1]
  show x::txtsOf es=_
  rw [ih.2]
theorem pa_txtsL {X:Cx} {es:List Expr} (ss:List Str) (h:(es.map txtOf == ss.map some)=true):PA X es (tTxtsL ss):=by
 have c:=pa_txts (X:=X) (txts_all h).1
 rw [show tTxts es=tTxtsL ss by unfold tTxts tTxtsL;rw [(txts_all h).2]] at c
 exact c
end L2
end
section
namespace L2
open PySem PySem.Spec PyProof.Rows
structure ZE (X:Cx) (e:Expr) (t:TE):Prop where
 to:PE X e t
structure ZT (X:Cx) (e:Expr) (t:TT):Prop where
 to:PT X e t
structure ZW (X:Cx) (e:Expr) (t:TT):Prop where
 to:PW X e t
structure ZA (X:Cx) (e:List Expr) (t:TA):Prop where
 to:PA X e t
structure ZS (X:Cx) (e:Stmt) (t:TS):Prop where
 to:PS X e t
structure ZSs (X:Cx) (e:List Stmt) (t:TS):Prop where
 to:PSs X e t
structure ZG (X:Cx) (e:Expr) (t:TG):Prop where
 to:PG X e t
structure ZGs (X:Cx) (e:List Expr) (t:TGs):Prop where
 to:PGs X e t
structure ZIfs (X:Cx) (e:List Expr) (t:TT):Prop where
 to:PIfs X e t
structure ZO (X:Cx) (e:Option Expr) (t:TO):Prop where
 to:PO X e t
structure ZI (X:Cx) (tg iter:Expr) (t:TI):Prop where
 to:PI X tg iter t
structure ZC (X:Cx) (op:CmpOp) (a b:Expr) (t:TE):Prop where
 to:PC X op a b t
theorem zpe_bl {X:Cx} {b:Bool} {j:Nat} {pos:Pos}:ZE X (Expr.Constant (Const.bool b) j pos) (tC (V.bl b)):=⟨pe_bl⟩
theorem zpe_int {X:Cx} {i:Int} {j:Nat} {pos:Pos}:ZE X (Expr.Constant (Const.int i) j pos) (tC (V.int i)):=⟨pe_int⟩
theorem zpe_str {X:Cx} {x:Str} {j:Nat} {pos:Pos}:ZE X (Expr.Constant (Const.str x) j pos) (tC (V.str x)):=⟨pe_str⟩
theorem zpvk {X:Cx} {N:List Str} {sc:Scope} {x:Str} {pos:Pos} (h1:HC X N sc) (i:Nat) (h2:okV N sc i x=true):ZE X (Expr.Name x pos) (tVar i):=⟨pvk h1 i h2⟩
theorem zpe_bltn {X:Cx} {x:Str} {v:V} {u:Value} {pos:Pos} (h1:Gl X x) (h2:Cx.mg X x=none) (h3:bootBuiltins x=some u) (h4:RelV v u) (h5:autoParam (x≠Str.ofString "__name__") pe_bltn._auto_1) (h6:autoParam ((x == Str.ofString "__debug__")=false) pe_bltn._auto_2):ZE X (Expr.Name x pos) (tC v):=⟨pe_bltn h1 h2 h3 h4 h5 h6⟩
theorem zpe_lst {X:Cx} {es:List Expr} {t:TA} {pos:Pos} (h1:ZA X es t):ZE X (Expr.List es pos) (tLst t):=⟨pe_lst h1.to⟩
theorem zpe_tup {X:Cx} {es:List Expr} {t:TA} {pos:Pos} {x1:Nat} (h1:ZA X es t):ZE X (Expr.Tuple es x1 pos) (tTup t):=⟨pe_tup h1.to⟩
theorem zpe_dnewK {X:Cx} {pos:Pos}:ZE X (Expr.Dict [] [] pos) tDNewK:=⟨pe_dnewK⟩
theorem zpe_op {X:Cx} {a b:Expr} {ta tb:TE} {pos:Pos} {op:Operator} {r:R2} (h1:OpR X (binaryOp op) r) (h2:ZE X a ta) (h3:ZE X b tb):ZE X (Expr.BinOp a op b pos) (tOp r ta tb):=⟨pe_op h1 h2.to h3.to⟩
theorem zpe_not {X:Cx} {a:Expr} {ta:TE} {pos:Pos} (h1:ZE X a ta):ZE X (Expr.UnaryOp UnaryOp.Not a pos) (tNotV ta):=⟨pe_not h1.to⟩
theorem zpe_cmpR {X:Cx} {a b:Expr} {ta tb:TE} {pos:Pos} {op:CmpOp} {r:R2} (h1:OpR X (compareOp op) r) (h2:ZE X a ta) (h3:ZE X b tb) (h4:behindInMarks op b=false):ZE X (Expr.Compare a [op] [b] pos) (tOp r ta tb):=⟨pe_cmpR h1 h2.to h3.to h4⟩
theorem zpe_one {X:Cx} {a:Expr} {pos:Pos} {op:BoolOp} {t:TE} (h1:ZE X a t):ZE X (Expr.BoolOp op [a] pos) t:=⟨pe_one h1.to⟩
theorem zpe_and {X:Cx} {a b:Expr} {ta tb:TE} {pos:Pos} {rest:List Expr} (h1:ZE X a ta) (h2:ZE X (Expr.BoolOp BoolOp.And (b::rest) pos) tb):ZE X (Expr.BoolOp BoolOp.And (a::b::rest) pos) (tAndV ta tb):=⟨pe_and h1.to h2.to⟩
theorem zpe_or {X:Cx} {a b:Expr} {ta tb:TE} {pos:Pos} {rest:List Expr} (h1:ZE X a ta) (h2:ZE X (Expr.BoolOp BoolOp.Or (b::rest) pos) tb):ZE X (Expr.BoolOp BoolOp.Or (a::b::rest) pos) (tOrV ta tb):=⟨pe_or h1.to h2.to⟩
theorem zpo_none {X:Cx}:ZO X none tNoPart:=⟨po_none⟩
theorem zpo_some {X:Cx} {e:Expr} {te:TE} (h1:ZE X e te):ZO X (some e) (tPart te):=⟨po_some h1.to⟩
theorem zpe_slice {X:Cx} {e:Expr} {te:TE} {lo hi:Option Expr} {tl th:TO} {pos p2:Pos} {r:V->Option Int->Option Int->Hp->VK->Prop} (h1:SlR X r) (h2:ZE X e te) (h3:ZO X lo tl) (h4:ZO X hi th):ZE X (Expr.Subscript e (Expr.Slice lo hi none p2) pos) (tSl r te tl th):=⟨pe_slice h1 h2.to h3.to h4.to⟩
theorem zpe_dget {X:Cx} {o i:Expr} {pos:Pos} {td ty:TE} (h1:Around.units (Cx.A X)+1 < cLine) (h2:ZE X o td) (h3:ZE X i ty) (h4:NoSl i):ZE X (Expr.Subscript o i pos) (tDGet td ty):=⟨pe_dget h1 h2.to h3.to h4⟩
theorem zpe_ix {X:Cx} {a b:Expr} {ta tb:TE} {pos:Pos} {r:R2} (h1:IxR X r) (h2:ZE X a ta) (h3:ZE X b tb) (h4:PlainIx b):ZE X (Expr.Subscript a b pos) (tOp r ta tb):=⟨pe_ix h1 h2.to h3.to h4⟩
theorem zpek_comp {X : Cx} {N : List Str} {osc : Scope} {elt target iter : Expr} {ifs : List Expr} {scope : Scope} {pos : Pos} {wi : TI} {g : CB → TG} {tt : CB → TT} {te : CB → TE} (h1 : HC X N osc) (xs : List Str) (idx : List Nat) (h2 : Cx.calm X = true) (h3 : csOk osc N scope idx = true) (h4 : ZI X target iter wi) (h5 : (∀ (c : CB),
                HC (cxC X scope (xs ++ subN (Cx.N X) idx) c) (xs ++ subN N idx) (relabelS scope osc) →
                  ZG (cxC X scope (xs ++ subN (Cx.N X) idx) c) target (g c))) (h6 : (∀ (c : CB),
                  HC (cxC X scope (xs ++ subN (Cx.N X) idx) c) (xs ++ subN N idx) (relabelS scope osc) →
                    ZIfs (cxC X scope (xs ++ subN (Cx.N X) idx) c) ifs (tt c))) (h7 : (∀ (c : CB),
                    HC (cxC X scope (xs ++ subN (Cx.N X) idx) c) (xs ++ subN N idx) (relabelS scope osc) →
                      ZE (cxC X scope (xs ++ subN (Cx.N X) idx) c) elt (te c))) (h8 : autoParam (∀ (x : Value), foldedSetIterable iter (Cx.env X) x = pure x) pek_comp._auto_1) : ZE X (Expr.ListComp elt [{ target := target, iter := iter, ifs := ifs, is_async := 0 }] scope pos)
                      (tComp wi (List.length xs) idx g tt te) := ⟨pek_comp h1 xs idx h2 h3 h4.to (fun c z => (h5 c z).to) (fun c z => (h6 c z).to) (fun c z => (h7 c z).to) h8⟩
theorem zpa_txtsL {X:Cx} {es:List Expr} (ss:List Str) (h1:(List.map txtOf es == List.map some ss)=true):ZA X es (tTxtsL ss):=⟨pa_txtsL ss h1⟩
theorem zpa_nil {X:Cx}:ZA X [] tNil:=⟨pa_nil⟩
theorem zpa_cons {X:Cx} {e:Expr} {es:List Expr} {te:TE} {t:TA} (h1:ZE X e te) (h2:ZA X es t) (h3:autoParam (starEach (e::es) (Cx.env X)=(false,eval e (Cx.env X))::starEach es (Cx.env X)) pa_cons._auto_1):ZA X (e::es) (tCons te t):=⟨pa_cons h1.to h2.to h3⟩
theorem zpg_tup {X : Cx} {pos : Pos} {es : List Expr} {k : Nat} {t : TGs} {n : Nat} (h1 : Cx.calm X = true) (h2 : ZGs X es t) (h3 : autoParam (List.length (assignEach es (Cx.env X)) = n) pg_tup._auto_1) (h4 : autoParam (List.findIdx? (fun (x : Bool × (Value → Sem Unit)) => Prod.fst x) (assignEach es (Cx.env X)) = none)
            pg_tup._auto_2) : ZG X (Expr.Tuple es k pos) (gTup (Cx.K X) n t) := ⟨pg_tup h1 h2.to h3 h4⟩
theorem zpgb {X:Cx} {N:List Str} {sc:Scope} {x:Str} {pos:Pos} (h1:HC X N sc) (h2:List.Nodup N) (i:Nat) (h3:okL1 N sc i x=true):ZG X (Expr.Name x pos) (gName i):=⟨pgb h1 h2 i h3⟩
theorem zpifs_nil {X:Cx}:ZIfs X [] tYes:=⟨pifs_nil⟩
theorem zpifs_one {X:Cx} {e:Expr} {t:TT} (h1:ZT X e t):ZIfs X [e] t:=⟨pifs_one h1.to⟩
theorem zpgs_nil {X:Cx}:ZGs X [] gNil:=⟨pgs_nil⟩
theorem zpgs_cons {X : Cx} {e : Expr} {es : List Expr} {t : TG} {u : TGs} (h1 : ZG X e t) (h2 : ZGs X es u) (h3 : autoParam
          (List.map (fun (x : Bool × (Value → Sem Unit)) => Prod.snd x) (assignEach (e :: es) (Cx.env X)) =
            assign e (Cx.env X) ::
              List.map (fun (x : Bool × (Value → Sem Unit)) => Prod.snd x) (assignEach es (Cx.env X)))
          pgs_cons._auto_1) : ZGs X (e :: es) (gCons t u) := ⟨pgs_cons h1.to h2.to h3⟩
theorem zpi_range1 {X:Cx} {tg a:Expr} {ta:TA} {p pos:Pos} (h1:Gl X (Str.ofString "range")) (h2:Cx.mg X (Str.ofString "range")=none) (h3:ZA X [a] ta) (h4:autoParam (starEach [a] (Cx.env X)=[(false,eval a (Cx.env X))]) pi_range1._auto_1):ZI X tg (Expr.Call (Expr.Name (Str.ofString "range") p) [a] [] pos) (iRng1 ta):=⟨pi_range1 h1 h2 h3.to h4⟩
theorem zpi_list {X:Cx} {tg l:Expr} {tl:TE} (h1:ZE X l tl):ZI X tg l (iList (Cx.K X) tl):=⟨pi_list h1.to⟩
theorem zpi_tup {X:Cx} {tg l:Expr} {tl:TE} (h1:ZE X l tl):ZI X tg l (iTup (Cx.K X) tl):=⟨pi_tup h1.to⟩
theorem zpt_cmp {X:Cx} {a b:Expr} {pos:Pos} {op:CmpOp} {t:TE} (h1:ZC X op a b t) (h2:autoParam (behindInMarks op b=false) pt_cmp._auto_1):ZT X (Expr.Compare a [op] [b] pos) (tB t):=⟨pt_cmp h1.to h2⟩
theorem zpt_cmpR {X:Cx} {a b:Expr} {ta tb:TE} {pos:Pos} {op:CmpOp} {r:R2} (h1:OpR X (compareOp op) r) (h2:ZE X a ta) (h3:ZE X b tb) (h4:behindInMarks op b=false):ZT X (Expr.Compare a [op] [b] pos) (tTest (tOp r ta tb)):=⟨pt_cmpR h1 h2.to h3.to h4⟩
theorem zpt_not {X:Cx} {a:Expr} {pos:Pos} {tA:TT} (h1:ZT X a tA):ZT X (Expr.UnaryOp UnaryOp.Not a pos) (tNot tA):=⟨pt_not h1.to⟩
theorem zPWpt {X:Cx} {e:Expr} {t:TT} (h1:ZW X e t):ZT X e t:=⟨PW.pt h1.to⟩
theorem zpt_val {X:Cx} {e:Expr} {t:TE} (h1:ZE X e t) (h2:autoParam
    (∀(whole:Sem Value),
     PySem.isTrue e (Cx.env X) whole=do
      let v <-whole
      standAt (Expr.pos e)
      holding [v] (truthy v))
    pt_val._auto_1):ZT X e (tB t):=⟨pt_val h1.to h2⟩
theorem zpw_and1 {X:Cx} {a:Expr} {pos:Pos} {tA:TT} (h1:ZT X a tA):ZW X (Expr.BoolOp BoolOp.And [a] pos) tA:=⟨pw_and1 h1.to⟩
theorem zpw_or1 {X:Cx} {a:Expr} {pos:Pos} {tA:TT} (h1:ZT X a tA):ZW X (Expr.BoolOp BoolOp.Or [a] pos) tA:=⟨pw_or1 h1.to⟩
theorem zpw_and {X:Cx} {a b:Expr} {pos:Pos} {tA tB':TT} {rest:List Expr} (h1:ZT X a tA) (h2:ZW X (Expr.BoolOp BoolOp.And (b::rest) pos) tB'):ZW X (Expr.BoolOp BoolOp.And (a::b::rest) pos) (tAnd tA tB'):=⟨pw_and h1.to h2.to⟩
theorem zpw_or {X:Cx} {a b:Expr} {pos:Pos} {tA tB':TT} {rest:List Expr} (h1:ZT X a tA) (h2:ZW X (Expr.BoolOp BoolOp.Or (b::rest) pos) tB'):ZW X (Expr.BoolOp BoolOp.Or (a::b::rest) pos) (tOr tA tB'):=⟨pw_or h1.to h2.to⟩
theorem zpe_call {X : Cx} {CX : CXT} {k : Nat} {f : Addr} {fd : FuncData} {ps : List Str} {sp : Sp} {dvs : List V} {ds : List Value} {E : XK} {x : Str} {p pos : Pos} {e : Expr} {es : List Expr} {t : TA} (h1 : FnOk (Cx.prog X) (Cx.w X) (Cx.K X) (Cx.mg X) (Cx.base X) CX k f fd ps sp) (h2 : Room k (Cx.A X)) (h3 : Gl X x) (h4 : Cx.mg X x = some (Value.ref f)) (h5 : W.keepIn (Cx.K X) (Value.ref f) = true) (h6 : Binds (Cx.K X) fd ps ds) (h7 : Vals dvs ds) (h8 : Passes CX X E) (h9 : ZA X (e :: es) t) (h10 : autoParam ((x == Str.ofString "__debug__") = false) pe_call._auto_1) (h11 : autoParam (starEach (e :: es) (Cx.env X) = (false, eval e (Cx.env X)) :: starEach es (Cx.env X))
                          pe_call._auto_2) (h12 : autoParam
                            ((List.any (backTo pos (starEach es (Cx.env X))) fun (x : Bool × Sem Value) => Prod.fst x) =
                              false)
                            pe_call._auto_3) : ZE X (Expr.Call (Expr.Name x p) (e :: es) [] pos) (tCall sp dvs E t) := ⟨pe_call h1 h2 h3 h4 h5 h6 h7 h8 h9.to h10 h11 h12⟩
theorem zpe_callTy {X : Cx} {x : Str} {p pos : Pos} {e : Expr} {es : List Expr} {t : TA} {T : String} {r : List V → Hp → VK → Prop} (h1 : CallR X (Value.type T) r) (h2 : Gl X x) (h3 : Cx.mg X x = none) (h4 : bootBuiltins x = some (Value.type T)) (h5 : ZA X (e :: es) t) (h6 : autoParam (x ≠ Str.ofString "__name__") pe_callTy._auto_1) (h7 : autoParam ((x == Str.ofString "__debug__") = false) pe_callTy._auto_2) (h8 : autoParam (starEach (e :: es) (Cx.env X) = (false, eval e (Cx.env X)) :: starEach es (Cx.env X))
                    pe_callTy._auto_3) (h9 : autoParam
                      ((List.any (backTo pos (starEach es (Cx.env X))) fun (x : Bool × Sem Value) => Prod.fst x) =
                        false)
                      pe_callTy._auto_4) : ZE X (Expr.Call (Expr.Name x p) (e :: es) [] pos) (tCB r t) := ⟨pe_callTy h1 h2 h3 h4 h5.to h6 h7 h8 h9⟩
theorem zpe_callB {X : Cx} {x : Str} {p pos : Pos} {e : Expr} {es : List Expr} {t : TA} {id : String} {r : List V → Hp → VK → Prop} (h1 : CallR X (Value.builtin id) r) (h2 : Gl X x) (h3 : Cx.mg X x = none) (h4 : bootBuiltins x = some (Value.builtin id)) (h5 : ZA X (e :: es) t) (h6 : autoParam (x ≠ Str.ofString "__name__") pe_callB._auto_1) (h7 : autoParam ((x == Str.ofString "__debug__") = false) pe_callB._auto_2) (h8 : autoParam (starEach (e :: es) (Cx.env X) = (false, eval e (Cx.env X)) :: starEach es (Cx.env X))
                    pe_callB._auto_3) (h9 : autoParam
                      ((List.any (backTo pos (starEach es (Cx.env X))) fun (x : Bool × Sem Value) => Prod.fst x) =
                        false)
                      pe_callB._auto_4) : ZE X (Expr.Call (Expr.Name x p) (e :: es) [] pos) (tCB r t) := ⟨pe_callB h1 h2 h3 h4 h5.to h6 h7 h8 h9⟩
theorem zpe_bm {X : Cx} {o e : Expr} {es : List Expr} {to : TE} {t : TA} {name : Str} {apos cpos : Pos} {T id : String} {r : V → List V → Hp → VK → Prop} (h1 : PlainAttrs T) (h2 : Slot T name id) (h3 : typeOf (Value.builtin id) = pure (Value.type "method_descriptor")) (h4 : MtR X id r) (h5 : ZE X o to) (h6 : ZA X (e :: es) t) (h7 : autoParam (attributeBase o name (Cx.env X) (eval o (Cx.env X)) = eval o (Cx.env X)) pe_bm._auto_1) (h8 : autoParam
                    ((((List.all (backTo cpos (starEach (e :: es) (Cx.env X))) fun (x : Bool × Sem Value) =>
                            !Prod.fst x) &&
                          List.all (backToKw cpos (keywordEach [] (Cx.env X))) fun (x : Option Str × Sem Value) =>
                            Option.isSome (Prod.fst x)) &&
                        decide
                          ((List.length (e :: es) + List.length ([] : List Keyword) + if List.isEmpty ([] : List Keyword) = true then 0 else 1) < 30)) =
                      true)
                    pe_bm._auto_2) (h9 : autoParam ((Pos.endLine apos == Pos.line cpos) = true) pe_bm._auto_3) (h10 : autoParam (starEach (e :: es) (Cx.env X) = (false, eval e (Cx.env X)) :: starEach es (Cx.env X))
                        pe_bm._auto_4) (h11 : autoParam
                          ((List.any (backTo cpos (starEach es (Cx.env X))) fun (x : Bool × Sem Value) => Prod.fst x) =
                            false)
                          pe_bm._auto_5) : ZE X (Expr.Call (Expr.Attribute o name apos) (e :: es) [] cpos) (tBM (Cx.K X) T r to t) := ⟨pe_bm h1 h2 h3 h4 h5.to h6.to h7 h8 h9 h10 h11⟩
theorem zpe_bm0 {X:Cx} {o:Expr} {to:TE} {name:Str} {apos cpos:Pos} {T id:String} {r:V->List V->Hp->VK->Prop} (h1:PlainAttrs T) (h2:Slot T name id) (h3:typeOf (Value.builtin id)=pure (Value.type "method_descriptor")) (h4:MtR X id r) (h5:ZE X o to) (h6:autoParam (attributeBase o name (Cx.env X) (eval o (Cx.env X))=eval o (Cx.env X)) pe_bm0._auto_1) (h7:autoParam ((Pos.endLine apos == Pos.line cpos)=true) pe_bm0._auto_2):ZE X (Expr.Call (Expr.Attribute o name apos) [] [] cpos) (tBM0 (Cx.K X) T r to):=⟨pe_bm0 h1 h2 h3 h4 h5.to h6 h7⟩
theorem zps_ret {X:Cx} {e:Expr} {te:TE} {pos:Pos} (h1:ZE X e te):ZS X (Stmt.Return (some e) pos) (tRet te):=⟨ps_ret h1.to⟩
theorem zps_expr {X:Cx} {e:Expr} {te:TE} {pos:Pos} (h1:ZE X e te) (h2:autoParam (swapsWith e none (Pos.line pos) (Cx.env X)=pure false) ps_expr._auto_1):ZS X (Stmt.Expr e pos) (tDrop te):=⟨ps_expr h1.to h2⟩
theorem zpsk_comp {X : Cx} {N : List Str} {osc : Scope} {elt target iter : Expr} {ifs : List Expr} {scope : Scope} {pos spos py : Pos} {wi : TI} {g : CB → TG} {tt : CB → TT} {te : CB → TE} {y : Str} (h1 : HC X N osc) (h2 : List.Nodup N) (i : Nat) (h3 : okL1 N osc i y = true) (xs : List Str) (idx : List Nat) (h4 : Cx.calm X = true) (h5 : csOk osc N scope idx = true) (h6 : ZI X target iter wi) (h7 : (∀ (c : CB),
                      HC (cxC X scope (xs ++ subN (Cx.N X) idx) c) (xs ++ subN N idx) (relabelS scope osc) →
                        ZG (cxC X scope (xs ++ subN (Cx.N X) idx) c) target (g c))) (h8 : (∀ (c : CB),
                        HC (cxC X scope (xs ++ subN (Cx.N X) idx) c) (xs ++ subN N idx) (relabelS scope osc) →
                          ZIfs (cxC X scope (xs ++ subN (Cx.N X) idx) c) ifs (tt c))) (h9 : (∀ (c : CB),
                          HC (cxC X scope (xs ++ subN (Cx.N X) idx) c) (xs ++ subN N idx) (relabelS scope osc) →
                            ZE (cxC X scope (xs ++ subN (Cx.N X) idx) c) elt (te c))) (h10 : swapsWith
                              (Expr.ListComp elt [{ target := target, iter := iter, ifs := ifs, is_async := 0 }] scope
                                pos)
                              (some (Expr.Name y py)) (Pos.line spos) (Cx.env X) =
                            pure true) (h11 : autoParam (∀ (x : Value), foldedSetIterable iter (Cx.env X) x = pure x) psk_comp._auto_1) : ZS X
                              (Stmt.Assign [Expr.Name y py]
                                (Expr.ListComp elt [{ target := target, iter := iter, ifs := ifs, is_async := 0 }] scope
                                  pos)
                                spos)
                              (tAsg (tComp wi (List.length xs) idx g tt te) (gName i)) := ⟨psk_comp h1 h2 i h3 xs idx h4 h5 h6.to (fun c z => (h7 c z).to) (fun c z => (h8 c z).to) (fun c z => (h9 c z).to) h10 h11⟩
theorem zpsk_set {X:Cx} {N:List Str} {sc:Scope} {x:Str} {pos:Pos} {e:Expr} {te:TE} {pos':Pos} (h1:HC X N sc) (h2:List.Nodup N) (h3:(∀(x:Str),Cx.fn X x=true)) (i:Nat) (h4:okL N sc i x=true) (h5:ZE X e te) (h6:autoParam (swapsWith e (some (Expr.Name x pos')) (Pos.line pos) (Cx.env X)=pure false) psk_set._auto_1):ZS X (Stmt.Assign [Expr.Name x pos'] e pos) (tAsg te (gName i)):=⟨psk_set h1 h2 h3 i h4 h5.to h6⟩
theorem zps_dput {X:Cx} {o i value:Expr} {pos pos':Pos} {td ty tv:TE} (h1:Around.units (Cx.A X)+1 < cLine) (h2:ZE X o td) (h3:ZE X i ty) (h4:ZE X value tv) (h5:swapsWith value (some (Expr.Subscript o i pos')) (Pos.line pos) (Cx.env X)=pure false):ZS X (Stmt.Assign [Expr.Subscript o i pos'] value pos) (sDPut td ty tv):=⟨ps_dput h1 h2.to h3.to h4.to h5⟩
theorem zps_asg {X : Cx} {pos : Pos} {tg e : Expr} {te : TE} {g : TG} (h1 : ZE X e te) (h2 : ZG X tg g) (h3 : autoParam (swapsWithSole [tg] e (Pos.line pos) (Cx.env X) = pure false) ps_asg._auto_1) (h4 : autoParam (swappedStores [tg] e (Cx.env X) = pure none) ps_asg._auto_2) (h5 : autoParam
              (List.map (fun (x : Bool × (Value → Sem Unit)) => Prod.snd x) (assignEach [tg] (Cx.env X)) =
                [assign tg (Cx.env X)])
              ps_asg._auto_3) : ZS X (Stmt.Assign [tg] e pos) (tAsg te g) := ⟨ps_asg h1.to h2.to h3 h4 h5⟩
theorem zpg_sub {X : Cx} {pos : Pos} {o i : Expr} {to ti : TE} {t : TSet} (h1 : ZE X o to) (h2 : ZE X i ti) (h3 : PSet X t) (h4 : autoParam
            (∀ (v : Value),
              assign (Expr.Subscript o i pos) (Cx.env X) v = do
                let ov ← holding [v] (eval o (Cx.env X))
                let iv ← holding [v, ov] (eval i (Cx.env X))
                standAt pos
                holding [v, ov, iv] (setItem ov iv v)
                release [v, ov, iv] [])
            pg_sub._auto_1) : ZG X (Expr.Subscript o i pos) (gSub to ti t) := ⟨pg_sub h1.to h2.to h3 h4⟩
theorem zps_augS {X : Cx} {pos : Pos} {o i e : Expr} {to ti te : TE} {tget : V → V → Hp → VK → Prop} {tip : TIp} {tset : TSet} {op : Operator} {tpos : Pos} (h1 : ZE X o to) (h2 : ZE X i ti) (h3 : PGet X tget) (h4 : ZE X e te) (h5 : PIp X op tip) (h6 : PSet X tset) (h7 : autoParam
                  (∀ (ov iv new : Value),
                    augStore i ov iv new = do
                      holding [new, ov, iv] (setItem ov iv new)
                      release [new, ov, iv] []
                      pure Flow.next)
                  ps_augS._auto_1) : ZS X (Stmt.AugAssign (Expr.Subscript o i tpos) op e pos) (tAugS to ti te tget tip tset) := ⟨ps_augS h1.to h2.to h3 h4.to h5 h6 h7⟩
theorem zpsk_aug {X:Cx} {N:List Str} {sc:Scope} {x:Str} {pos:Pos} {e:Expr} {te:TE} {op:Operator} {ti:TIp} {pos':Pos} (h1:HC X N sc) (h2:List.Nodup N) (h3:(∀(x:Str),Cx.fn X x=true)) (i:Nat) (h4:okL N sc i x=true) (h5:ZE X e te) (h6:PIp X op ti):ZS X (Stmt.AugAssign (Expr.Name x pos') op e pos) (tAug i te ti):=⟨psk_aug h1 h2 h3 i h4 h5.to h6⟩
theorem zqs_if {X:Cx} {t u:TS} {pos:Pos} {c:Expr} {a b:List Stmt} {tc:TT} (h1:ZT X c tc) (h2:ZSs X a t) (h3:ZSs X b u):ZS X (Stmt.If c a b pos) (tIfS tc t u):=⟨qs_if h1.to (.of h2.to) (.of h3.to)⟩
theorem zqs_while {X:Cx} {pos:Pos} {c:Expr} {body:List Stmt} {tc:TT} {tb:TS} (h1:PassesOwn (model (Cx.prog X) (Cx.w X)) (Cx.A X) (Cx.env X) (Cx.xe X)) (h2:ZT X c tc) (h3:ZSs X body tb):ZS X (Stmt.While c body [] pos) (tWhile tc tb):=⟨qs_while h1 h2.to (.of h3.to)⟩
theorem zpgk {X:Cx} {N:List Str} {sc:Scope} {x:Str} {pos:Pos} (h1:HC X N sc) (h2:List.Nodup N) (h3:(∀(x:Str),Cx.fn X x=true)) (i:Nat) (h4:okL N sc i x=true):ZG X (Expr.Name x pos) (gName i):=⟨pgk h1 h2 h3 i h4⟩
theorem zqs_for {X:Cx} {pos:Pos} {tg iter:Expr} {body:List Stmt} {wi:TI} {g:TG} {tb:TS} (h1:PassesOwn (model (Cx.prog X) (Cx.w X)) (Cx.A X) (Cx.env X) (Cx.xe X)) (h2:Cx.calm X=true) (h3:ZI X tg iter wi) (h4:ZG X tg g) (h5:ZSs X body tb) (h6:autoParam (∀(x:Value),foldedSetIterable iter (Cx.env X) x=pure x) qs_for._auto_1):ZS X (Stmt.For tg iter body [] pos) (tFor wi g tb):=⟨qs_for h1 h2 h3.to h4.to (.of h5.to) h6⟩
theorem zqss_nil {X:Cx}:ZSs X [] tNext:=⟨QSs.to qss_nil⟩
theorem zqss_one {X:Cx} {st:Stmt} {t:TS} (h1:ZS X st t):ZSs X [st] t:=⟨QSs.to (qss_one h1.to)⟩
theorem zqss_cons {X:Cx} {st:Stmt} {rest:List Stmt} {t u:TS} (h1:ZS X st t) (h2:ZSs X rest u):ZSs X (st::rest) (tSeq t u):=⟨QSs.to (qss_cons h1.to (.of h2.to))⟩
theorem zqss_cut {X:Cx} {st:Stmt} {rest:List Stmt} {t u:TS} (h1:ZS X st t) (h2:ZSs X rest u):ZSs X (st::rest) (tCut t u):=⟨QSs.to (qss_cut h1.to (.of h2.to))⟩
theorem Fun.okZ {P:Program} {w:World} {K:PySem.W.Frag} {mg:Str->Option Value} {base:Heap} {x qual:Str} {st:Stmt} {f:Addr} {fd:FuncData} {N ps:List Str} {k:Nat} {sp:Sp} (F:Fun K x qual st f fd) (S:FnScope N ps (defScope st)) (len:∀vs H Q E,sp vs H Q E->vs.length=ps.length)
  (hbody:∀(cdv:Value) (A:Around) (outer:List Env) (s:Shared) (H:Hp) (vs:List V) (Q:VK) (E:XK),Room k (A.deeper (envOfC qual (defScope st) s.heap.objs.size f cdv))->sp vs H Q E->
   HC (cxOf CX0 P w K mg base N qual (defScope st) f cdv A outer s H E).nox N (defScope st)->(∀x,(cxOf CX0 P w K mg base N qual (defScope st) f cdv A outer s H E).nox.fn x=true)->
   ∃t,ZSs (cxOf CX0 P w K mg base N qual (defScope st) f cdv A outer s H E).nox (defBody st) t/\t { nx:=fun _ H'=>Q .non H',rt:=Q } (start N vs) H):FnOk P w K mg base CX0 (k+1) f fd ps sp:=
 F.okK S len fun cdv A outer s H vs Q E hr h hc hf=>let ⟨t,h1,h2⟩:=hbody cdv A outer s H vs Q E hr h hc hf;⟨t,.of h1.to,h2⟩
end L2
end
section
namespace L2
open PySem PySem.Spec PyProof.Rows
def byT (w:World):Bool:=w.params.followText "set-order"
theorem lay_led (t:SetTable) (es:Array (Int×Value)) (h:Int) (x:Value):(layNew t es h x).2.1.led=t.led:=by
 unfold layNew
 split
 ·dsimp only;unfold SetTable.orStandIn
  split <;> rfl
 ·rfl
theorem lay_plain (t:SetTable) (es:Array (Int×Value)) (h:Int) (x:Value) (e:t.plain=false):(layNew t es h x).2.1.plain=false:=by
 unfold layNew
 split
 ·dsimp only;unfold SetTable.orStandIn
  split
  ·exact e
  ·rfl
 ·rfl
theorem laid_led {mask finger moves:Nat} {led plain:Bool} {hs:Array Int} {t':SetTable} {o:Array Nat} (h:SetTable.laid mask finger moves led plain hs=some (t',o)):t'.led=led/\t'.plain=plain:=by
 unfold SetTable.laid at h
 cases q:SetTable.layClean mask hs with
 | none=>rw [q] at h;cases h
 | some owner=>rw [q] at h;cases h;exact ⟨rfl,rfl⟩
theorem relay_led (t:SetTable) (es:Array (Int×Value)) (k:Nat):(relayAll t es k).2.1.led=t.led:=by
 unfold relayAll
 split
 ·rename_i t' o q
  dsimp only
  split
  ·exact (laid_led q).1
  ·rfl
 ·rfl
theorem relay_plain (t:SetTable) (es:Array (Int×Value)) (k:Nat) (e:t.plain=false):(relayAll t es k).2.1.plain=false:=by
 unfold relayAll
 split
 ·rename_i t' o q
  dsimp only
  split
  ·show t'.plain=false
   rw [(laid_led q).2];exact e
  ·rfl
 ·rfl
def entS (w:World) (p:Str×Tok):Int×Value:=(hashStr w p.1,.str p.1 p.2)
def sObj (es:Array (Int×Value)) (ep:Nat) (t:SetTable):Obj:={ cls:=.type "set",dict:=none,data:=.set es ep t }
structure SetT (w:World) (h:Heap) (a:Addr) (l:List (Str×Tok)):Prop where
 ex:∃es ep t,h.get? a=some (sObj es ep t)/\es.toList=l.map (entS w)/\t.fits es.size=true/\t.led = !byT w/\(l≠[]->t.plain=false)
 nd:(l.map (·.1)).Nodup
 sz:l.length < scanBound
theorem SetT.at {w:World} {h h':Heap} {a:Addr} {l:List (Str×Tok)} (x:SetT w h a l) (k:∀o,h.get? a=some o->h'.get? a=some o):SetT w h' a l:=
 ⟨let ⟨es,ep,t,e,r⟩:=x.ex;⟨es,ep,t,k _ e,r⟩,x.nd,x.sz⟩
section
variable {P:Program} {w:World} {A:Around} {E:Value->Shared->Prop} {s:Shared} {a:Addr} {l:List (Str×Tok)}
theorem elems_of (l:List (Str×Tok)):ElemsOf (PySem.strKind P w) (l.map (entS w)):=by
 intro e he
 obtain ⟨p,_,rfl⟩:=List.mem_map.mp he
 exact ⟨⟨p.1,strKind_is P w _ _,rfl⟩,rfl⟩
theorem find_ent (x:Str):∀l:List (Str×Tok),(∀j,(l.map (entS w)).findIdx? (fun e=>(PySem.strKind P w).is x e.2)=some j->x∈l.map (·.1))/\((l.map (entS w)).findIdx? (fun e=>(PySem.strKind P w).is x e.2)=none->x∉l.map (·.1)):=by
 intro l
 refine ⟨fun j h=>?_,fun h hm=>?_⟩
 ·obtain ⟨hj,hp,_⟩:=List.findIdx?_eq_some_iff_getElem.mp h
  rw [List.getElem_map] at hp
  rw [List.length_map] at hj
  have:(l[j]).1=x:=(PySem.strKind P w).inj _ _ _ (strKind_is P w _ _) hp
  exact List.mem_map.mpr ⟨l[j],List.getElem_mem hj,this⟩
 ·obtain ⟨p,hp,rfl⟩:=List.mem_map.mp hm
  have:=List.findIdx?_eq_none_iff.mp h (entS w p) (List.mem_map_of_mem hp)
  rw [show (PySem.strKind P w).is p.1 (entS w p).2=true from strKind_is P w _ _] at this
  cases this
theorem perm_ent {es':List (Int×Value)} {l:List (Str×Tok)} (p:es'.Perm (l.map (entS w))):∃l':List (Str×Tok),es'=l'.map (entS w)/\l'.Perm l:=by
 let back:Int×Value->Str×Tok:=fun e=>match e.2 with | .str x t=>(x,t) | _=>(default,0)
 have hb:∀q:Str×Tok,back (entS w q)=q:=fun q=>rfl
 refine ⟨es'.map back,?_,?_⟩
 ·rw [List.map_map]
  conv=>lhs;rw [<-List.map_id es']
  refine List.map_congr_left fun e he=>?_
  obtain ⟨q,_,rfl⟩:=List.mem_map.mp (p.mem_iff.mp he)
  rfl
 ·have:=p.map back
  rw [List.map_map,show (back ∘ entS w)=id from funext hb,List.map_id] at this
  exact this
theorem add_txt {x:Str} {tk:Tok} {Q:Bool->Shared->Prop} (S:SetT w s.heap a l) (room:l.length+1 < scanBound)
  (q:∀h' l' b,Heap.SameBut a s.heap h'->SetT w h' a l'->(∀z,z∈l'.map (·.1)↔z∈l.map (·.1)\/z=x)->l'.length<=l.length+1->Q b { s with heap:=h' }) :
  wpAny (model P w) A (setAddHashed a (.str x tk) (hashStr w x)) Q E s:=by
 obtain ⟨⟨es,ep,t,ho,hel,hf,hled,hpl⟩,nd,sz⟩:=S
 have hsz:es.size=l.length:=by rw [<-Array.length_toList,hel,List.length_map]
 have hE:ElemsOf (PySem.strKind P w) es.toList:=by rw [hel];exact elems_of l
 have hk:(PySem.strKind P w).is x (.str x tk)=true:=strKind_is P w _ _
 have hd:(sObj es ep t).data=.set es ep t:=rfl
 unfold setAddHashed setAddHashedIn
 refine wpAny_holding (wpAny_bind (wpAny_setState_of ho hd hf ?_))
 dsimp only
 rw [byScan_of (knd:=PySem.strKind P w) rfl (by rw [hsz];exact sz) hE]
 simp only [↓reduceIte]
 unfold setAddByScan
 refine wpAny_bind (wpAny_bind (wpAny_rule (wpAny_bind (wpAny_setScan_of (knd:=PySem.strKind P w) hk ho hd hf hE ?_))))
 have hfi:=find_ent (P:=P) (w:=w) x l
 rw [<-hel] at hfi
 cases hr:List.findIdx? (fun e=>(PySem.strKind P w).is x e.2) es.toList with
 | some j=>
  dsimp only
  have hm:=hfi.1 j hr
  refine wpAny_pure (wpAny_pure ?_)
  have e:s={ s with heap:=s.heap }:=by cases s;rfl
  rw [e]
  exact q s.heap l false (Heap.SameBut.refl a s.heap) ⟨⟨es,ep,t,ho,hel,hf,hled,hpl⟩,nd,sz⟩ (fun z=>⟨.inl,fun h=>h.elim id fun e=>e ▸ hm⟩) (Nat.le_succ _)
 | none=>
  have hm:=hfi.2 hr
  dsimp only
  have pp:=layNew_perm t es (hashStr w x) (.str x tk)
  have pf:=layNew_fits t es (hashStr w x) (.str x tk)
  have pl:=lay_led t es (hashStr w x) (.str x tk)
  have pq:=lay_plain t es (hashStr w x) (.str x tk)
  generalize hL:layNew t es (hashStr w x) (.str x tk)=L at pp pf pl pq ⊢
  obtain ⟨es1,t1,wasD,gave⟩:=L
  dsimp only at pp pf pl pq ⊢
  rw [Array.toList_push,hel] at pp
  obtain ⟨l1,e1,p1⟩:=perm_ent (l:=l++[(x,tk)]) (w:=w) (es':=es1.toList) (by rw [List.map_append];exact pp)
  have len1:l1.length=l.length+1:=by rw [p1.length_eq,List.length_append];rfl
  have nd1:(l1.map (·.1)).Nodup:=by
   rw [(p1.map (·.1)).nodup_iff,List.map_append,List.nodup_append]
   refine ⟨nd,by simp,fun u hu v hv=>?_⟩
   rw [List.map_cons,List.map_nil,List.mem_singleton] at hv
   rintro rfl
   rw [hv] at hu
   exact hm hu
  have mem1:∀z,z∈l1.map (·.1)↔z∈l.map (·.1)\/z=x:=fun z=>by
   rw [(p1.map (·.1)).mem_iff,List.map_append,List.mem_append];simp
  have hsz1:es1.size=l.length+1:=by rw [<-Array.length_toList,e1,List.length_map,len1]
  have gw:∀(b:Bool) {s₁:Shared} {Q':Unit->Shared->Prop},Q' () s₁->wpAny (model P w) A (match b with | true=>rule "set.scan.the-table-gave-way" | false=>pure ()) Q' E s₁:=
   fun b s₁ Q' hq=>by cases b <;> first | exact wpAny_pure hq | exact wpAny_rule hq
  refine wpAny_bind (gw _ ?_)
  have fin:∀t2:SetTable,t2.fits es1.size=true->t2.led=t.led->t2.plain=false->
    wpAny (model P w) A (do
     storeSet a es1 t2
     if (!wasD && t2.tooFull)=true then do
      (match (relayAll t2 es1 (SetTable.grown es1.size)).2.2 with | true=>rule "set.scan.the-table-gave-way" | false=>pure ())
      storeSet a (relayAll t2 es1 (SetTable.grown es1.size)).1 (relayAll t2 es1 (SetTable.grown es1.size)).2.1
      pure (some true)
     else pure (some true)) (fun r s'=>∃b,r=some b/\Q b s') E s:=by
   intro t2 f2 l2 p2
   refine wpAny_bind (wpAny_storeSet_of ho hd ?_ (by rw [hsz1];exact fits_of_scanBound room))
   have g1:(s.heap.update a (Obj.putSet es1 t2)).get? a=some (sObj es1 (ep+1) t2):=by
    have:=Heap.get?_update_self (Obj.putSet es1 t2) ho (by rw [putSet_of es1 t2 hd];rfl)
    rw [putSet_of es1 t2 hd] at this;exact this
   have sb:=Heap.SameBut.update s.heap a (Obj.putSet es1 t2)
   split
   ·have rp:=relayAll_perm t2 es1 (SetTable.grown es1.size)
    have rf:=relayAll_fits t2 es1 (SetTable.grown es1.size)
    have rl:=relay_led t2 es1 (SetTable.grown es1.size)
    have rq:=relay_plain t2 es1 (SetTable.grown es1.size) p2
    generalize hR:relayAll t2 es1 (SetTable.grown es1.size)=R at rp rf rl rq ⊢
    obtain ⟨es2,t3,gave2⟩:=R
    dsimp only at rp rf rl rq ⊢
    rw [e1] at rp
    obtain ⟨l2',e2,p2'⟩:=perm_ent rp
    have len2:l2'.length=l.length+1:=by rw [p2'.length_eq,len1]
    have hsz2:es2.size=l.length+1:=by rw [<-Array.length_toList,e2,List.length_map,len2]
    refine wpAny_bind (gw _ ?_)
    refine wpAny_bind (wpAny_storeSet_of g1 rfl ?_ (by rw [hsz2];exact fits_of_scanBound room))
    have g2:((s.heap.update a (Obj.putSet es1 t2)).update a (Obj.putSet es2 t3)).get? a=some (sObj es2 (ep+1+1) t3):=by
     have:=Heap.get?_update_self (Obj.putSet es2 t3) g1 (by rw [putSet_of es2 t3 (show (sObj es1 (ep+1) t2).data=_ from rfl)];rfl)
     rw [putSet_of es2 t3 (show (sObj es1 (ep+1) t2).data=_ from rfl)] at this;exact this
    refine wpAny_pure ⟨true,rfl,q _ l2' true (sb.trans (Heap.SameBut.update _ a _)) ⟨⟨es2,_,t3,g2,e2,rf,by rw [rl,l2,hled],fun _=>rq⟩,by rw [(p2'.map (·.1)).nodup_iff];exact nd1,by lia⟩ (fun z=>by rw [(p2'.map (·.1)).mem_iff];exact mem1 z) (by lia)⟩
   ·exact wpAny_pure ⟨true,rfl,q _ l1 true sb ⟨⟨es1,_,t2,g1,e1,f2,by rw [l2,hled],fun _=>p2⟩,nd1,by lia⟩ mem1 (by lia)⟩
  split
  ·rename_i hp1
   refine wpAny_bind ?_
   rw [hashByValue_scannable 8 (show (Value.str x tk).scannable=true from rfl)]
   refine wpAny_pure ?_
   rw [show (if plainKind (Value.str x tk)=true then t1 else { t1 with plain:=false })={ t1 with plain:=false } from rfl]
   refine wpAny_mono (fin { t1 with plain:=false } (SetTable.fits_plain_off pf) pl rfl) (fun r s' h=>?_) fun _ _ h=>h
   obtain ⟨b,rfl,hq⟩:=h
   exact wpAny_pure hq
  ·rename_i hp1
   refine wpAny_bind (wpAny_pure ?_)
   simp only [↓reduceIte]
   refine wpAny_mono (fin t1 pf pl (by simpa using hp1)) (fun r s' h=>?_) fun _ _ h=>h
   obtain ⟨b,rfl,hq⟩:=h
   exact wpAny_pure hq
end
end L2
end
section
namespace L2
open PySem PySem.Spec PyProof.Rows
section
variable {P:Program} {w:World} {A:Around} {R:Result->Shared->Prop} {I:Addr} {fp wr:List Addr} {G:Array GenState->Array GenState->Prop} {n:Nat} {Pv:Nat->Value->Prop} {St:Nat->Shared->Prop}
theorem loop_txt (W:WalksS P w A.in1 I fp wr G n Pv St) (S:Addr) (hSf:S∉fp) (val:Nat->Str) (hval:∀i v,Pv i v->∃t,v=.str (val i) t) (hb:n+1 < scanBound) :
  ∀(k i:Nat) (s:Shared) (l:List (Str×Tok)),n - i=k->i<=n->St i s->SetT w s.heap S l->l.length<=i->(∀z,z∈l.map (·.1)↔∃j,j < i/\val j=z)->
   (∀s' l',Moved (S::wr) G s s'->SetT w s'.heap S l'->(∀z,z∈l'.map (·.1)↔∃j,j < n/\val j=z)->R (.ok (.ret .none)) s')->
   codeAny (model P w) A (.builtin "set.update.loop" ⟨[.ref S,.ref I],[]⟩) R s:=by
 have nw:S∉wr:=fun z=>hSf (W.sub _ z)
 have up:∀b∈wr,b∈S::wr:=fun b z=>List.mem_cons_of_mem _ z
 intro k
 induction k with
 | zero=>
  intro i s l hk hi st hS hl hm r
  obtain rfl:i=n:=by lia
  refine codeAny_builtin F.entry_set_update_loop ?_
  rw [Around.under_plainId F.plain_set_update_loop _]
  refine wpAny_bind (m:=pyNext (.ref I)) (W.done s _ _ st fun s' mv=>?_)
  refine wpAny_pure (r s' l (mv.mono up) (hS.at fun o e=>mv.heap S o nw e) hm)
 | succ k ih=>
  intro i s l hk hi st hS hl hm r
  have lt:i < n:=by lia
  refine codeAny_builtin F.entry_set_update_loop ?_
  rw [Around.under_plainId F.plain_set_update_loop _]
  refine wpAny_bind (m:=pyNext (.ref I)) (W.item i s _ _ lt st fun v s' pv st' mv=>?_)
  obtain ⟨t,rfl⟩:=hval i v pv
  have hS':=hS.at (h':=s'.heap) fun o e=>mv.heap S o nw e
  refine wpAny_bind (m:=holding [Value.str (val i) t] (setAdd S (.str (val i) t))) (wpAny_holding ?_)
  unfold setAdd
  refine wpAny_holding (wpAny_bind ((PySem.strKind P w).pyHash (k:=val i) (strKind_is _ _ _ _) ?_))
  refine add_txt (s:={ s' with toks:=s'.toks+1 }) hS' (by lia) fun h' l' b sb S2 m2 len2=>?_
  refine wpAny_pure ⟨plainId_quiet F.plain_set_update_loop _,ih (i+1) _ l' (by lia) lt (W.frame _ s' _ _ st' (Nat.le_succ _) fun c hc o e=>?_) S2 (by lia) (fun z=>?_) fun s2 l2 mv2 S3 m3=>?_⟩
  ·rw [sb.2 c (fun q:c=S=>hSf (by rw [<-q];exact hc))];exact e
  ·rw [m2 z,hm z]
   constructor
   ·rintro (⟨j,hj,e⟩ | e)
    ·exact ⟨j,by lia,e⟩
    ·exact ⟨i,by lia,e.symm⟩
   ·rintro ⟨j,hj,e⟩
    by_cases q:j=i
    ·subst q;exact .inr e.symm
    ·exact .inl ⟨j,by lia,e⟩
  ·refine r s2 l2 (Moved.trans W.gtrans ((mv.mono up).then_heap (Nat.le_succ _) fun c o hc e=>?_) mv2) S3 m3
   rw [sb.2 c (fun q:c=S=>hc (by rw [q];exact List.mem_cons_self))];exact e
end
theorem strs_at:∀{vs:List Value} {ss:List Str},StrsAre vs ss->∀(i:Nat) (v:Value),vs[i]? = some v->∃t,v=.str (ss.getD i "") t
 | _,_,.nil,i,v,h=>by cases i <;> cases h
 | _,_,.cons y t r,0,v,h=>by cases h;exact ⟨t,rfl⟩
 | _,_,.cons y t r,i+1,v,h=>by
  obtain ⟨u,e⟩:=strs_at r i v (by simpa using h)
  exact ⟨u,by rw [e];rfl⟩
section
variable {P:Program} {w:World} {A:Around} {E:Value->Shared->Prop} {s:Shared}
theorem set_new {x:Value} {Q:Value->Shared->Prop} (h:Q (.ref s.heap.objs.size) { s with heap:=s.heap.push (sObj #[] 0 (.fresh 0 0 (!byT w))) }) :
  codeAny (model P w) A (.call (.builtin "set.__new__") ⟨[.type "set",x],[]⟩) (wants Q E) s:=by
 refine codeAny_of_tree ?_
 refine wpAny_bind (m:=checkBuiltinCall "set.__new__" ⟨[.type "set",x],[]⟩) (wpAny_of_eq (PySem.F.newCall_set_1 x) (wpAny_pure ⟨plainId_quiet PySem.F.plain_set_new _,codeAny_builtin PySem.F.entry_set_new ?_⟩))
 rw [Around.under_plainId PySem.F.plain_set_new _]
 unfold Builtin.«set.__new__» Builtin.Frozenset.newClass
 have hsub:=sub_set_self
 obtain ⟨hp,g,d,tk,os⟩:=s
 dsimp only
 wp_walk
 refine wpAny_askSetting (wpAny_pure ?_)
 dsimp only
 simp only [newObj]
 refine wpAny_bind (wpAny_alloc (wpAny_pure (wpAny_pure h)))
theorem set_txts {l:Addr} {items:Array Value} {ss:List Str} {Q:Value->Shared->Prop} (hh:A.handled=none) (hl:s.heap.IsList l items) (hi:StrsAre items.toList ss) (hb:items.size+1 < scanBound)
  (h:∀(h':Heap) (tk:Nat) (ls:List (Str×Tok)),SetT w h' s.heap.objs.size ls->(∀z,z∈ls.map (·.1)↔z∈ss)->(∀b o,b < s.heap.objs.size->s.heap.get? b=some o->h'.get? b=some o)->Q (.ref s.heap.objs.size) { s with heap:=h',toks:=tk }) :
  wpAny (model P w) A (call (.type "set") [.ref l]) Q E s:=by
 have e:∀z:Str,(∃j,j < items.size/\ss.getD j "" = z)↔z∈ss:=fun z=>by
  have hlen:items.size=ss.length:=by rw [<-Array.length_toList];exact hi.length
  rw [hlen,List.mem_iff_getElem]
  constructor
  ·rintro ⟨j,hj,e⟩;exact ⟨j,hj,by rw [<-e];simp [hj]⟩
  ·rintro ⟨j,hj,e⟩;exact ⟨j,hj,by rw [<-e];simp [hj]⟩
 obtain ⟨c,tl,hmro⟩:=PySem.F.called_set.mro
 have hmade:=PySem.F.called_set.made
 have hsub:=PySem.F.called_set.sub
 refine wpAny_call (codeAny_of_tree (wpAny_pure (a:=_) ⟨Code.quiet_builtin _ (by decide +kernel),codeAny_builtin PySem.F.entry_type_call ?_⟩))
 rw [Around.under_plain (weight_type_call_type "set" [.ref l] []) rfl]
 have h1:=PySem.F.called_set.notType
 have h2:=PySem.F.called_set.canCreate
 have hct:=PySem.F.typeCall_set_1 (.ref l)
 repeat (any_goals (first | assumption | wp_step))
 refine codeAny_mono (set_new (x:=.ref l) (E:=E) (Q:=fun obj s₁=>obj=.ref s.heap.objs.size/\s₁={ s with heap:=s.heap.push (sObj #[] 0 (.fresh 0 0 (!byT w))) }) ⟨rfl,rfl⟩) fun r s₁ hr=>?_
 cases r with
 | error e=>exact hr
 | ok fl=>
  cases fl with
  | ret obj=>
   obtain ⟨rfl,rfl⟩:=hr
   have hS:(s.heap.push (sObj #[] 0 (.fresh 0 0 (!byT w)))).get? s.heap.objs.size=some (sObj #[] 0 (.fresh 0 0 (!byT w))):=Heap.get?_push_size _ rfl
   have hT:Shared.TypeIs { s with heap:=s.heap.push (sObj #[] 0 (.fresh 0 0 (!byT w))) } (.ref s.heap.objs.size) "set":=⟨_,hS,rfl⟩
   have hli:=PySem.F.called_set.init.lookup
   have hbi:=PySem.F.called_set.init.bind (.ref s.heap.objs.size)
   repeat (any_goals (first | assumption | wp_step))
   refine codeAny_mono (codeAny_call_builtin (R:=wants (fun r s₂=>r=.none/\∃h' tk ls,s₂={ s with heap:=h',toks:=tk }/\SetT w h' s.heap.objs.size ls/\(∀z,z∈ls.map (·.1)↔z∈ss)/\
     (∀b o,b < s.heap.objs.size->s.heap.get? b=some o->h'.get? b=some o)) E) PySem.F.called_set.init.plain PySem.F.entry_set_init (check_set_init_1 hT ?_)) fun r₂ s₂ hr₂=>?_
   ·obtain ⟨ol,hol,hcl,nl,hdl⟩:=hl
    obtain ⟨ocls,odict,odata,oslots⟩:=ol
    simp only at hcl hdl
    subst hcl;subst hdl
    have hol':(s.heap.push (sObj #[] 0 (.fresh 0 0 (!byT w)))).get? l=some { cls:=.type "list",dict:=odict,data:=.seq items nl,slots:=oslots }:=Heap.get?_push_of_some _ hol
    have hsls:=PySem.F.sub_list_set
    have hslf:=PySem.F.sub_list_frozenset
    have hne:(Value.type "list" == Value.type "dict")=false:=by decide
    have hl1:(s.heap.push (sObj #[] 0 (.fresh 0 0 (!byT w)))).IsList l items:=⟨_,hol',rfl,nl,rfl⟩
    unfold Builtin.«set.__init__» noKeywords Builtin.Frozenset.updateFrom
    unfold sObj at *
    generalize hPI:pyIter=PI
    wp_walk
    subst hPI
    refine wpAny_pyIter_list hl1 (wpAny_bind (wpAny_runValue ?_))
    have hlS:l < s.heap.objs.size:=Heap.lt_size hol
    have hh3:A.in1.in1.in1.handled=none:=by simp [hh]
    have hsz:(s.heap.push (sObj #[] 0 (.fresh 0 0 (!byT w)))).objs.size=s.heap.objs.size+1:=Heap.size_push _ _
    have hneI:l≠(s.heap.push (sObj #[] 0 (.fresh 0 0 (!byT w)))).objs.size:=by rw [hsz];exact Nat.ne_of_lt (Nat.lt_succ_of_lt hlS)
    have hSf:s.heap.objs.size∉[(s.heap.push (sObj #[] 0 (.fresh 0 0 (!byT w)))).objs.size,l]:=by
     rw [hsz];simp only [List.mem_cons,List.mem_singleton,List.not_mem_nil,or_false,not_or];exact ⟨Nat.ne_of_lt (Nat.lt_succ_self _),Nat.ne_of_gt hlS⟩
    refine loop_txt ((Walks.list hh3 _ l hneI items).toS) s.heap.objs.size hSf (fun j=>ss.getD j "") (fun i v hv=>?hv) hb (items.size - 0) 0 _ [] (by lia) (Nat.zero_le _)
     ⟨⟨_,Heap.get?_push_size _ rfl,rfl,rfl⟩,(hl1.push _)⟩ ?hS0 (Nat.zero_le _) (fun z=>⟨(fun z=>nomatch z),fun ⟨_,hj,_⟩=>absurd hj (Nat.not_lt_zero _)⟩) ?hR
    case hv=>exact strs_at hi i v (by rw [Array.getElem?_toList];exact hv)
    case hS0=>exact ⟨⟨#[],0,_,Heap.get?_push_of_some _ hS,rfl,rfl,rfl,fun z=>absurd rfl z⟩,List.nodup_nil,by decide⟩
    case hR=>
     intro s' l' hm hS' mem
     obtain ⟨h',g',d',tk',os'⟩:=s'
     have eg:g'=s.gens:=hm.gens
     have ed:d'=s.drawn:=hm.drawn
     have eo:os'=s.os:=hm.os
     subst eg;subst ed;subst eo
     refine wpAny_pure (wpAny_pure ⟨rfl,h',tk',l',rfl,hS',fun z=>(mem z).trans (e z),fun b o hb e=>?_⟩)
     refine hm.heap b o ?_ (Heap.get?_push_of_some _ (Heap.get?_push_of_some _ e))
     rw [hsz]
     simp only [List.mem_cons,List.mem_singleton,List.not_mem_nil,or_false,not_or];exact ⟨Nat.ne_of_lt hb,Nat.ne_of_lt (Nat.lt_succ_of_lt hb)⟩
   ·cases r₂ with
    | error e=>exact hr₂
    | ok fl₂=>
     cases fl₂ with
     | ret r=>
      obtain ⟨rfl,h',tk,ls,rfl,hS',hm',hk'⟩:=hr₂
      repeat (any_goals (first | assumption | wp_step))
      exact h _ _ _ hS' hm' hk'
     | _=>exact hr₂.elim
  | _=>exact hr.elim
end
end L2
end
section
namespace L2
open PySem PySem.Spec PyProof.Rows
theorem si_slot_next:Slot "set_iterator" "__next__" "set_iterator.__next__":=
 .of (owner:="set_iterator") (n:="__next__") (by rw [typeLookup_type,builtinLookup_eq_fast];kernel_rfl) (by decide +kernel) (by decide +kernel) (by decide +kernel)
  (.inl (by decide +kernel)) (by rw [isSubtype_type];kernel_rfl)
theorem si_slot_iter:Slot "set_iterator" "__iter__" "set_iterator.__iter__":=
 .of (owner:="set_iterator") (n:="__iter__") (by rw [typeLookup_type,builtinLookup_eq_fast];kernel_rfl) (by decide +kernel) (by decide +kernel) (by decide +kernel)
  (.inl (by decide +kernel)) (by rw [isSubtype_type];kernel_rfl)
theorem si_entry_next:entryFor table "set_iterator.__next__" = some Builtin.«set_iterator.__next__»:=entryFor_of_tree (by kernel_rfl)
theorem si_entry_iter:entryFor table "set_iterator.__iter__" = some Builtin.«dict_keyiterator.__iter__»:=
 entryFor_alias (id':="dict_keyiterator.__iter__") (by kernel_rfl) rfl (by decide +kernel) (by kernel_rfl)
theorem se_entry_iter:entryFor table "set.__iter__" = some Builtin.«frozenset.__iter__»:=
 entryFor_alias (id':="frozenset.__iter__") (by kernel_rfl) rfl (by decide +kernel) (by kernel_rfl)
theorem si_owner:Manifest.owners.lookup (String.ofList "rotareti_tes".toList.reverse)=some Manifest.sig_set_iterator:=by kernel_rfl
theorem si_args_next (a:Value):argsOk "set_iterator.__next__" ⟨[a],[]⟩:=by
 unfold argsOk;rw [signature?_of (id:="set_iterator.__next__") (n:="__txen__".toList) (o:="rotareti_tes".toList) (by kernel_rfl) si_owner];kernel_rfl
theorem si_args_iter (a:Value):argsOk "set_iterator.__iter__" ⟨[a],[]⟩:=by
 unfold argsOk;rw [signature?_of (id:="set_iterator.__iter__") (n:="__reti__".toList) (o:="rotareti_tes".toList) (by kernel_rfl) si_owner];kernel_rfl
end L2
end
section
namespace L2
open PySem PySem.Spec PyProof.Rows
def siObj (first:Value) (i n ep:Nat) (a:Addr):Obj:={ cls:=.type "set_iterator",data:=.fields #[first,.int i 0,.ref a,.int n 0,.int ep 0] }
section
variable {P:Program} {w:World} {A:Around} {E:Value->Shared->Prop} {s:Shared} {a I:Addr} {es:Array (Int×Value)} {t:SetTable} {ep i n:Nat} {first:Value}
theorem si_type (hI:s.heap.get? I=some (siObj first i n ep a)):s.TypeIs (.ref I) "set_iterator":=⟨_,hI,rfl⟩
theorem si_self {Q:Value->Shared->Prop} (hI:s.heap.get? I=some (siObj first i n ep a)) (q:Q (.ref I) s):wpAny (model P w) A (pyIter (.ref I)) Q E s:=by
 refine wpAny_pyIter_slot (si_type hI) si_slot_iter (wpAny_call_entry si_slot_iter (si_type hI) si_entry_iter ?_ (si_args_iter _))
 exact wpAny_pure ⟨_,rfl,"set_iterator",_,si_type hI,si_slot_next.lookup,q⟩
theorem si_int {slot:Nat} {tk:Tok} {r:Option (Value×Nat)} {Q:Option Value->Shared->Prop} (hh:A.handled=none) (hI:s.heap.get? I=some (siObj (.int slot tk) i n ep a)) (hS:s.heap.get? a=some (sObj es ep t)) (hf:t.fits es.size=true) (hn:es.size=n)
  (hx:∀(B:Around) (E':Value->Shared->Prop) (Q':Option (Value×Nat)->Shared->Prop),Q' r s->wpAny (model P w) B (setNext a slot i ep) Q' E' s)
  (q:match r with
   | some (x,nx)=>∀h',h'.get? I=some (siObj (.int (nx:Int) 0) (i+1) n ep a)->Heap.SameBut I s.heap h'->Q (some x) { s with heap:=h' }
   | none=>∀h',Heap.ExtBut I s.heap h'->Q none { s with heap:=h' }):wpAny (model P w) A (pyNext (.ref I)) Q E s:=by
 have hT:=si_type hI
 unfold pyNext
 refine wpAny_bind (wpAny_attempt (wpAny_callSpecial?_slot (name:=Str.ofString "__next__") hT si_slot_next (wpAny_call_entry si_slot_next hT si_entry_next ?_ (si_args_next _))))
 unfold Builtin.«set_iterator.__next__»
 refine wpAny_bind (m:=slotArgs _ _ _) (wpAny_pure ?_)
 refine wpAny_bind (wpAny_fieldsOf hI rfl ?_)
 refine wpAny_bind (m:=setEntries a) (wpAny_setEntries_of hS rfl hf ?_)
 rw [if_neg (by rw [hn];simp)]
 refine wpAny_bind (m:=setNext a slot i ep) (hx _ _ _ ?_)
 cases r with
 | some p=>
  obtain ⟨x,nx⟩:=p
  dsimp only at q ⊢
  refine wpAny_bind (m:=setField (.ref I) 0 (rawInt nx)) (wpAny_setField_rec hI (by simp) fun h1 e1 sb1=>?_)
  refine wpAny_bind (m:=setField (.ref I) 1 (rawInt (i+1))) (wpAny_setField_rec e1 (by simp) fun h2 e2 sb2=>?_)
  exact wpAny_pure ⟨x,rfl,wpAny_pure (q h2 (by rw [e2];rfl) (sb1.trans sb2))⟩
 | none=>
  dsimp only at q ⊢
  refine wpAny_bind (m:=setField (.ref I) 2 .none) (wpAny_setField_rec hI (by simp) fun h1 e1 sb1=>?_)
  refine wpAny_bind (m:=newExc (.type "StopIteration") []) ?_
  simp only [newExc,newTuple]
  refine wpAny_bind (wpAny_newObj_type ?_ (by size_fits))
  refine wpAny_bind (m:=firstArgMember _ _) (wpAny_of_eq (a:=Value.none) (by first | rfl | (simp only [firstArgMember];rfl)) ?_)
  refine wpAny_newObj_type (wpAny_raiseNew_none hh ?_) (by size_fits)
  refine wpAny_bind (wpAny_isInstance (T:="StopIteration") (b:=true) ⟨_,Heap.get?_push_size _ rfl,rfl⟩ isSubtype_stop ?_)
  exact wpAny_pure (q _ ((sb1.extBut.push _).push _))
theorem si_tup {p:Addr} {vs:Array Value} {c:Nat} {r:Option Value} {Q:Option Value->Shared->Prop} (hh:A.handled=none) (hI:s.heap.get? I=some (siObj (.ref p) i n ep a)) (hS:s.heap.get? a=some (sObj es ep t)) (hf:t.fits es.size=true) (hn:es.size=n)
  (hp:s.heap.get? p=some { cls:=.type "tuple",data:=.seq vs c })
  (hv:match r with | some x=>∃(k:Nat) (z:Int),vs[i]? = some (.int k 0)/\es[k]? = some (z,x) | none=>vs[i]? = none)
  (q:match r with
   | some x=>∀h',h'.get? I=some (siObj (.ref p) (i+1) n ep a)->Heap.SameBut I s.heap h'->Q (some x) { s with heap:=h' }
   | none=>∀h',Heap.ExtBut I s.heap h'->Q none { s with heap:=h' }):wpAny (model P w) A (pyNext (.ref I)) Q E s:=by
 have hT:=si_type hI
 unfold pyNext
 refine wpAny_bind (wpAny_attempt (wpAny_callSpecial?_slot (name:=Str.ofString "__next__") hT si_slot_next (wpAny_call_entry si_slot_next hT si_entry_next ?_ (si_args_next _))))
 unfold Builtin.«set_iterator.__next__»
 refine wpAny_bind (m:=slotArgs _ _ _) (wpAny_pure ?_)
 refine wpAny_bind (wpAny_fieldsOf hI rfl ?_)
 refine wpAny_bind (m:=setEntries a) (wpAny_setEntries_of hS rfl hf ?_)
 rw [if_neg (by rw [hn];simp)]
 refine wpAny_bind (m:=seqItems? (.ref p)) (wpAny_seqItems hp rfl ?_)
 cases r with
 | some x=>
  obtain ⟨k,z,e1,e2⟩:=hv
  dsimp only at q ⊢
  simp only [Int.toNat_natCast,e1]
  refine wpAny_bind (m:=setNextDrawn a k ep) ?_
  unfold setNextDrawn
  refine wpAny_bind (wpAny_setState_of hS rfl hf ?_)
  dsimp only
  rw [if_neg (by simp)]
  simp only [e2]
  refine wpAny_pure ?_
  refine wpAny_bind (m:=setField (.ref I) 1 (rawInt (i+1))) (wpAny_setField_rec hI (by simp) fun h2 e2 sb2=>?_)
  exact wpAny_pure ⟨x,rfl,wpAny_pure (q h2 (by rw [e2];rfl) sb2)⟩
 | none=>
  dsimp only at q hv ⊢
  simp only [Int.toNat_natCast,hv]
  refine wpAny_bind (m:=setField (.ref I) 0 (rawInt 0)) (wpAny_setField_rec hI (by simp) fun h0 e0 sb0=>?_)
  refine wpAny_bind (m:=setField (.ref I) 2 .none) (wpAny_setField_rec e0 (by simp) fun h1 e1 sb1=>?_)
  refine wpAny_bind (m:=newExc (.type "StopIteration") []) ?_
  simp only [newExc,newTuple]
  refine wpAny_bind (wpAny_newObj_type ?_ (by size_fits))
  refine wpAny_bind (m:=firstArgMember _ _) (wpAny_of_eq (a:=Value.none) (by first | rfl | (simp only [firstArgMember];rfl)) ?_)
  refine wpAny_newObj_type (wpAny_raiseNew_none hh ?_) (by size_fits)
  refine wpAny_bind (wpAny_isInstance (T:="StopIteration") (b:=true) ⟨_,Heap.get?_push_size _ rfl,rfl⟩ isSubtype_stop ?_)
  exact wpAny_pure (q _ (((sb0.trans sb1).extBut.push _).push _))
end
end L2
end
section
namespace L2
open PySem PySem.Spec PyProof.Rows
theorem erase_perm {α:Type}:∀(l:List α) (i:Nat) (x:α),l[i]? = some x->(x::l.eraseIdx i).Perm l
 | [],i,x,h=>by cases i <;> cases h
 | y::l,0,x,h=>by cases h;exact List.Perm.refl _
 | y::l,i+1,x,h=>by
  rw [List.getElem?_cons_succ] at h
  rw [List.eraseIdx_cons_succ]
  exact (List.Perm.swap y x _).trans ((erase_perm l i x h).cons y)
theorem pick_go {α:Type} (next:Nat->Nat):∀(f k:Nat) (l:List α) (out:Array α),l.length=f->(pickOrder.go next f k l out).toList.Perm (out.toList++l)
 | 0,k,l,out,h=>by
  rw [List.length_eq_zero_iff.mp h,List.append_nil]
  unfold pickOrder.go
  exact List.Perm.refl _
 | f+1,k,l,out,h=>by
  unfold pickOrder.go
  have lt:next k % l.length < l.length:=Nat.mod_lt _ (by lia)
  have e:l[next k % l.length]? = some l[next k % l.length]:=List.getElem?_eq_getElem lt
  rw [e]
  dsimp only
  refine (pick_go next f (k+1) _ _ (by rw [List.length_eraseIdx_of_lt lt];lia)).trans ?_
  rw [Array.toList_push,List.append_assoc]
  exact (erase_perm l _ _ e).append_left _
theorem pick_perm {α:Type} (next:Nat->Nat) (xs:Array α):(pickOrder next xs).toList.Perm xs.toList:=by
 unfold pickOrder
 have:=pick_go next xs.size 0 xs.toList #[] Array.length_toList
 simpa using this
section
variable {P:Program} {w:World} {A:Around} {E:Value->Shared->Prop}
theorem draw_perm {α:Type}:∀(n:Nat) (xs:List α) (s:Shared) (Q:List α->Shared->Prop),xs.length=n->(∀ys d,ys.Perm xs->Q ys { s with drawn:=d })->wpAny (model P w) A (drawOrder n xs) Q E s
 | 0,xs,s,Q,h,q=>by
  have:xs=[]:=List.length_eq_zero_iff.mp h
  subst this
  unfold drawOrder
  exact wpAny_pure (by cases s;exact q [] _ (List.Perm.refl _))
 | n+1,[],s,Q,h,q=>by cases h
 | n+1,x::xs,s,Q,h,q=>by
  unfold drawOrder
  have lt:w.draws .order (s.drawn.get .order) % (x::xs).length < (x::xs).length:=Nat.mod_lt _ (by simp)
  refine wpAny_bind (m:=choose .order (x::xs).length) (fun Γ p hΓ=>?_)
  refine ⟨by simp,?_⟩
  have e:(x::xs)[w.draws .order (s.drawn.get .order) % (x::xs).length]? = some (x::xs)[w.draws .order (s.drawn.get .order) % (x::xs).length]:=List.getElem?_eq_getElem lt
  show wpAny (model P w) A (match (x::xs)[w.draws .order (s.drawn.get .order) % (x::xs).length]? with
   | some y=>do let r <-drawOrder n ((x::xs).eraseIdx (w.draws .order (s.drawn.get .order) % (x::xs).length));pure (y::r)
   | none=>unsupported "internal:drawOrder") Q E { s with drawn:=s.drawn.bump .order }
  rw [e]
  dsimp only
  refine wpAny_bind (draw_perm n _ _ _ (by rw [List.length_eraseIdx_of_lt lt];simp at h ⊢;lia) fun ys d hp=>wpAny_pure ?_)
  exact q _ d ((hp.cons _).trans (erase_perm _ _ _ e))
variable {s:Shared} {a:Addr} {es:Array (Int×Value)} {t:SetTable} {ep slot i:Nat}
theorem byText_ask {Q:Bool->Shared->Prop} (q:Q (byT w) s):wpAny (model P w) A setsByText Q E s:=by
 unfold setsByText
 exact wpAny_bind (wpAny_askSetting (wpAny_pure q))
theorem next_byText {Q:Option (Value×Nat)->Shared->Prop} (hb:byT w=true) (hS:s.heap.get? a=some (sObj es ep t)) (hf:t.fits es.size=true) (q:Q (((pickOrder (w.params.setOrder a ep) es)[i]?).map fun e=>(e.2,slot)) s) :
  wpAny (model P w) A (setNext a slot i ep) Q E s:=by
 unfold setNext
 refine wpAny_bind (wpAny_setState_of hS rfl hf (wpAny_bind (byText_ask ?_)))
 rw [hb]
 dsimp only
 rw [if_pos rfl,if_neg (by simp)]
 refine wpAny_bind ?_
 unfold setWalk
 refine wpAny_bind (wpAny_setState_of hS rfl hf (wpAny_bind (byText_ask ?_)))
 rw [hb,if_pos rfl]
 exact wpAny_bind (wpAny_askSetting (wpAny_pure (wpAny_pure q)))
theorem next_few {Q:Option (Value×Nat)->Shared->Prop} (hb:byT w=false) (hl:t.led=true) (hz:es.size<=1) (hS:s.heap.get? a=some (sObj es ep t)) (hf:t.fits es.size=true)
  (q:Q (match es[SetTable.below t.place slot]?,t.place[SetTable.below t.place slot]? with | some (_,x),some j=>some (x,j+1) | _,_=>none) s):wpAny (model P w) A (setNext a slot i ep) Q E s:=by
 unfold setNext
 refine wpAny_bind (wpAny_setState_of hS rfl hf (wpAny_bind (byText_ask ?_)))
 rw [hb]
 dsimp only
 rw [if_neg (by simp)]
 have d:(!t.plain && decide (es.size > 1))=false:=by
  rw [Bool.and_eq_false_iff];right;simpa using hz
 show wpAny _ _ (if (!t.plain && decide (es.size > 1))=true then _ else _) _ _ _
 rw [d,if_neg (by simp)]
 show wpAny _ _ ((if (!t.led && !es.isEmpty)=true then _ else _) >>= _) _ _ _
 rw [hl,Bool.not_true,Bool.false_and,if_neg (by simp)]
 exact wpAny_bind (wpAny_pure (wpAny_pure q))
end
end L2
end
section
namespace L2
open PySem PySem.Spec PyProof.Rows
section
variable {P:Program} {w:World} {B:Around} {a I:Addr} {es:Array (Int×Value)} {t:SetTable} {ep n:Nat} {ord:List Value}
theorem walks_int (slotAt:Nat->Nat) (hh:B.handled=none) (hne:a≠I) (hf:t.fits es.size=true) (hn:es.size=n) (ho:ord.length=n)
  (hx:∀i,i<=n->∀(s:Shared) (C:Around) (E':Value->Shared->Prop) (Q':Option (Value×Nat)->Shared->Prop),s.heap.get? a=some (sObj es ep t)->Q' ((ord[i]?).map fun v=>(v,slotAt (i+1))) s->wpAny (model P w) C (setNext a (slotAt i) i ep) Q' E' s) :
  WalksS P w B I [I,a] [I] (fun x y=>y=x) n (fun i v=>ord[i]? = some v) (fun i s=>s.heap.get? I=some (siObj (.int (slotAt i) 0) i n ep a)/\s.heap.get? a=some (sObj es ep t)) where
 sub:=fun b hb=>by rw [List.mem_singleton.mp hb];exact List.mem_cons_self
 grefl:=fun _=>rfl
 gtrans:=fun _ _ _ h1 h2=>h2.trans h1
 frame:=fun i s h' tk st _ k=>⟨k I (by simp) _ st.1,k a (by simp) _ st.2⟩
 item:=fun i s Q E hi st q=>by
  have e:ord[i]? = some ord[i]:=List.getElem?_eq_getElem (by rw [ho];exact hi)
  refine si_int (r:=some (ord[i],slotAt (i+1))) hh st.1 st.2 hf hn (fun C E' Q' hq=>hx i (Nat.le_of_lt hi) s C E' Q' st.2 (by rw [e];exact hq)) fun h' h1 h2=>?_
  exact q _ _ e ⟨h1,h2.extBut a _ hne st.2⟩ ⟨fun b o hb z=>h2.extBut b o (fun y=>hb (by rw [y];exact List.mem_singleton.mpr rfl)) z,rfl,rfl,rfl,Nat.le_refl _⟩
 done:=fun s Q E st q=>by
  have e:ord[n]? = none:=List.getElem?_eq_none (by rw [ho];exact Nat.le_refl _)
  refine si_int (r:=none) hh st.1 st.2 hf hn (fun C E' Q' hq=>hx n (Nat.le_refl _) s C E' Q' st.2 (by rw [e];exact hq)) fun h' h1=>?_
  exact q _ ⟨fun b o hb z=>h1 b o (fun y=>hb (by rw [y];exact List.mem_singleton.mpr rfl)) z,rfl,rfl,rfl,Nat.le_refl _⟩
 self:=fun i s Q E st q=>si_self st.1 q
theorem walks_tup {p:Addr} {pl:List Nat} {c:Nat} (hh:B.handled=none) (hne:a≠I) (hnp:p≠I) (hf:t.fits es.size=true) (hn:es.size=n) (ho:ord.length=n) (hl:pl.length=n)
  (hx:∀i:Nat,i < n->∃(k:Nat) (z:Int) (x:Value),pl[i]? = some k/\es[k]? = some (z,x)/\ord[i]? = some x) :
  WalksS P w B I [I,a,p] [I] (fun x y=>y=x) n (fun i v=>ord[i]? = some v)
   (fun i s=>s.heap.get? I=some (siObj (.ref p) i n ep a)/\s.heap.get? a=some (sObj es ep t)/\s.heap.get? p=some { cls:=.type "tuple",data:=.seq (pl.map fun (j:Nat)=>Value.int j 0).toArray c }) where
 sub:=fun b hb=>by rw [List.mem_singleton.mp hb];exact List.mem_cons_self
 grefl:=fun _=>rfl
 gtrans:=fun _ _ _ h1 h2=>h2.trans h1
 frame:=fun i s h' tk st _ k=>⟨k I (by simp) _ st.1,k a (by simp) _ st.2.1,k p (by simp) _ st.2.2⟩
 item:=fun i s Q E hi st q=>by
  obtain ⟨k,z,x,e1,e2,e3⟩:=hx i hi
  refine si_tup (r:=some x) hh st.1 st.2.1 hf hn st.2.2 ⟨k,z,by simp [e1],e2⟩ fun h' h1 h2=>?_
  exact q _ _ e3 ⟨h1,h2.extBut a _ hne st.2.1,h2.extBut p _ hnp st.2.2⟩ ⟨fun b o hb z=>h2.extBut b o (fun y=>hb (by rw [y];exact List.mem_singleton.mpr rfl)) z,rfl,rfl,rfl,Nat.le_refl _⟩
 done:=fun s Q E st q=>by
  refine si_tup (r:=none) hh st.1 st.2.1 hf hn st.2.2 (by simp [hl]) fun h' h1=>?_
  exact q _ ⟨fun b o hb z=>h1 b o (fun y=>hb (by rw [y];exact List.mem_singleton.mpr rfl)) z,rfl,rfl,rfl,Nat.le_refl _⟩
 self:=fun i s Q E st q=>si_self st.1 q
end
section
variable {P:Program} {w:World} {A:Around} {E:Value->Shared->Prop} {s:Shared} {a:Addr} {l:List (Str×Tok)}
theorem SetT.typeIs (S:SetT w s.heap a l):s.TypeIs (.ref a) "set":=let ⟨_,_,_,e,_⟩:=S.ex;⟨_,e,rfl⟩
def WalkOf (P:Program) (w:World) (z:Nat) (a:Addr) (l:List (Str×Tok)) (I:Addr) (s':Shared):Prop:=
 ∃(ord:List Value) (fp:List Addr) (St:Nat->Shared->Prop),(∀B:Around,B.handled=none->WalksS P w B I fp [I] (fun x y=>y=x) l.length (fun i v=>ord[i]? = some v) St)/\St 0 s'/\
  (∀b∈fp,b < s'.heap.objs.size/\(b=a\/z<=b))/\I∈fp/\ord.Perm (l.map fun p=>Value.str p.1 p.2)
theorem below_0 (x:Nat):SetTable.below #[x] 0=0:=by
 unfold SetTable.below SetTable.below.go
 simp [SetTable.below.go]
theorem below_1 (x:Nat):SetTable.below #[x] (x+1)=1:=by
 unfold SetTable.below SetTable.below.go
 simp [SetTable.below.go]
theorem set_iter {Q:Value->Shared->Prop} (S:SetT w s.heap a l)
  (q:∀I s',s.heap.objs.size<=I->(∀b o,s.heap.get? b=some o->s'.heap.get? b=some o)->s'.gens=s.gens->s'.os=s.os->WalkOf P w s.heap.objs.size a l I s'->Q (.ref I) s'):wpAny (model P w) A (pyIter (.ref a)) Q E s:=by
 obtain ⟨⟨es,ep,t,ho,hel,hf,hled,hpl⟩,nd,sz⟩:=id S
 have hsz:es.size=l.length:=by rw [<-Array.length_toList,hel,List.length_map]
 have hval:es.toList.map (·.2)=l.map fun p=>Value.str p.1 p.2:=by rw [hel,List.map_map];rfl
 have lt:a < s.heap.objs.size:=Heap.lt_size ho
 refine wpAny_pyIter_slot S.typeIs PySem.F.slot_set_iter (wpAny_call_entry PySem.F.slot_set_iter S.typeIs se_entry_iter ?_ (PySem.F.args_set_iter_1 _))
 unfold Builtin.«frozenset.__iter__»
 refine wpAny_bind (m:=Builtin.Frozenset.slot0 "__iter__" ⟨[.ref a],[]⟩) (wpAny_of_eq (a:=a) rfl ?_)
 unfold Builtin.Frozenset.sizeOf
 refine wpAny_bind (wpAny_bind (wpAny_setEntries_of ho rfl hf (wpAny_pure ?_)))
 unfold setDrawn
 refine wpAny_bind (wpAny_bind (wpAny_setState_of ho rfl hf (wpAny_bind (byText_ask (wpAny_pure ?_)))))
 have last:∀(first:Value) (s1:Shared),s1.heap.get? a=some (sObj es ep t)->(∀b o,s.heap.get? b=some o->s1.heap.get? b=some o)->s.heap.objs.size<=s1.heap.objs.size->s1.gens=s.gens->s1.os=s.os->
   (∀s',s'.heap.get? s1.heap.objs.size=some (siObj first 0 es.size ep a)->(∀b o,s1.heap.get? b=some o->s'.heap.get? b=some o)->WalkOf P w s.heap.objs.size a l s1.heap.objs.size s')->
   wpAny (model P w) A.in1 (do let e <-setEpoch a;let v <-newFields "set_iterator" [first,rawInt 0,Value.ref a,rawInt es.size,rawInt e];ret v) (fun fin s'=>∃v,fin=Fin.done (Flow.ret v)/\∃T' r,s'.TypeIs v T'/\typeLookup (Value.type T') (Str.ofString "__next__")=pure (some r)/\Q v s') E s1:=by
  intro first s1 h1 k1 z1 g1 o1 hw
  refine wpAny_bind (wpAny_setEpoch_of h1 rfl hf ?_)
  unfold newFields
  refine wpAny_bind (wpAny_newObj_type ?_ (by size_fits))
  have hI:(s1.heap.push { cls:=.type "set_iterator",data:=.fields [first,rawInt 0,Value.ref a,rawInt es.size,rawInt ep].toArray }).get? s1.heap.objs.size=some (siObj first 0 es.size ep a):=Heap.get?_push_size _ rfl
  refine wpAny_pure ⟨_,rfl,"set_iterator",_,⟨_,hI,rfl⟩,si_slot_next.lookup,q _ _ z1 (fun b o e=>Heap.get?_push_of_some _ (k1 b o e)) g1 o1 (hw _ hI fun b o e=>Heap.get?_push_of_some _ e)⟩
 show wpAny _ _ (if (!byT w && (!t.plain && decide (es.size > 1)))=true then _ else _) _ _ _
 by_cases hd:(!byT w && (!t.plain && decide (es.size > 1)))=true
 ·rw [if_pos hd]
  refine wpAny_bind (draw_perm es.size (List.range es.size) _ _ (by simp) fun ys d hp=>?_)
  have hyl:ys.length=es.size:=by rw [hp.length_eq,List.length_range]
  refine wpAny_bind (wpAny_newTuple ?_ (by rw [List.length_map,hyl,hsz];exact fits_of_scanBound sz))
  refine last (.ref s.heap.objs.size) _ (Heap.get?_push_of_some _ ho) (fun b o e=>Heap.get?_push_of_some _ e) (by show _<=(Heap.push _ _).objs.size;rw [Heap.size_push];exact Nat.le_succ _) rfl rfl fun s' hI k=>?_
  have e1:(Heap.push s.heap { cls:=.type "tuple",data:=.seq (ys.map fun (i:Nat)=>rawInt i).toArray }).objs.size=s.heap.objs.size+1:=Heap.size_push _ _
  have hp':=k s.heap.objs.size _ (Heap.get?_push_size _ rfl)
  have ha':=k a _ (Heap.get?_push_of_some _ ho)
  have lts:∀j∈ys,j < es.size:=fun j hj=>List.mem_range.mp (hp.mem_iff.mp hj)
  refine ⟨ys.map fun j=>(es.toList.map (·.2)).getD j .none,_,_,fun C hC=>walks_tup (n:=l.length) (pl:=ys) (c:=0) (p:=s.heap.objs.size) (es:=es) (t:=t) (ep:=ep) (a:=a) hC (by rw [e1];exact Nat.ne_of_lt (Nat.lt_succ_of_lt lt)) (by rw [e1];exact Nat.ne_of_lt (Nat.lt_succ_self _)) hf hsz (by rw [List.length_map,hyl,hsz]) (by rw [hyl,hsz]) fun i hi=>?_,⟨by rw [<-hsz];exact hI,ha',hp'⟩,?_,by simp,?_⟩
  ·have hi':i < ys.length:=by rw [hyl,hsz];exact hi
   have hk:=lts ys[i] (List.getElem_mem hi')
   refine ⟨ys[i],es[ys[i]].1,es[ys[i]].2,List.getElem?_eq_getElem hi',Array.getElem?_eq_getElem hk,?_⟩
   rw [List.getElem?_map,List.getElem?_eq_getElem hi',Option.map_some,List.getD_eq_getElem?_getD,List.getElem?_map,Array.getElem?_toList,Array.getElem?_eq_getElem hk]
   rfl
  ·intro b hb
   simp only [List.mem_cons,List.not_mem_nil,or_false] at hb
   rcases hb with rfl | rfl | rfl
   ·exact ⟨Heap.lt_size hI,.inr (by rw [e1];exact Nat.le_succ _)⟩
   ·exact ⟨Heap.lt_size ha',.inl rfl⟩
   ·exact ⟨Heap.lt_size hp',.inr (Nat.le_refl _)⟩
  ·rw [<-hval]
   refine (hp.map _).trans ?_
   rw [show (List.range es.size).map (fun j=>(es.toList.map (·.2)).getD j .none)=es.toList.map (·.2) from ?_]
   refine List.ext_getElem? fun i=>?_
   by_cases hi:i < es.size
   ·simp [hi]
   ·simp [hi]
 ·rw [if_neg hd]
  refine wpAny_bind (wpAny_pure ?_)
  refine last (rawInt 0) s ho (fun _ _ e=>e) (Nat.le_refl _) rfl rfl fun s' hI k=>?_
  have ha':=k a _ ho
  have fpl:∀b∈[s.heap.objs.size,a],b < s'.heap.objs.size/\(b=a\/s.heap.objs.size<=b):=fun b hb=>by
   simp only [List.mem_cons,List.not_mem_nil,or_false] at hb
   rcases hb with rfl | rfl
   ·exact ⟨Heap.lt_size hI,.inr (Nat.le_refl _)⟩
   ·exact ⟨Heap.lt_size ha',.inl rfl⟩
  cases hb:byT w with
  | true=>
   refine ⟨(pickOrder (w.params.setOrder a ep) es).toList.map (·.2),_,_,fun C hC=>walks_int (n:=l.length) (es:=es) (t:=t) (ep:=ep) (a:=a) (fun _=>0) hC (Nat.ne_of_lt lt) hf hsz (by rw [List.length_map,(pick_perm _ es).length_eq,Array.length_toList,hsz]) fun i _ s1 C' E' Q' h1 hq=>?_,⟨by rw [<-hsz];exact hI,ha'⟩,fpl,by simp,?_⟩
   ·refine next_byText hb h1 hf ?_
    rw [List.getElem?_map,Array.getElem?_toList,Option.map_map] at hq
    exact hq
   ·rw [<-hval];exact (pick_perm _ es).map _
  | false=>
   have few:es.size<=1:=by
    rw [hb] at hd
    rcases Nat.lt_or_ge 1 es.size with h | h
    ·rw [hpl (fun z=>by rw [hsz,z] at h;exact absurd h (by decide))] at hd
     simp [h] at hd
    ·exact h
   have led:t.led=true:=by rw [hled,hb];rfl
   have hpz:t.place.size=es.size:=by
    unfold SetTable.fits at hf
    rw [Bool.and_eq_true] at hf
    exact eq_of_beq hf.1
   refine ⟨es.toList.map (·.2),_,_,fun C hC=>walks_int (n:=l.length) (es:=es) (t:=t) (ep:=ep) (a:=a) (fun i=>if i=0 then 0 else t.place.getD 0 0+1) hC (Nat.ne_of_lt lt) hf hsz (by rw [List.length_map,Array.length_toList,hsz]) fun i hi s1 C' E' Q' h1 hq=>?_,⟨by rw [<-hsz];exact hI,ha'⟩,fpl,by simp,by rw [hval]⟩
   refine next_few hb led few h1 hf ?_
   rcases Nat.eq_zero_or_pos es.size with z | z
   ·have e1:es = #[]:=Array.eq_empty_of_size_eq_zero z
    have e2:t.place = #[]:=Array.eq_empty_of_size_eq_zero (by rw [hpz,z])
    have e0:i=0:=by lia
    subst e0
    rw [e1] at hq
    rw [e1,e2]
    exact hq
   ·have z1:es.size=1:=by lia
    obtain ⟨x,hx⟩:∃x,es = #[x]:=⟨es[0],Array.ext (by simp [z1]) fun j h1 h2=>by
     have:j=0:=by simp at h2;exact h2
     subst this;rfl⟩
    obtain ⟨j,hj⟩:∃j,t.place = #[j]:=⟨t.place[0]'(by lia),Array.ext (by simp [hpz,z1]) fun j h1 h2=>by
     have:j=0:=by simp at h2;exact h2
     subst this;rfl⟩
    rw [hx,hj] at hq
    rw [hx,hj]
    rcases Nat.eq_zero_or_pos i with e0 | e0
    ·subst e0
     rw [if_pos rfl,below_0]
     exact hq
    ·have e1:i=1:=by lia
     subst e1
     rw [if_neg (by decide),show (#[j]:Array Nat).getD 0 0=j from rfl,below_1]
     exact hq
end
end L2
end
section
namespace L2
open PySem PySem.Spec PyProof.Rows
section
variable {P:Program} {w:World} {A:Around} {E:Value->Shared->Prop} {s:Shared} {a:Addr} {l:List (Str×Tok)}
theorem set_hint {Q:Bool->Shared->Prop} (hT:s.TypeIs (.ref a) "set") (q:Q false s):wpAny (model P w) A (Builtin.List.listLengthHint (.ref a)) Q E s:=by
 unfold Builtin.List.listLengthHint
 refine wpAny_bind (wpAny_specialOf hT PySem.F.slot_set_len.lookup ?_)
 generalize hid:("set.__len__" : String)=id0
 wp_delta
 rw [show splitId id0=some ("set","__len__") from by subst hid;decide +kernel]
 subst hid
 refine wpAny_bind (wpAny_isInstance (T:="set") (b:=true) hT (by rw [isSubtype_type];kernel_rfl) ?_)
 refine wpAny_ite_split (fun z=>absurd z (by decide)) (fun _=>wpAny_ite_split (fun _=>?_) (fun z=>absurd (by decide +kernel) z))
 exact wpAny_bind (wpAny_typeOf hT (wpAny_pure q))
theorem collect_set {Q:List Value->Shared->Prop} (hh:A.handled=none) (S:SetT w s.heap a l)
  (q:∀(s':Shared) (vs:List Value),(∀b o,s.heap.get? b=some o->s'.heap.get? b=some o)->s.heap.objs.size<=s'.heap.objs.size->s'.gens=s.gens->s'.os=s.os->vs.Perm (l.map fun p=>Value.str p.1 p.2)->Q vs s'):wpAny (model P w) A (collect (.ref a)) Q E s:=by
 have lt:a < s.heap.objs.size:=let ⟨_,_,_,e,_⟩:=S.ex;Heap.lt_size e
 unfold collect
 refine wpAny_bind (wpAny_runValue (codeAny_builtin entry_proto_collect' ?_))
 rw [Around.under_plainId PySem.F.plain_proto_collect _]
 refine wpAny_bind (m:=newList []) (wpAny_newObj_type ?_)
 refine wpAny_pure ⟨plainId_quiet PySem.F.plain_list_iadd _,codeAny_builtin entry_list_iadd' ?_⟩
 rw [Around.under_plainId PySem.F.plain_list_iadd _]
 let L0:Obj:={ cls:=.type "list",data:=.seq ([]:List Value).toArray }
 have k0:∀b o,s.heap.get? b=some o->(s.heap.push L0).get? b=some o:=fun b o e=>Heap.get?_push_of_some _ e
 have hL:(s.heap.push L0).get? s.heap.objs.size=some L0:=Heap.get?_push_size _ rfl
 have S0:SetT w (s.heap.push L0) a l:=S.at fun o e=>k0 a o e
 show wpAny _ A.in1 (Builtin.List.listExtendWith (.ref s.heap.objs.size) (.ref a) (.ref s.heap.objs.size)) _ _ { s with heap:=s.heap.push L0 }
 unfold Builtin.List.listExtendWith
 refine wpAny_bind (wpAny_typeOf (T:="set") (SetT.typeIs (s:={ s with heap:=s.heap.push L0 }) S0) ?_)
 have h1:Builtin.List.listSameRef (.ref s.heap.objs.size) (.ref a)=false:=by simp [Builtin.List.listSameRef,Nat.ne_of_gt lt]
 have h2:(Value.type "set" == Value.type "list")=false:=by decide
 have h3:(Value.type "set" == Value.type "tuple")=false:=by decide
 simp only [h1,h2,h3,Bool.or_false,Bool.false_eq_true,if_false]
 refine wpAny_bind (set_iter (s:={ s with heap:=s.heap.push L0 }) S0 fun I s1 zI k1 g1 o1 W=>?_)
 have S1:SetT w s1.heap a l:=S0.at fun o e=>k1 a o e
 have hL1:=k1 _ _ hL
 have hne:s.heap.objs.size≠I:=by
  have:(s.heap.push L0).objs.size<=I:=zI
  rw [Heap.size_push] at this
  exact Nat.ne_of_lt this
 refine wpAny_bind (wpAny_holding (set_hint (SetT.typeIs S1) ?_))
 refine hide fun gG hG=>?_
 obtain ⟨ord,fp,St,wk,st,fpl,mI,po⟩:=W
 refine hG ?_
 have hlen:l.length<=sizeLine:=fits_of_scanBound S.sz
 have z1:(s.heap.push L0).objs.size=s.heap.objs.size+1:=Heap.size_push _ _
 have nf:s.heap.objs.size∉fp:=fun z=>by
  rcases (fpl _ z).2 with e | e
  ·exact absurd e (Nat.ne_of_gt lt)
  ·have e':(s.heap.push L0).objs.size<=s.heap.objs.size:=e
   rw [z1] at e'
   exact absurd e' (Nat.not_succ_le_self _)
 refine wpAny_ite_split (fun _=>?_) (fun z=>absurd (by decide +kernel) z)
 refine wpAny_bind (wpAny_rule (wpAny_bind ?_))
 show wpAny _ _ (updateSeq s.heap.objs.size (·.push .none) >>= fun _=>updateSeq s.heap.objs.size (·.pop)) _ _ _
 refine wpAny_bind (wpAny_updateSeq hL1 rfl ?_)
 have hL2:=Heap.get?_update_self (Obj.mapSeq (·.push Value.none)) hL1 rfl
 refine wpAny_updateSeq (hz:=by seq_fits) hL2 rfl ?_
 have hL3:=Heap.get?_update_self (Obj.mapSeq (·.pop)) hL2 rfl
 have oth:∀b o,b≠s.heap.objs.size->s1.heap.get? b=some o->((s1.heap.update s.heap.objs.size (Obj.mapSeq (·.push Value.none))).update s.heap.objs.size (Obj.mapSeq (·.pop))).get? b=some o:=
  fun b o hb e=>(Heap.get?_update_other _ _ (Ne.symm hb)).trans ((Heap.get?_update_other _ _ (Ne.symm hb)).trans e)
 have W1:=wk A.in1 hh
 refine wpAny_pure ⟨plainId_quiet PySem.F.plain_extend_loop _,codeAny_extend_loopS W1 hlen _ nf _ l.length 0 _ #[] _ rfl (Nat.zero_le _) (W1.frame 0 s1 _ s1.toks st (Nat.le_refl _) fun b hb o e=>oth b o (fun z=>nf (z ▸ hb)) e) hL3 (ItemsOf.nil _) fun s2 acc c2 mv hS2 hacc=>?_⟩
 refine wpAny_bind (m:=load s.heap.objs.size) (wpAny_load hS2 (wpAny_pure ?_))
 refine q s2 acc.toList (fun b o e=>mv.heap b o (fun hm=>?_) (oth b o (Nat.ne_of_lt (Heap.lt_size e)) (k1 b o (k0 b o e)))) (Nat.le_of_lt (Heap.lt_size hS2)) (mv.gens.trans g1) (mv.os.trans o1) ?_
 ·have hlt:b < s.heap.objs.size:=Heap.lt_size e
  rcases List.mem_cons.mp hm with e1 | e1
  ·exact absurd e1 (Nat.ne_of_lt hlt)
  ·rw [List.mem_singleton.mp e1] at hlt
   have:(s.heap.push L0).objs.size<=I:=zI
   rw [z1] at this
   exact absurd (Nat.lt_of_lt_of_le hlt (Nat.le_of_succ_le this)) (Nat.lt_irrefl _)
 ·have e:acc.toList=ord:=by
   refine List.ext_getElem? fun j=>?_
   by_cases hj:j < l.length
   ·have h0:j < acc.size:=by rw [hacc.1];exact hj
    have h1:acc[j]? = some acc[j]:=Array.getElem?_eq_getElem h0
    rw [Array.getElem?_toList,h1,hacc.2 j _ h1]
   ·rw [List.getElem?_eq_none (by rw [Array.length_toList,hacc.1];lia),List.getElem?_eq_none (by rw [po.length_eq,List.length_map];lia)]
  rw [e];exact po
theorem strs_back {vs:List Value} {l:List (Str×Tok)} (po:vs.Perm (l.map fun p=>Value.str p.1 p.2)):∃ts,StrsAre vs ts/\ts.Perm (l.map (·.1)):=by
 have:∃l':List (Str×Tok),vs=l'.map (fun p:Str×Tok=>Value.str p.1 p.2)/\l'.Perm l:=by
  let back:Value->Str×Tok:=fun e=>match e with | .str x t=>(x,t) | _=>(default,0)
  refine ⟨vs.map back,?_,?_⟩
  ·rw [List.map_map]
   conv=>lhs;rw [<-List.map_id vs]
   refine List.map_congr_left fun e he=>?_
   obtain ⟨z,_,rfl⟩:=List.mem_map.mp (po.mem_iff.mp he)
   rfl
  ·have:=po.map back
   rw [List.map_map,show (back ∘ fun p:Str×Tok=>Value.str p.1 p.2)=id from rfl,List.map_id] at this
   exact this
 obtain ⟨l',rfl,pl⟩:=this
 refine ⟨l'.map (·.1),?_,pl.map _⟩
 clear po pl
 induction l' with
 | nil=>exact .nil
 | cons p l' ih=>exact .cons p.1 p.2 ih
theorem sorted_by {x:Value} {us:List Str} {Q:Value->Shared->Prop} (h64:us.length < 64)
  (hc:∀(Q':List Value->Shared->Prop),(∀(s':Shared) (vs:List Value) (ts:List Str),(∀b o,s.heap.get? b=some o->s'.heap.get? b=some o)->s.heap.objs.size<=s'.heap.objs.size->s'.gens=s.gens->s'.os=s.os->StrsAre vs ts->ts.Perm us->Q' vs s')->wpAny (model P w) A.in1 (collect x) Q' E s)
  (q:∀(s':Shared) (D c:Nat) (vs:List Value) (ss:List Str),(∀b o,s.heap.get? b=some o->s'.heap.get? b=some o)->s.heap.objs.size<=D->s'.gens=s.gens->s'.os=s.os->s'.heap.get? D=some { cls:=.type "list",data:=.seq vs.toArray c }->StrsAre vs ss->
   ss.Perm us->sortedS ss=true->Q (.ref D) s'):wpAny (model P w) A (call (.builtin "sorted") [x]) Q E s:=by
 refine Calls.call_function_entry kind_sorted plain_sorted entry_sorted (args_sorted1 _) ?_
 unfold Builtin.«sorted»
 refine wpAny_bind (m:=checkCount "sorted" 1 1 _) (wpAny_pure ?_)
 refine wpAny_bind (hc _ fun s1 vs ts k1 old g1 o1 hts pts=>?_)
 have hl:vs.length=us.length:=by rw [hts.length,pts.length_eq]
 refine wpAny_bind (wpAny_newList ?_ (by rw [hl];exact small1000' (by lia)))
 have hoL:(s1.heap.push (seqObj "list" vs.toArray 0)).get? s1.heap.objs.size=some (seqObj "list" vs.toArray 0):=Heap.get?_push_size _ rfl
 refine wpAny_bind (wpAny_holding (wpAny_call_entry slot_list_sort ⟨_,hoL,rfl⟩ entry_list_sort (list_sort_treeK strKind_oneLt hoL hts.keysOf (fun v₁ v₂ rest e=>keyKind_strs (by rw [<-e];exact hts)) (by lia) fun st' a1 a2=>⟨_,rfl,?_⟩) (args_list_sort _)))
 refine hide fun gG hG=>?_
 obtain ⟨ss',e1,e2,e3⟩:=sorted_out_str hts a1 a2
 obtain ⟨c,hc⟩:=sortedHeap_at (out:=(arrOf st').map (·.2)) hoL
 refine hG ?_
 refine wpAny_pure ⟨_,rfl,q _ s1.heap.objs.size c ((arrOf st').map (·.2)).toList ss' (fun b o e=>?_) old g1 o1 (by rw [hc]) e1 (e2.trans pts) e3⟩
 have lt:=Heap.lt_size (k1 b o e)
 show (sortedHeap _ _ _ _).get? b=some o
 rw [sortedHeap_old (Nat.ne_of_lt lt) (by rw [size_push'];exact Nat.lt_succ_of_lt lt)]
 exact Heap.get?_push_of_some _ (k1 b o e)
end
theorem Inv.same {X:Cx} {pins:List (Addr×Obj)} {σ:List (Option V)} {H:Hp} {s s':Shared} (I:Inv X pins σ H s) (hh:s'.heap=s.heap) (hg:s'.gens=s.gens) (ho:s'.os=s.os):Inv X pins σ H s':=
 ⟨I.ok,by rw [ho];exact I.os,by rw [hg];exact I.bare,by rw [hh];exact I.base,by rw [hh];exact I.loc,by rw [hh];exact I.cell,I.free,I.freeC,by rw [hh];exact I.pin,by rw [hh];exact I.hok,I.len⟩
def TxS (w:World) (p:Addr) (ss:List Str):HO:=.ext fun h=>∃l,SetT w h p l/\∀z,z∈l.map (·.1)↔z∈ss
section
variable {X:Cx}
def rSetS (K:PySem.W.Frag) (w:World):List V->Hp->VK->Prop:=fun vs H Q=>∃a ss,vs=[.ref a]/\SqL K H a (ss.map V.str)/\ss.length < 4000/\∀p,H p=none->Q (.ref p) (upd H p (TxS w p ss))
theorem call_setS (hh:X.A.handled=none):CallR X (.type "set") (rSetS X.K X.w):=by
 intro pins s σ H vs us Q I rv h
 refine hide fun gG hG=>?_
 obtain ⟨a,ss,rfl,hq,hn,q⟩:=h
 obtain ⟨u,rfl,ru⟩:=vals1 rv
 refine hG ?_
 cases ru
 refine hide fun gG hG=>?_
 obtain ⟨its,r,pl,hz⟩:=I.list hq
 refine hG ?_
 have hl:=r.length
 rw [List.length_map] at hl
 refine set_txts (ss:=ss) hh pl.isList (strsAre_of r) (by show its.toArray.size+1 < 4096;rw [List.size_toArray];lia) fun h' tk ls hS hm hk=>?_
 have hk':∀b o,s.heap.get? b=some o->h'.get? b=some o:=fun b o e=>hk b o (Heap.lt_size e) e
 refine ⟨.ref s.heap.objs.size,_,I.laid (t':=tk) (o:=TxS X.w s.heap.objs.size ss) hk' (Nat.le_refl _) ?_,rfl,q _ I.fresh⟩
 exact ⟨⟨ls,hS,hm⟩,(let ⟨_,_,_,e,_⟩:=hS.ex;⟨_,e⟩),fun h1 h2 ⟨l1,x1,m1⟩ k=>⟨l1,x1.at k,m1⟩⟩
def rSortedSet (w:World):List V->Hp->VK->Prop:=fun vs H Q=>∃a ss,vs=[.ref a]/\H a=some (TxS w a ss)/\ss.length < 64/\
 ∀ss':List Str,(∀z,z∈ss'↔z∈ss)->ss'.Nodup->sortedS ss'=true->∀p,H p=none->Q (.ref p) (upd H p (.lst (ss'.map V.str)))
theorem nodup_sub {α:Type} [DecidableEq α]:∀{l m:List α},l.Nodup->(∀x∈l,x∈m)->l.length<=m.length
 | [],m,_,_=>Nat.zero_le _
 | x::l,m,h,k=>by
  have hx:=k x List.mem_cons_self
  have:=nodup_sub (m:=m.erase x) (List.nodup_cons.mp h).2 fun y hy=>(List.mem_erase_of_ne (fun (e:y=x)=>(List.nodup_cons.mp h).1 (by rw [<-e];exact hy))).mpr (k y (List.mem_cons_of_mem _ hy))
  rw [List.length_erase_of_mem hx] at this
  have p:0 < m.length:=List.length_pos_of_mem hx
  rw [List.length_cons];lia
theorem call_sortedSet (hh:X.A.handled=none):CallR X (.builtin "sorted") (rSortedSet X.w):=by
 intro pins s σ H vs us Q I rv h
 refine hide fun gG hG=>?_
 obtain ⟨a,ss,rfl,hq,hn,q⟩:=h
 obtain ⟨u,rfl,ru⟩:=vals1 rv
 refine hG ?_
 cases ru
 refine hide fun gG hG=>?_
 obtain ⟨⟨l,hS,hm⟩,_,_⟩:=I.hok a _ hq
 refine hG ?_
 have hl:(l.map (·.1)).length<=ss.length:=nodup_sub hS.nd fun x hx=>(hm x).mp hx
 refine sorted_by (us:=l.map (·.1)) (by lia) (fun Q' hQ'=>collect_set (A:=X.A.in1) hh hS fun s' vs k z g o po=>let ⟨ts,h1,h2⟩:=strs_back po;hQ' s' vs ts k z g o h1 h2) fun s' D c vs ss' k z g o hD hvs pss srt=>?_
 have hn':H D=none:=I.hok.fresh z
 have I1:Inv X pins σ (upd H D (.lst (ss'.map V.str))) { s with heap:=s'.heap,toks:=s.toks }:=I.laid k z ⟨by rw [List.length_map,pss.length_eq];exact small1000' (by lia),vs,c,vals_strs hvs,hD⟩
 refine ⟨.ref D,_,I1.same rfl g o,rfl,q ss' (fun z=>(pss.mem_iff).trans (hm z)) (pss.nodup_iff.mpr hS.nd) srt _ hn'⟩
end
end L2
end
section
namespace L2
open PySem PySem.Spec PyProof.Rows
theorem cutS_to (z:Str) {v:Int} (h:0<=v):(cutS z none (some v)).cps.toList=z.cps.toList.take v.toNat:=by
 have hl:z.cps.toList.length=z.length:=by simp [Str.length]
 unfold cutS
 have e:HT.sIx z.length z.length (some v)=min v.toNat z.length:=by
  show (if v < 0 then _ else min v.toNat z.length)=_
  rw [if_neg (by lia)]
 rw [e]
 show (List.take (min v.toNat z.length - 0) (List.drop 0 z.cps.toList))=_
 rw [List.drop_zero,Nat.sub_zero,<-hl]
 by_cases hv:v.toNat<=z.cps.toList.length
 ·rw [Nat.min_eq_left hv]
 ·rw [Nat.min_eq_right (by lia),List.take_length,List.take_of_length_le (by lia)]
theorem cutS_from (z:Str) {v:Int} (h:0<=v):(cutS z (some v) none).cps.toList=z.cps.toList.drop v.toNat:=by
 have hl:z.cps.toList.length=z.length:=by simp [Str.length]
 unfold cutS
 have e:HT.sIx z.length 0 (some v)=min v.toNat z.length:=by
  show (if v < 0 then _ else min v.toNat z.length)=_
  rw [if_neg (by lia)]
 rw [e]
 show (List.take (z.length - min v.toNat z.length) (List.drop (min v.toNat z.length) z.cps.toList))=_
 rw [<-hl]
 by_cases hv:v.toNat<=z.cps.toList.length
 ·rw [Nat.min_eq_left hv,List.take_of_length_le (by rw [List.length_drop] <;> lia)]
 ·rw [Nat.min_eq_right (by lia),Nat.sub_self,List.take_zero,List.drop_eq_nil_of_le (by lia)]
theorem len_cps (z:Str):z.cps.toList.length=z.length:=by simp [Str.length]
theorem app_cps (x y:Str):(x++y).cps.toList=x.cps.toList++y.cps.toList:=by
 show (x.cps++y.cps).toList=_
 simp
theorem glued_cps {g:Str} (hg:g.cps = #[]):∀ss:List Str,(Txt.join g ss).cps.toList=(ss.map fun z=>z.cps.toList).flatten:=by
 have go:∀(l:List Str) (acc:Array Nat),(l.foldl (fun acc p=>acc++g.cps++p.cps) acc).toList=acc.toList++(l.map fun z=>z.cps.toList).flatten:=by
  intro l
  induction l with
  | nil=>intro acc;simp
  | cons z l ih=>intro acc;rw [List.foldl_cons,ih,hg];simp
 intro ss
 show ((ss.drop 1).foldl (fun acc p=>acc++g.cps++p.cps) (ss.headD Str.empty).cps).toList=_
 cases ss with
 | nil=>rfl
 | cons z l=>rw [go];simp
theorem joinOk_of {sep:Str} {ss:List Str} {L n:Nat} (h:∀z∈ss,z.length<=L) (hn:ss.length<=n) (hb:n * (L+sep.length)<=16000000):JoinOk sep ss=true:=by
 have go:∀(l:List Str) (a:Nat),(∀z∈l,z.length<=L)->l.foldl (fun a x=>a+x.length+sep.length) a<=a+l.length * (L+sep.length):=by
  intro l
  induction l with
  | nil=>intro a _;simp
  | cons z l ih=>
   intro a hz
   have h1:=ih (a+z.length+sep.length) (fun y hy=>hz y (List.mem_cons_of_mem _ hy))
   have h2:=hz z List.mem_cons_self
   rw [List.foldl_cons,List.length_cons,Nat.add_mul]
   lia
 unfold JoinOk
 have e:ss.toArray.foldl (fun a x=>a+x.length+sep.length) 0=ss.foldl (fun a x=>a+x.length+sep.length) 0:=by simp
 rw [e]
 have h1:=go ss 0 h
 have h2:ss.length * (L+sep.length)<=n * (L+sep.length):=Nat.mul_le_mul_right _ hn
 have:¬(ss.foldl (fun a x=>a+x.length+sep.length) 0 > sizeLine):=by rw [sizeLine_eq];lia
 unfold Builtin.Str.tooLong
 rw [decide_eq_false this];rfl
def Nm (s:Str):Prop:=1<=s.length/\s.length<=8/\∀c∈s.cps.toList,97<=c/\c<=122
theorem letters_at:∀n:Nat,n < 26->(Str.ofString "abcdefghijklmnopqrstuvwxyz").cps.toList[n]? = some (97+n):=by decide +kernel
theorem atI_letters {i:Int} (h0:0<=i) (h:i < 26):atI (Str.ofString "abcdefghijklmnopqrstuvwxyz").cps.toList i=some (97+i.toNat):=by
 have ei:i=((i.toNat:Nat):Int):=by lia
 have q:atI (Str.ofString "abcdefghijklmnopqrstuvwxyz").cps.toList ((i.toNat:Nat):Int)=some (97+i.toNat):=atI_nat (letters_at i.toNat (by lia))
 rwa [<-ei] at q
def lits:List Str:=["is","not","and","or","then","same","yes","no","say","fix","isa","nota","a"].map Str.ofString
theorem lits_nodup:lits.Nodup:=by decide +kernel
theorem lits_len:lits.length=13:=rfl
theorem lits_nm:∀s∈lits,Nm s:=by
 have:∀s∈lits,(decide (1<=s.length) && decide (s.length<=8) && s.cps.toList.all fun c=>decide (97<=c) && decide (c<=122))=true:=by decide +kernel
 intro s hs
 have h:=this s hs
 rw [Bool.and_eq_true,Bool.and_eq_true] at h
 refine ⟨of_decide_eq_true h.1.1,of_decide_eq_true h.1.2,fun c hc=>?_⟩
 have:=List.all_eq_true.mp h.2 c hc
 rw [Bool.and_eq_true] at this
 exact ⟨of_decide_eq_true this.1,of_decide_eq_true this.2⟩
theorem nodup_ix' {α:Type} {l:List α} (h:∀(i j:Nat) (x:α),i < j->l[i]? = some x->l[j]? = some x->False):l.Nodup:=by
 unfold List.Nodup
 rw [List.pairwise_iff_getElem]
 intro i j hi hj hij e
 exact h i j l[i] hij (List.getElem?_eq_getElem hi) (by rw [List.getElem?_eq_getElem hj,e])
theorem sortedS_pw:∀{l:List Str},sortedS l=true->l.Pairwise (fun a b=>a.cps.toList<=b.cps.toList)
 | [],_=>.nil
 | x::r,h=>by
  have go:∀(r:List Str) (x:Str),risingS x r=true->(x::r).Pairwise (fun a b=>a.cps.toList<=b.cps.toList):=by
   intro r
   induction r with
   | nil=>intro x _;exact .cons (fun _ h=>nomatch h) .nil
   | cons y r ih=>
    intro x h
    have h':(!ltCps y.cps.toList x.cps.toList && risingS y r)=true:=h
    rw [Bool.and_eq_true,ltCps_eq] at h'
    have p:=ih y h'.2
    have hxy:x.cps.toList<=y.cps.toList:=by
     have:¬(y.cps.toList < x.cps.toList):=by simpa using h'.1
     exact List.not_lt.mp this
    refine .cons (fun z hz=>?_) p
    rcases List.mem_cons.mp hz with e | hz
    ·rw [e];exact hxy
    ·exact List.le_trans hxy ((List.pairwise_cons.mp p).1 z hz)
  exact go r x h
theorem sorted_same {a b c:List Str} (h1:sortedS a=true) (h2:sortedS b=true) (p1:a.Perm c) (p2:b.Perm c):a=b:=
 List.Perm.eq_of_pairwise (fun x y _ _ h h'=>str_ext (List.le_antisymm h h')) (sortedS_pw h1) (sortedS_pw h2) (p1.trans p2.symm)
theorem tyV_str (K:PySem.W.Frag) (z:Str) (H:Hp):tyV K "str" (.str z) H=True:=eq_true rfl
theorem all_flat (ss:List Str):(List.map V.str ss).all flatV=true:=by
 rw [List.all_eq_true];intro x hx;obtain ⟨z,_,rfl⟩:=List.mem_map.mp hx;rfl
theorem inV_strs (s:Str) (ss:List Str):inV (.str s) (List.map V.str ss)=decide (s∈ss):=by
 induction ss with
 | nil=>rfl
 | cons z ss ih=>
  show (eqV (.str z) (.str s) || inV (.str s) (List.map V.str ss))=_
  rw [ih]
  show ((z == s) || decide (s∈ss))=_
  by_cases e:s=z
  ·subst e;simp
  ·have:(z == s)=false:=by simpa using fun q:z=s=>e q.symm
   rw [this];simp [e]
theorem nm_of {s:Str} {cs:List Nat} (e:s.cps.toList=cs) (h1:1<=cs.length) (h2:cs.length<=8) (h:∀c∈cs,97<=c/\c<=122):Nm s:=by
 have:=len_cps s
 rw [e] at this
 exact ⟨by lia,by lia,by rw [e];exact h⟩
end L2
end
section
namespace L2
open PySem PySem.Spec PyProof.Rows
section
variable {X:Cx}
def qSetS (w:World):List V->Hp->VK->Prop:=fun vs H Q=>∃a,vs=[.ref a]/\∃ss:List Str,H a=some (.lst (ss.map V.str))/\ss.length < 4000/\∀p,H p=none->Q (.ref p) (upd H p (TxS w p ss))
theorem call_setQ (hh:X.A.handled=none):CallR X (.type "set") (qSetS X.w):=(call_setS hh).imp fun x H Q ⟨p,e,ss,h,n,q⟩=>⟨p,ss,e,sqL_of h,n,q⟩
def qSortSet (w:World):List V->Hp->VK->Prop:=fun vs H Q=>∃a,vs=[.ref a]/\∃ss:List Str,H a=some (TxS w a ss)/\ss.length < 64/\
 ∀ss':List Str,(∀z,z∈ss'↔z∈ss)->ss'.Nodup->sortedS ss'=true->∀p,H p=none->Q (.ref p) (upd H p (.lst (ss'.map V.str)))
theorem call_sortSetQ (hh:X.A.handled=none):CallR X (.builtin "sorted") (qSortSet X.w):=(call_sortedSet hh).imp fun x H Q ⟨p,e,ss,h,n,q⟩=>⟨p,ss,e,h,n,q⟩
def qAllB:List V->Hp->VK->Prop:=fun vs H Q=>∃a,vs=[.ref a]/\∃bs:List Bool,H a=some (.lst (bs.map V.bl))/\Q (.bl (bs.all id)) H
theorem bools_at:∀{bs:List Bool} {us:List Value},Vals (bs.map V.bl) us->∀(i:Nat) (v:Value),us[i]? = some v->v=.bool (bs.getD i true):=by
 intro bs
 induction bs with
 | nil=>intro us r i v h;cases r;cases i <;> cases h
 | cons b bs ih=>
  intro us r i v h
  rw [List.map_cons] at r
  cases r with
  | cons r1 r2=>
   cases r1
   cases i with
   | zero=>cases h;rfl
   | succ i=>exact ih r2 i v (by simpa using h)
theorem all_range:∀(bs:List Bool),((List.range bs.length).all fun i=>bs.getD i true)=bs.all id
 | []=>rfl
 | b::bs=>by
  rw [List.length_cons,List.range_succ_eq_map,List.all_cons,List.all_map,List.all_cons,<-all_range bs]
  rfl
theorem call_allB (hh:X.A.handled=none):CallR X (.builtin "all") qAllB:=by
 intro pins s σ H vs us Q I rv h
 obtain ⟨a,rfl,bs,hq,q⟩:=h
 obtain ⟨u,rfl,ru⟩:=vals1 rv
 cases ru
 obtain ⟨its,r,pl,hz⟩:=I.list (sqL_of hq)
 have hl:=r.length
 rw [List.length_map] at hl
 have lt:a < s.heap.objs.size:=let ⟨_,e,_⟩:=pl.isList;Heap.lt_size e
 refine call_all_walkS (wpAny_pyIter_list pl.isList ⟨s.heap.objs.size,_,_,_,its.toArray.size,_,_,fun i=>bs.getD i true,rfl,(Walks.list (A:=X.A.in1) hh _ a (Nat.ne_of_lt lt) its.toArray).toS,⟨⟨_,Heap.get?_push_size _ rfl,rfl,rfl⟩,(pl.isList).push _⟩,?_,fun s' mv=>?_⟩)
 ·intro i v s1 Q1 E1 hv hq1
  have:v=.bool (bs.getD i true):=bools_at r i v (by simpa using hv)
  subst this
  exact wpAny_pure hq1
 ·rw [List.size_toArray,<-hl,all_range]
  have k:∀b o,s.heap.get? b=some o->s'.heap.get? b=some o:=fun b o e=>mv.heap b o (fun z=>absurd (Heap.lt_size e) (by rw [List.mem_singleton.mp z];exact Nat.lt_irrefl _)) (Heap.get?_push_of_some _ e)
  have I1:Inv X pins σ H { s with heap:=s'.heap,toks:=s.toks }:=I.un (Un.kept k) (I.hok.kept k)
  exact ⟨.bl (bs.all id),H,I1.same rfl mv.gens mv.os,rfl,q⟩
end
end L2
end
section
namespace L2
open PySem PySem.Spec PyProof.Rows
section
variable {P:Program} {w:World} {κ:Type} [DecidableEq κ] {knd:PySem.KeyKind P w κ} {A:Around} {E:Value->Shared->Prop} {s:Shared} {a b:Addr} {kvs kvs2:List (κ×Value)}
end
section
variable {X:Cx}
def qEqD (neg:Bool):R2:=fun x y H Q=>∃a b,x=.ref a/\y=.ref b/\∃kvs,H a=some (.dK kvs)/\H b=some (.dK kvs)/\(∀kv∈kvs,∃c,kv.2=.bl c)/\Q (.bl (!neg)) H
end
end L2
end
section
namespace L2
open PySem PySem.Spec PyProof.Rows
abbrev Cl:=List (Str×Bool)
def LitAt (H:Hp) (q:Addr) (x:Str×Bool):Prop:=H q=some (.tup [.str x.1,.bl x.2])
def Lits (H:Hp) (qs:List Addr) (cl:Cl):Prop:=qs.length=cl.length/\∀(i:Nat) q x,qs[i]? = some q->cl[i]? = some x->LitAt H q x
def ClAt (H:Hp) (cl:Cl) (p:Addr):Prop:=∃qs:List Addr,H p=some (.tup (List.map V.ref qs))/\Lits H qs cl
theorem Lits.nil {H:Hp}:Lits H [] []:=⟨rfl,fun i q x e=>by simp at e⟩
theorem Lits.mono {H H':Hp} {qs:List Addr} {cl:Cl} (h:Lits H qs cl) (k:∀q xs,H q=some (.tup xs)->H' q=some (.tup xs)):Lits H' qs cl:=⟨h.1,fun i q x e f=>k _ _ (h.2 i q x e f)⟩
theorem ClAt.mono {H H':Hp} {p:Addr} {cl:Cl} (h:ClAt H cl p) (k:∀q xs,H q=some (.tup xs)->H' q=some (.tup xs)):ClAt H' cl p:=let ⟨qs,e,l⟩:=h;⟨qs,k _ _ e,l.mono k⟩
theorem Lits.at {H:Hp} {qs:List Addr} {cl:Cl} {i:Nat} {q:Addr} (h:Lits H qs cl) (e:qs[i]? = some q):∃n b,cl[i]? = some (n,b)/\H q=some (.tup [.str n,.bl b]):=by
 have hi:i < cl.length:=by rw [<-h.1];exact (List.getElem?_eq_some_iff.mp e).1
 have ec:cl[i]? = some (cl[i].1,cl[i].2):=List.getElem?_eq_getElem hi
 exact ⟨_,_,ec,h.2 i q _ e ec⟩
theorem Lits.snoc {H:Hp} {qs:List Addr} {cl:Cl} {q:Addr} {x:Str×Bool} (h:Lits H qs cl) (e:LitAt H q x):Lits H (qs++[q]) (cl++[x]):=by
 refine ⟨by simp [h.1],fun i p y ep ey=>?_⟩
 by_cases hi:i < qs.length
 ·rw [List.getElem?_append_left hi] at ep
  rw [List.getElem?_append_left (by rw [<-h.1];exact hi)] at ey
  exact h.2 i p y ep ey
 ·have l:=(List.getElem?_eq_some_iff.mp ep).1
  rw [List.length_append,List.length_singleton] at l
  have hi':i=qs.length:=by lia
  rw [hi',List.getElem?_append_right (Nat.le_refl _),Nat.sub_self] at ep
  rw [hi',h.1,List.getElem?_append_right (Nat.le_refl _),Nat.sub_self] at ey
  cases ep
  cases ey
  exact e
section
variable {X:Cx} {pins:List (Addr×Obj)} {s:Shared} {σ:St} {H:Hp} {A:Around}
theorem all_lits {cl dl:Cl}:((List.range (min cl.length dl.length)).all (fun j=>decide (cl[j]? = dl[j]?)) && cl.length == dl.length)=decide (cl=dl):=by
 rw [Bool.eq_iff_iff,Bool.and_eq_true,List.all_eq_true,decide_eq_true_iff,beq_iff_eq]
 constructor
 ·rintro ⟨h,l⟩
  apply List.ext_getElem?
  intro i
  by_cases hi:i < cl.length
  ·exact of_decide_eq_true (h i (List.mem_range.mpr (by lia)))
  ·rw [List.getElem?_eq_none (by lia),List.getElem?_eq_none (by lia)]
 ·rintro rfl
  exact ⟨fun j _=>decide_eq_true rfl,rfl⟩
end
end L2
end
section
namespace L2
open PySem PySem.Spec PyProof.Rows
section
variable {P:Program} {w:World} {A:Around} {E:Value->Shared->Prop} {s:Shared}
theorem collect_src {T:String} {r d:Addr} {n:Nat} {Pd:Nat->Value->Prop} {OK:Heap->Prop} {Q:List Value->Shared->Prop} (K:PySem.W.KdlSrc P w T r d n Pd OK) (hh:A.handled=none) (hok:OK s.heap) (hn:n<=sizeLine)
  (q:∀(s':Shared) (vs:List Value),(∀b o,s.heap.get? b=some o->s'.heap.get? b=some o)->s.heap.objs.size<=s'.heap.objs.size->s'.gens=s.gens->s'.os=s.os->vs.length=n->(∀(j:Nat) v,vs[j]? = some v->Pd j v)->Q vs s'):wpAny (model P w) A (collect (.ref r)) Q E s:=by
 have lt:=K.there _ hok
 unfold collect
 refine wpAny_bind (wpAny_runValue (codeAny_builtin entry_proto_collect' ?_))
 rw [Around.under_plainId PySem.F.plain_proto_collect _]
 refine wpAny_bind (m:=newList []) (wpAny_newObj_type ?_)
 refine wpAny_pure ⟨plainId_quiet PySem.F.plain_list_iadd _,codeAny_builtin entry_list_iadd' ?_⟩
 rw [Around.under_plainId PySem.F.plain_list_iadd _]
 let L0:Obj:={ cls:=.type "list",data:=.seq ([]:List Value).toArray }
 have k0:∀b o,s.heap.get? b=some o->(s.heap.push L0).get? b=some o:=fun b o e=>Heap.get?_push_of_some _ e
 have hL:(s.heap.push L0).get? s.heap.objs.size=some L0:=Heap.get?_push_size _ rfl
 show wpAny _ A.in1 (Builtin.List.listExtendWith (.ref s.heap.objs.size) (.ref r) (.ref s.heap.objs.size)) _ _ { s with heap:=s.heap.push L0 }
 let R0:Result->Shared->Prop:=fun r s'=>match r with
  | .ok (.ret v)=>wpAny (model P w) A (match v with
   | .ref a=>do
    let o <-load a
    match o.data with
     | .seq xs _=>pure xs.toList
     | _=>unsupported "internal:collect"
   | _=>unsupported "internal:collect") Q E s'
  | .ok _=>False
  | .error e=>E e s'
 refine PySem.W.kdl_extend (R:=R0) (s:={ s with heap:=s.heap.push L0 }) K hh (K.keep _ _ hok fun b _ o e=>k0 b o e) s.heap.objs.size (Nat.ne_of_gt lt.1) (Nat.ne_of_gt lt.2) _ 0 hL (fun h' tk acc c hk hS hacc=>?_) hn
 refine wpAny_bind (m:=load s.heap.objs.size) (wpAny_load hS (wpAny_pure ?_))
 exact q _ acc.toList (fun b o e=>hk b o (Nat.ne_of_lt (Heap.lt_size e)) (k0 b o e)) (Nat.le_of_lt (Heap.lt_size hS)) rfl rfl (by rw [Array.length_toList];exact hacc.1) fun j v e=>hacc.2 j v (by rw [<-Array.getElem?_toList];exact e)
end
section
variable {X:Cx}
end
end L2
end
section
namespace L2
open PySem PySem.Spec PyProof.Rows
section
variable {X:Cx} {tg:Expr}
end
section
variable {X:Cx}
end
end L2
end
section
namespace L2
open PySem PySem.Spec PyProof.Rows
section
variable {X:Cx}
end
end L2
end
section
namespace L2
open PySem PySem.Spec PyProof.Rows
section
variable {X:Cx}
end
end L2
end
section
namespace L2
open PySem PySem.Spec PyProof.Rows
section
variable {X:Cx}
theorem cat_tup0 {prog:Program} {w:World} {A:Around} {E:Value->Shared->Prop} {s:Shared} {t b:Addr} {ws:List Value} {Q:Value->Shared->Prop} (ht:IsTup s.heap t (([]:List Value)).toArray) (hb:IsTup s.heap b ws.toArray)
  (h1:Q (.ref b) s):wpAny (model prog w) A (binaryOp .Add (.ref t) (.ref b)) Q E s:=by
 obtain ⟨⟨cls,dd,data,sl⟩,ho,hc,n,hd⟩:=id ht
 obtain ⟨⟨cls2,dd2,data2,sl2⟩,ho2,hc2,n2,hd2⟩:=id hb
 simp only at hc hd hc2 hd2
 subst hc hd hc2 hd2
 exact concat_meets ⟨_,ho,rfl⟩ ⟨_,ho2,rfl⟩ noFill_tuple_add seq_tuple_add PySem.F.slot_tuple_add PySem.F.entry_tuple_add (PySem.F.args_tuple_add_2 _ _)
   (tuple_addW0 t b _ ws.toArray n n2 dd dd2 sl sl2 rfl) ⟨ho,ho2,h1⟩
def qCatT:R2:=fun x y H Q=>∃a b,x=.ref a/\y=.ref b/\∃xs,H a=some (.tup xs)/\∃ys,H b=some (.tup ys)/\xs.length+ys.length<=sizeLine/\
 ∀p H',Same H H'->(∀c,c≠p->H' c=H c)->H' p=some (.tup (xs++ys))->Q (.ref p) H'
theorem op_catTQ:OpR X (binaryOp .Add) qCatT:=by
 intro pins s σ H x y v u Q I rx ry h
 obtain ⟨a,b,rfl,rfl,xs,ha,ys,hb,hz,q⟩:=h
 by_cases hx:xs=[]
 ·subst hx
  cases rx;cases ry
  obtain ⟨its,r1,p1,_⟩:=I.tuple (sqT_of ha)
  obtain ⟨its2,r2,p2,_⟩:=I.tuple (sqT_of hb)
  cases r1
  exact cat_tup0 p1 p2 ⟨.ref b,H,I,rfl,q b H (Same.refl H) (fun _ _=>rfl) hb⟩
 ·exact op_catT pins s σ H _ _ v u Q I rx ry ⟨a,b,xs,ys,rfl,rfl,sqT_of ha,sqT_of hb,hx,hz,fun e=>q a H (Same.refl H) (fun _ _=>rfl) (by rw [e,List.append_nil];exact ha),fun _ p hp=>q p _ (fun b u e=>by rw [upd_ne (ne_of_none e hp)];exact e) (fun c hc=>upd_ne hc) upd_same⟩
end
end L2
end
section
namespace L2
open PySem PySem.Spec PyProof.Rows
section
variable {X:Cx}
def Itst (lo st:Int) (n:Nat):It:=⟨fun i _=>i < n,fun i H x H'=>H'=H/\x=.int (lo+i * st),fun i _=>n<=i⟩
def iRng3 (ta:TA):TI:=fun σ H R=>ta σ H fun vs H1=>∃i j:Int,vs=[.int i,.int j,.int 2]/\(0<=i/\i<=1000/\-1<=j/\j<=1000)/\R (Itst i 2 ((j - i+1) / 2).toNat) H1
end
end L2
end
section
namespace L2
open PySem PySem.Spec PyProof.Rows Builtin Builtin.Str
section
variable {X:Cx}
end
end L2
end
section
namespace L2
open PySem PySem.W PyProof.Rows
structure Ord (b:Nat->Nat->Bool) (n:Nat):Prop where
 tr:∀i j k,i < n->j < n->k < n->b i j=true->b j k=true->b i k=true
 asy:∀i j,i < n->j < n->b i j=true->b j i=false
 tot:∀i j,i < n->j < n->i≠j->b i j=true\/b j i=true
abbrev at0 (p:Array Nat) (i:Nat):Nat:=p.getD i 0
structure Prm (p:Array Nat) (n:Nat):Prop where
 perm:p.Perm (List.range n).toArray
theorem Prm.size {p:Array Nat} {n:Nat} (h:Prm p n):p.size=n:=by rw [h.perm.size_eq];simp
theorem Prm.lt {p:Array Nat} {n:Nat} (h:Prm p n) (hn:0 < n) (i:Nat):at0 p i < n:=by
 unfold at0
 rw [Array.getD_eq_getD_getElem?]
 by_cases hi:i < p.size
 ·rw [Array.getElem?_eq_getElem hi]
  have:=(h.perm.mem_iff (a:=p[i])).mp (Array.getElem_mem hi)
  simpa using this
 ·rw [Array.getElem?_eq_none (by lia)]
  exact hn
theorem Prm.ne {p:Array Nat} {n:Nat} (h:Prm p n) {i j:Nat} (hi:i < n) (hj:j < n) (d:i≠j):at0 p i≠at0 p j:=by
 have nd:p.toList.Nodup:=(Array.perm_iff_toList_perm.mp h.perm).nodup_iff.mpr (by simpa using List.nodup_range)
 have hs:=h.size
 intro e
 unfold at0 at e
 rw [Array.getD_eq_getD_getElem?,Array.getD_eq_getD_getElem?,Array.getElem?_eq_getElem (by lia:i < p.size),Array.getElem?_eq_getElem (by lia:j < p.size)] at e
 have e':p.toList[i]'(by simpa using by lia)=p.toList[j]'(by simpa using by lia):=by simpa using e
 exact d ((List.getElem_inj nd).mp e')
def Asc (b:Nat->Nat->Bool) (p:Array Nat) (m:Nat):Prop:=∀i,i+1 < m->b (at0 p i) (at0 p (i+1))=true
section
variable {b:Nat->Nat->Bool} {n:Nat}
theorem Asc.all (O:Ord b n) {p:Array Nat} (h:Prm p n) (hn:0 < n) {m:Nat} (a:Asc b p m) (hm:m<=n):∀d i,i+(d+1) < m->b (at0 p i) (at0 p (i+(d+1)))=true
 | 0,i,hi=>a i hi
 | d+1,i,hi=>O.tr _ _ _ (h.lt hn _) (h.lt hn _) (h.lt hn _) (Asc.all O h hn a hm d i (by lia)) (a (i+(d+1)) hi)
theorem Asc.lt (O:Ord b n) {p:Array Nat} (h:Prm p n) (hn:0 < n) {m:Nat} (a:Asc b p m) (hm:m<=n) {i j:Nat} (hij:i < j) (hj:j < m):b (at0 p i) (at0 p j)=true:=by
 have:=Asc.all O h hn a hm (j - i - 1) i (by lia)
 rwa [show i+(j - i - 1+1)=j by lia] at this
end
end L2
end
section
namespace L2
open PySem PySem.W PyProof.Rows
def gal:Bool->Keyed->Array Keyed->Nat->Nat->Nat->StateT SortSt Sem (Option Nat):=sortPriv% PySem.Builtin.gallop
def mLo:Array Keyed->Array Keyed->StateT SortSt Sem (Array Keyed):=sortPriv% PySem.Builtin.mergeLo
def mHi:Array Keyed->Array Keyed->StateT SortSt Sem (Array Keyed):=sortPriv% PySem.Builtin.mergeHi
abbrev setGal (st:SortSt) (g:Nat):SortSt:=SortSt.mk' (kindOf st) (arrOf st) (pendingOf st) g (failedOf st)
def ahd (lf:Bool) (ky:Keyed) (xs:Array Keyed) (bs i:Nat):StateT SortSt Sem (Option Bool):=do
 let z <-elem' xs (bs+i)
 if lf then lt' z ky else return (<-lt' ky z).map (!·)
theorem gal_eq (lf:Bool) (ky:Keyed) (xs:Array Keyed) (bs m ht:Nat):gal lf ky xs bs m ht=(do
 let mut lst:=0
 let mut of:=1
 let mut l:=0
 let mut h:=0
 let some rgt <-ahd lf ky xs bs ht | return none
 if rgt then
  let mx:=m - ht
  for _ in [0:m] do
   if of>=mx then break
   let some mo <-ahd lf ky xs bs (ht+of) | return none
   if !mo then break
   lst:=of
   of:=2 * of+1
  l:=ht+lst+1
  h:=ht+min of mx
 else
  let mx:=ht+1
  for _ in [0:m] do
   if of>=mx then break
   let some fd <-ahd lf ky xs bs (ht - of) | return none
   if fd then break
   lst:=of
   of:=2 * of+1
  l:=ht+1 - min of mx
  h:=ht - lst
 for _ in [0:m] do
  if l>=h then break
  let c:=l+(h - l) / 2
  let some mo <-ahd lf ky xs bs c | return none
  if mo then l:=c+1 else h:=c
 return some h):=rfl
theorem mLo_eq (a b:Array Keyed):mLo a b=(do
 rule "list.sort.merge-lo"
 let tot:=a.size+b.size
 let fin (o:Array Keyed) (x y:Nat):=o++a.extract x a.size++b.extract y b.size
 let laA (o:Array Keyed) (x y:Nat):=o++b.extract y b.size++a.extract x a.size
 let mut o:Array Keyed:=#[<-elem' b 0]
 let mut x:=0
 let mut y:=1
 if y == b.size then return fin o x y
 if x+1 == a.size then return laA o x y
 let mut mg:=gallopOf (<-get)
 for _ in [0:tot] do
  let mut na:=0
  let mut nb:=0
  for _ in [0:tot] do
   let some bw <-lt' (<-elem' b y) (<-elem' a x) | return fin o x y
   if bw then
    o:=o.push (<-elem' b y);y:=y+1;nb:=nb+1;na:=0
    if y == b.size then return fin o x y
    if nb>=mg then break
   else
    o:=o.push (<-elem' a x);x:=x+1;na:=na+1;nb:=0
    if x+1 == a.size then return laA o x y
    if na>=mg then break
  rule "list.sort.gallop"
  mg:=mg+1
  for _ in [0:tot] do
   if mg > 1 then mg:=mg - 1
   modify fun st=>setGal st mg
   let some k <-gal false (<-elem' b y) a x (a.size - x) 0 | return fin o x y
   na:=k
   if k > 0 then
    o:=o++a.extract x (x+k);x:=x+k
    if x+1 == a.size then return laA o x y
    if x == a.size then return fin o x y
   o:=o.push (<-elem' b y);y:=y+1
   if y == b.size then return fin o x y
   let some k <-gal true (<-elem' a x) b y (b.size - y) 0 | return fin o x y
   nb:=k
   if k > 0 then
    o:=o++b.extract y (y+k);y:=y+k
    if y == b.size then return fin o x y
   o:=o.push (<-elem' a x);x:=x+1
   if x+1 == a.size then return laA o x y
   if na < 7 && nb < 7 then break
  mg:=mg+1
  modify fun st=>setGal st mg
 unsupported "internal:list.sort.merge-bound"):=rfl
theorem mHi_eq (a b:Array Keyed):mHi a b=(do
 rule "list.sort.merge-hi"
 let tot:=a.size+b.size
 let fin (o:Array Keyed) (x y:Nat):=a.extract 0 x++b.extract 0 y++o.reverse
 let fiB (o:Array Keyed) (x y:Nat):=b.extract 0 y++a.extract 0 x++o.reverse
 let mut x:=a.size - 1
 let mut y:=b.size
 let mut o:Array Keyed:=#[<-elem' a x]
 if x == 0 then return fin o x y
 if y == 1 then return fiB o x y
 let mut mg:=gallopOf (<-get)
 for _ in [0:tot] do
  let mut na:=0
  let mut nb:=0
  for _ in [0:tot] do
   let some aw <-lt' (<-elem' b (y - 1)) (<-elem' a (x - 1)) | return fin o x y
   if aw then
    x:=x - 1;o:=o.push (<-elem' a x);na:=na+1;nb:=0
    if x == 0 then return fin o x y
    if na>=mg then break
   else
    y:=y - 1;o:=o.push (<-elem' b y);nb:=nb+1;na:=0
    if y == 1 then return fiB o x y
    if nb>=mg then break
  rule "list.sort.gallop"
  mg:=mg+1
  for _ in [0:tot] do
   if mg > 1 then mg:=mg - 1
   modify fun st=>setGal st mg
   let some e <-gal false (<-elem' b (y - 1)) a 0 x (x - 1) | return fin o x y
   let k:=x - e
   na:=k
   if k > 0 then
    o:=o++(a.extract e x).reverse;x:=e
    if x == 0 then return fin o x y
   y:=y - 1;o:=o.push (<-elem' b y)
   if y == 1 then return fiB o x y
   let some e <-gal true (<-elem' a (x - 1)) b 0 y (y - 1) | return fin o x y
   let k:=y - e
   nb:=k
   if k > 0 then
    o:=o++(b.extract e y).reverse;y:=e
    if y == 1 then return fiB o x y
    if y == 0 then return fin o x y
   x:=x - 1;o:=o.push (<-elem' a x)
   if x == 0 then return fin o x y
   if na < 7 && nb < 7 then break
  mg:=mg+1
  modify fun st=>setGal st mg
 unsupported "internal:list.sort.merge-bound"):=rfl
theorem mAt_eq (i:Nat):mergeAt' i=(do
 let st <-get
 let (some (sa,na,pw),some (sb,nb,_)):=((pendingOf st)[i]?,(pendingOf st)[i+1]?) | unsupported "internal:list.sort.pending"
 set (setPending st (((pendingOf st).setIfInBounds i (sa,na+nb,pw)).eraseIdxIfInBounds (i+1)))
 let some k <-gal false (<-elem' (arrOf st) sb) (arrOf st) sa na 0 | return false
 let (sa,na):=(sa+k,na - k)
 if na == 0 then return true
 let some nb <-gal true (<-elem' (arrOf st) (sa+na - 1)) (arrOf st) sb nb (nb - 1) | return false
 if nb == 0 then return true
 let x:=(arrOf st).extract sa sb
 let y:=(arrOf st).extract sb (sb+nb)
 let mgd <-if na<=nb then mLo x y else mHi x y
 modify fun st=>setArr st (mgd.toList.zipIdx.foldl (fun a (p,j)=>a.setIfInBounds (sa+j) p) (arrOf st))
 return (failedOf (<-get)).isNone):=rfl
end L2
end
section
namespace L2
open PySem PySem.W PyProof.Rows
section
variable {prog:Program} {w:World} {A:Around} {E:Value->Shared->Prop} {s:Shared} {κ:SortKind} {r:Keyed->Int} {U:Keyed->Prop}
def Cmp (prog:Program) (w:World) (A:Around) (s:Shared) (κ:SortKind) (r:Keyed->Int) (U:Keyed->Prop):Prop:=
 ∀x y (Q:Bool->Shared->Prop),U x->U y->Q (decide (r x < r y)) s->wpAny (model prog w) A (keyLt' κ x.1 y.1) Q (fun _ _=>False) s
theorem s_lt (C:Cmp prog w A s κ r U) {x y:Keyed} {Q:Option Bool->SortSt->Prop} {st:SortSt} (hx:U x) (hy:U y) (hk:kindOf st=κ) (h:Q (some (decide (r x < r y))) st):wpS (model prog w) A E s (lt' x y) Q st:=by
 rw [lt'_eq]
 refine wpS_bind (wpS_get ?_)
 rw [hk]
 refine wpS_bind (wpS_lift (wpAny_attempt (wpAny_mono (C x y (fun b s'=>s'=s/\b=decide (r x < r y)) hx hy ⟨rfl,rfl⟩) (fun b s' h'=>?_) fun _ _ hF=>hF.elim)))
 obtain ⟨rfl,rfl⟩:=h'
 exact ⟨rfl,wpS_pure h⟩
theorem s_elem {xs:Array Keyed} {i:Nat} {Q:Keyed->SortSt->Prop} {st:SortSt} (hi:i < xs.size) (h:Q xs[i] st):wpS (model prog w) A E s (elem' xs i) Q st:=by
 rw [elem'_eq,Array.getElem?_eq_getElem hi]
 exact wpS_pure h
def isA (r:Keyed->Int) (lf:Bool) (ky z:Keyed):Bool:=if lf then decide (r z < r ky) else decide (r z<=r ky)
theorem s_ahd (C:Cmp prog w A s κ r U) {lf:Bool} {ky:Keyed} {xs:Array Keyed} {bs i:Nat} {Q:Option Bool->SortSt->Prop} {st:SortSt} (hi:bs+i < xs.size) (hU:∀z∈xs,U z) (hy:U ky) (hk:kindOf st=κ) (h:Q (some (isA r lf ky xs[bs+i])) st) :
  wpS (model prog w) A E s (ahd lf ky xs bs i) Q st:=by
 unfold ahd
 refine wpS_bind (s_elem hi ?_)
 have hu:=hU _ (Array.getElem_mem hi)
 unfold isA at h
 cases lf with
 | true=>exact s_lt C hu hy hk h
 | false=>
  simp only [Bool.false_eq_true,if_false] at h ⊢
  refine wpS_bind (s_lt C hy hu hk (wpS_pure ?_))
  have e:(!decide (r ky < r xs[bs+i]))=decide (r xs[bs+i]<=r ky):=by
   rw [Bool.eq_iff_iff];simp
  show Q (some (!decide (r ky < r xs[bs+i]))) st
  rw [e];exact h
theorem s_gal (C:Cmp prog w A s κ r U) {lf:Bool} {ky:Keyed} {xs:Array Keyed} {bs m ht:Nat} {Q:Option Nat->SortSt->Prop} {st:SortSt} (hm:bs+m<=xs.size) (hh:ht < m) (hU:∀z∈xs,U z) (hy:U ky) (hk:kindOf st=κ)
  (srt:∀i j (h1:i<=j) (h2:bs+j < xs.size),j < m->r (xs[bs+i]'(by lia))<=r xs[bs+j])
  (h:∀k,k<=m->(∀i,i < k->∀(h2:bs+i < xs.size),isA r lf ky xs[bs+i]=true)->(∀i,k<=i->i < m->∀(h2:bs+i < xs.size),isA r lf ky xs[bs+i]=false)->Q (some k) st) :
  wpS (model prog w) A E s (gal lf ky xs bs m ht) Q st:=by
 obtain ⟨f,hf⟩:∃f:Nat->Bool,∀i (h2:bs+i < xs.size),isA r lf ky xs[bs+i]=f i:=⟨fun i=>if h2:bs+i < xs.size then isA r lf ky xs[bs+i] else false,fun i h2=>by dsimp only;rw [dif_pos h2]⟩
 have mono:∀i j,i<=j->j < m->f j=true->f i=true:=fun i j hij hj e=>by
  have h2:bs+j < xs.size:=by lia
  rw [<-hf j h2] at e
  rw [<-hf i (by lia)]
  have:=srt i j hij h2 hj
  unfold isA at e ⊢
  cases lf <;> simp at e ⊢ <;> lia
 have monoF:∀i j,i<=j->j < m->f i=false->f j=false:=fun i j hij hj e=>by
  cases e':f j with
  | false=>rfl
  | true=>rw [mono i j hij hj e'] at e;cases e
 have h':∀k,k<=m->(∀i,i < k->f i=true)->(∀i,k<=i->i < m->f i=false)->Q (some k) st:=fun k hk1 h1 h2=>
  h k hk1 (fun i hi hb=>by rw [hf];exact h1 i hi) (fun i hi him hb=>by rw [hf];exact h2 i hi him)
 have ask:∀i (Q':Option Bool->SortSt->Prop),i < m->Q' (some (f i)) st->wpS (model prog w) A E s (ahd lf ky xs bs i) Q' st:=fun i Q' hi q=>by
  have h2:bs+i < xs.size:=by lia
  exact s_ahd C h2 hU hy hk (by rw [hf i h2];exact q)
 rw [gal_eq]
 refine wpS_bind (ask ht _ hh ?_)
 cases hr:f ht with
 | true=>
  simp only [if_true]
  refine wpS_bind (wpS_mono (wpS_forRange (I:=fun x c st'=>st'=st/\∃la of,c=(none,la,of)/\la < of/\ht+la < m/\x+1<=of/\f (ht+la)=true)
   (Q:=fun c st'=>st'=st/\∃la of,c=(none,la,of)/\la < of/\ht+la < m/\f (ht+la)=true/\(of>=m - ht\/f (ht+of)=false)) ?step ?fin ⟨rfl,0,1,rfl,by lia,by lia,by lia,hr⟩) ?post)
  case post=>
   intro c σ0 hI2
   refine hide fun gG hG=>?_
   obtain ⟨rfl,la,of,rfl,a1,a2,a3,a4⟩:=hI2
   refine hG ?_
   have hl1:ht+la+1<=ht+min of (m - ht):=by lia
   have hl2:ht+min of (m - ht)<=m:=by lia
   have hl3:∀i,i < ht+la+1->f i=true:=fun i hi=>mono i _ (by lia) a2 a3
   have hl4:∀i,ht+min of (m - ht)<=i->i < m->f i=false:=fun i hi him=>a4.elim (fun a4=>by lia) fun a4=>monoF _ i (by lia) him a4
   dsimp only
   generalize ht+la+1=l0 at hl1 hl3 ⊢
   generalize ht+min of (m - ht)=h0 at hl1 hl2 hl4 ⊢
   refine wpS_bind (wpS_mono (wpS_forRange (I:=fun x c st'=>st'=σ0/\∃l hI,c=(none,l,hI)/\l<=hI/\hI<=m/\hI - l<=m - x/\(∀i,i < l->f i=true)/\(∀i,hI<=i->i < m->f i=false))
    (Q:=fun c st'=>st'=σ0/\∃hI l,c=(none,l,hI)/\hI<=m/\(∀i,i < hI->f i=true)/\(∀i,hI<=i->i < m->f i=false)) ?bstep ?bfin ⟨rfl,l0,h0,rfl,hl1,hl2,by lia,hl3,hl4⟩) ?bpost)
   case bpost=>
    intro c st' hI2
    refine hide fun gG hG=>?_
    obtain ⟨rfl,hI,l,rfl,a1,a2,a3⟩:=hI2
    refine hG ?_
    exact wpS_pure (h' hI a1 a2 a3)
   case bfin=>
    intro c st' hI2
    refine hide fun gG hG=>?_
    obtain ⟨rfl,l,hI,rfl,a1,a2,a3,a4,a5⟩:=hI2
    refine hG ?_
    have:l=hI:=by lia
    subst this
    exact ⟨rfl,l,l,rfl,a2,a4,a5⟩
   case bstep=>
    intro x c st' _ hx hI5
    refine hide fun gG hG=>?_
    obtain ⟨rfl,l,hI,rfl,a1,a2,a3,a4,a5⟩:=hI5
    refine hG ?_
    dsimp only
    by_cases hge:l>=hI
    ·rw [if_pos hge]
     have:l=hI:=by lia
     subst this
     exact wpS_pure ⟨rfl,l,l,rfl,a2,a4,a5⟩
    ·rw [if_neg hge]
     refine wpS_bind (ask _ _ (by lia) ?_)
     cases hc:f (l+(hI - l) / 2) with
     | true=>
      simp only [if_true]
      exact wpS_pure ⟨rfl,_,_,rfl,by lia,by lia,by lia,fun i hi=>mono i _ (by lia) (by lia) hc,a5⟩
     | false=>
      simp only [Bool.false_eq_true,if_false]
      exact wpS_pure ⟨rfl,_,_,rfl,by lia,by lia,by lia,a4,fun i hi him=>monoF _ i hi him hc⟩
  case fin=>
   intro c st' hI2
   refine hide fun gG hG=>?_
   obtain ⟨rfl,la,of,rfl,a1,a2,a3,a4⟩:=hI2
   refine hG ?_
   exact ⟨rfl,la,of,rfl,a1,a2,a4,.inl (by lia)⟩
  case step=>
   intro x c st' _ hx hI5
   refine hide fun gG hG=>?_
   obtain ⟨rfl,la,of,rfl,a1,a2,a3,a4⟩:=hI5
   refine hG ?_
   dsimp only
   by_cases hge:of>=m - ht
   ·rw [if_pos hge]
    exact wpS_pure ⟨rfl,la,of,rfl,a1,a2,a4,.inl hge⟩
   ·rw [if_neg hge]
    refine wpS_bind (ask _ _ (by lia) ?_)
    cases hc:f (ht+of) with
    | true=>
     simp only [Bool.not_true,Bool.false_eq_true,if_false]
     exact wpS_pure ⟨rfl,of,_,rfl,by lia,by lia,by lia,hc⟩
    | false=>
     simp only [Bool.not_false,if_true]
     exact wpS_pure ⟨rfl,la,of,rfl,a1,a2,a4,.inr hc⟩
 | false=>
  simp only [Bool.false_eq_true,if_false]
  refine wpS_bind (wpS_mono (wpS_forRange (I:=fun x c st'=>st'=st/\∃la of,c=(none,la,of)/\la < of/\la<=ht/\x+1<=of/\f (ht - la)=false)
   (Q:=fun c st'=>st'=st/\∃la of,c=(none,la,of)/\la < of/\la<=ht/\f (ht - la)=false/\(of>=ht+1\/f (ht - of)=true)) ?step ?fin ⟨rfl,0,1,rfl,by lia,by lia,by lia,hr⟩) ?post)
  case post=>
   intro c σ0 hI2
   refine hide fun gG hG=>?_
   obtain ⟨rfl,la,of,rfl,a1,a2,a3,a4⟩:=hI2
   refine hG ?_
   have hl1:ht+1 - min of (ht+1)<=ht - la:=by lia
   have hl2:ht - la<=m:=by lia
   have hl3:∀i,i < ht+1 - min of (ht+1)->f i=true:=fun i hi=>a4.elim (fun a4=>by lia) fun a4=>mono i _ (by lia) (by lia) a4
   have hl4:∀i,ht - la<=i->i < m->f i=false:=fun i hi him=>monoF _ i hi him a3
   dsimp only
   generalize ht+1 - min of (ht+1)=l0 at hl1 hl3 ⊢
   generalize ht - la=h0 at hl1 hl2 hl4 ⊢
   refine wpS_bind (wpS_mono (wpS_forRange (I:=fun x c st'=>st'=σ0/\∃l hI,c=(none,l,hI)/\l<=hI/\hI<=m/\hI - l<=m - x/\(∀i,i < l->f i=true)/\(∀i,hI<=i->i < m->f i=false))
    (Q:=fun c st'=>st'=σ0/\∃hI l,c=(none,l,hI)/\hI<=m/\(∀i,i < hI->f i=true)/\(∀i,hI<=i->i < m->f i=false)) ?bstep ?bfin ⟨rfl,l0,h0,rfl,hl1,hl2,by lia,hl3,hl4⟩) ?bpost)
   case bpost=>
    intro c st' hI2
    refine hide fun gG hG=>?_
    obtain ⟨rfl,hI,l,rfl,a1,a2,a3⟩:=hI2
    refine hG ?_
    exact wpS_pure (h' hI a1 a2 a3)
   case bfin=>
    intro c st' hI2
    refine hide fun gG hG=>?_
    obtain ⟨rfl,l,hI,rfl,a1,a2,a3,a4,a5⟩:=hI2
    refine hG ?_
    have:l=hI:=by lia
    subst this
    exact ⟨rfl,l,l,rfl,a2,a4,a5⟩
   case bstep=>
    intro x c st' _ hx hI5
    refine hide fun gG hG=>?_
    obtain ⟨rfl,l,hI,rfl,a1,a2,a3,a4,a5⟩:=hI5
    refine hG ?_
    dsimp only
    by_cases hge:l>=hI
    ·rw [if_pos hge]
     have:l=hI:=by lia
     subst this
     exact wpS_pure ⟨rfl,l,l,rfl,a2,a4,a5⟩
    ·rw [if_neg hge]
     refine wpS_bind (ask _ _ (by lia) ?_)
     cases hc:f (l+(hI - l) / 2) with
     | true=>
      simp only [if_true]
      exact wpS_pure ⟨rfl,_,_,rfl,by lia,by lia,by lia,fun i hi=>mono i _ (by lia) (by lia) hc,a5⟩
     | false=>
      simp only [Bool.false_eq_true,if_false]
      exact wpS_pure ⟨rfl,_,_,rfl,by lia,by lia,by lia,a4,fun i hi him=>monoF _ i hi him hc⟩
  case fin=>
   intro c st' hI2
   refine hide fun gG hG=>?_
   obtain ⟨rfl,la,of,rfl,a1,a2,a3,a4⟩:=hI2
   refine hG ?_
   exact ⟨rfl,la,of,rfl,a1,a2,a4,.inl (by lia)⟩
  case step=>
   intro x c st' _ hx hI5
   refine hide fun gG hG=>?_
   obtain ⟨rfl,la,of,rfl,a1,a2,a3,a4⟩:=hI5
   refine hG ?_
   dsimp only
   by_cases hge:of>=ht+1
   ·rw [if_pos hge]
    exact wpS_pure ⟨rfl,la,of,rfl,a1,a2,a4,.inl hge⟩
   ·rw [if_neg hge]
    refine wpS_bind (ask _ _ (by lia) ?_)
    cases hc:f (ht - of) with
    | true=>
     simp only [if_true]
     exact wpS_pure ⟨rfl,la,of,rfl,a1,a2,a4,.inr hc⟩
    | false=>
     simp only [Bool.false_eq_true,if_false]
     exact wpS_pure ⟨rfl,of,_,rfl,by lia,by lia,by lia,hc⟩
end
end L2
end
section
namespace L2
open PySem PySem.W PyProof.Rows
theorem wpS_ite {M:Model} {A:Around} {E:Value->Shared->Prop} {s:Shared} {σ α:Type} {c:Prop} [Decidable c] {m n:StateT σ Sem α} {Q:α->σ->Prop} {st:σ} (h1:c->wpS M A E s m Q st) (h2:¬c->wpS M A E s n Q st):wpS M A E s (if c then m else n) Q st:=by
 by_cases h:c
 ·rw [if_pos h];exact h1 h
 ·rw [if_neg h];exact h2 h
theorem share2 {α:Type} {P R:α->Nat->Prop} {G:Prop} (k:(∀o x,R o x->P o x)->G) (h:∀o x,R o x->P o x):G:=k h
theorem share {P:Nat->Prop} {G:Prop} (k:(∀g,P g)->G) (h:∀g,P g):G:=k h
def SrtL (r:Keyed->Int) (l:List Keyed):Prop:=l.Pairwise fun x y=>r x<=r y
structure MI (r:Keyed->Int) (tot o ra rb:List Keyed):Prop where
 perm:(o++(ra++rb)).Perm tot
 so:SrtL r o
 sa:SrtL r ra
 sb:SrtL r rb
 la:∀u∈o,∀v∈ra,r u<=r v
 lb:∀u∈o,∀v∈rb,r u<=r v
section
variable {r:Keyed->Int} {tot o ra rb p:List Keyed}
theorem MI.takeA (h:MI r tot o (p++ra) rb) (hp:∀u∈p,∀v∈rb,r u<=r v):MI r tot (o++p) ra rb:=by
 have sa:=List.pairwise_append.mp h.sa
 refine ⟨by simpa [List.append_assoc] using h.perm,List.pairwise_append.mpr ⟨h.so,sa.1,fun u hu v hv=>h.la u hu v (List.mem_append_left _ hv)⟩,sa.2.1,h.sb,fun u hu v hv=>?_,fun u hu v hv=>?_⟩
 ·rcases List.mem_append.mp hu with hu | hu
  ·exact h.la u hu v (List.mem_append_right _ hv)
  ·exact sa.2.2 u hu v hv
 ·rcases List.mem_append.mp hu with hu | hu
  ·exact h.lb u hu v hv
  ·exact hp u hu v hv
theorem MI.takeB (h:MI r tot o ra (p++rb)) (hp:∀u∈p,∀v∈ra,r u<=r v):MI r tot (o++p) ra rb:=by
 have sb:=List.pairwise_append.mp h.sb
 refine ⟨?_,List.pairwise_append.mpr ⟨h.so,sb.1,fun u hu v hv=>h.lb u hu v (List.mem_append_left _ hv)⟩,h.sa,sb.2.1,fun u hu v hv=>?_,fun u hu v hv=>?_⟩
 ·refine List.Perm.trans ?_ h.perm
  rw [List.append_assoc]
  refine List.Perm.append_left o ?_
  rw [<-List.append_assoc,<-List.append_assoc]
  exact List.Perm.append_right rb List.perm_append_comm
 ·rcases List.mem_append.mp hu with hu | hu
  ·exact h.la u hu v hv
  ·exact hp u hu v hv
 ·rcases List.mem_append.mp hu with hu | hu
  ·exact h.lb u hu v (List.mem_append_right _ hv)
  ·exact sb.2.2 u hu v hv
theorem MI.endA (h:MI r tot o ra []):(o++ra).Perm tot/\SrtL r (o++ra):=⟨by simpa using h.perm,List.pairwise_append.mpr ⟨h.so,h.sa,h.la⟩⟩
theorem MI.endB (h:MI r tot o [] rb):(o++rb).Perm tot/\SrtL r (o++rb):=⟨by simpa using h.perm,List.pairwise_append.mpr ⟨h.so,h.sb,h.lb⟩⟩
theorem MI.endL {z:Keyed} (h:MI r tot o [z] rb) (hz:∀v∈rb,r v<=r z):(o++rb++[z]).Perm tot/\SrtL r (o++rb++[z]):=by
 have h':=(MI.takeB (p:=rb) (rb:=[]) (by simpa using h) fun u hu v hv=>by rw [List.mem_singleton.mp hv];exact hz u hu).endA
 exact h'
end
section
variable {r:Keyed->Int} {a b o:Array Keyed} {x y k:Nat}
abbrev tot (a b:Array Keyed):List Keyed:=a.toList++b.toList
def Good (r:Keyed->Int) (a b R:Array Keyed):Prop:=R.toList.Perm (tot a b)/\SrtL r R.toList
abbrev MIa (r:Keyed->Int) (a b o:Array Keyed) (x y:Nat):Prop:=MI r (tot a b) o.toList (a.toList.drop x) (b.toList.drop y)
theorem ext_list (a:Array Keyed) (x n:Nat):(a.extract x n).toList=(a.toList.drop x).take (n - x):=by
 rw [Array.toList_extract]
theorem ext_all (a:Array Keyed) (x:Nat):(a.extract x a.size).toList=a.toList.drop x:=by
 rw [ext_list,<-Array.length_toList,<-List.length_drop]
 exact List.take_length
theorem drop_cut (l:List Keyed) (x k:Nat):l.drop x=(l.drop x).take k++l.drop (x+k):=by
 rw [<-List.drop_drop];exact (List.take_append_drop k _).symm
theorem drop_one (a:Array Keyed) {x:Nat} (h:x < a.size):a.toList.drop x=[a[x]]++a.toList.drop (x+1):=by
 rw [List.drop_eq_getElem_cons (by simpa using h)];simp
theorem mem_drop_at {a:Array Keyed} {x:Nat} {v:Keyed} (h:v∈a.toList.drop x):∃i,∃(hi:x+i < a.size),v=a[x+i]:=by
 obtain ⟨i,hi,e⟩:=List.mem_iff_getElem.mp h
 rw [List.length_drop,Array.length_toList] at hi
 refine ⟨i,by lia,?_⟩
 rw [<-e];simp
theorem mem_take_at {a:Array Keyed} {x k:Nat} {v:Keyed} (h:v∈(a.toList.drop x).take k):∃i,∃(hi:x+i < a.size),i < k/\v=a[x+i]:=by
 obtain ⟨i,hi,e⟩:=List.mem_iff_getElem.mp h
 rw [List.length_take,List.length_drop,Array.length_toList] at hi
 refine ⟨i,by lia,by lia,?_⟩
 rw [<-e];simp
theorem srt_at {a:Array Keyed} (s:SrtL r a.toList) {i j:Nat} (hij:i<=j) (hj:j < a.size):r (a[i]'(by lia))<=r a[j]:=by
 rcases Nat.lt_or_eq_of_le hij with h | h
 ·have:=(List.pairwise_iff_getElem.mp s) i j (by simpa using by lia) (by simpa using hj) h
  simpa using this
 ·subst h;exact Int.le_refl _
theorem MI.pushB (h:MIa r a b o x y) (hy:y < b.size) (hx:∀i,x<=i->∀(hi:i < a.size),r b[y]<=r a[i]):MIa r a b (o.push b[y]) x (y+1):=by
 have h':MI r (tot a b) o.toList (a.toList.drop x) ([b[y]]++b.toList.drop (y+1)):=by rw [<-drop_one b hy];exact h
 have:=h'.takeB fun u hu v hv=>by
  obtain ⟨i,hi,rfl⟩:=mem_drop_at hv
  rw [List.mem_singleton.mp hu]
  exact hx _ (by lia) hi
 show MI r (tot a b) (o.push b[y]).toList _ _
 rw [Array.toList_push];exact this
theorem MI.pushA (h:MIa r a b o x y) (hx:x < a.size) (hy:∀i,y<=i->∀(hi:i < b.size),r a[x]<=r b[i]):MIa r a b (o.push a[x]) (x+1) y:=by
 have h':MI r (tot a b) o.toList ([a[x]]++a.toList.drop (x+1)) (b.toList.drop y):=by rw [<-drop_one a hx];exact h
 have:=h'.takeA fun u hu v hv=>by
  obtain ⟨i,hi,rfl⟩:=mem_drop_at hv
  rw [List.mem_singleton.mp hu]
  exact hy _ (by lia) hi
 show MI r (tot a b) (o.push a[x]).toList _ _
 rw [Array.toList_push];exact this
theorem MI.moreA (h:MIa r a b o x y) (hp:∀i,i < k->∀(hi:x+i < a.size) j,y<=j->∀(hj:j < b.size),r a[x+i]<=r b[j]):MIa r a b (o++a.extract x (x+k)) (x+k) y:=by
 have h':MI r (tot a b) o.toList ((a.toList.drop x).take k++a.toList.drop (x+k)) (b.toList.drop y):=by rw [<-drop_cut];exact h
 have:=h'.takeA fun u hu v hv=>by
  refine hide fun gG hG=>?_
  obtain ⟨i,hi,hk,rfl⟩:=mem_take_at hu
  obtain ⟨j,hj,rfl⟩:=mem_drop_at hv
  refine hG ?_
  exact hp i hk hi _ (by lia) hj
 show MI r (tot a b) (o++a.extract x (x+k)).toList _ _
 rw [Array.toList_append,ext_list,Nat.add_sub_cancel_left]
 exact this
theorem MI.moreB (h:MIa r a b o x y) (hp:∀i,i < k->∀(hi:y+i < b.size) j,x<=j->∀(hj:j < a.size),r b[y+i]<=r a[j]):MIa r a b (o++b.extract y (y+k)) x (y+k):=by
 have h':MI r (tot a b) o.toList (a.toList.drop x) ((b.toList.drop y).take k++b.toList.drop (y+k)):=by rw [<-drop_cut];exact h
 have:=h'.takeB fun u hu v hv=>by
  refine hide fun gG hG=>?_
  obtain ⟨i,hi,hk,rfl⟩:=mem_take_at hu
  obtain ⟨j,hj,rfl⟩:=mem_drop_at hv
  refine hG ?_
  exact hp i hk hi _ (by lia) hj
 show MI r (tot a b) (o++b.extract y (y+k)).toList _ _
 rw [Array.toList_append,ext_list,Nat.add_sub_cancel_left]
 exact this
theorem MI.fin (h:MIa r a b o x y) (e:y=b.size\/x=a.size):Good r a b (o++a.extract x a.size++b.extract y b.size):=by
 unfold Good
 rw [Array.toList_append,Array.toList_append,ext_all,ext_all]
 rcases e with e | e
 ·have z:b.toList.drop y=[]:=List.drop_eq_nil_of_le (by simp [e])
  have h':MI r (tot a b) o.toList (a.toList.drop x) []:=by rw [<-z];exact h
  rw [z,List.append_nil];exact h'.endA
 ·have z:a.toList.drop x=[]:=List.drop_eq_nil_of_le (by simp [e])
  have h':MI r (tot a b) o.toList [] (b.toList.drop y):=by rw [<-z];exact h
  rw [z,List.append_nil];exact h'.endB
theorem MI.las (h:MIa r a b o x y) (e:x+1=a.size) (hl:∀v∈b,r v<=r (a[a.size - 1]'(by lia))):Good r a b (o++b.extract y b.size++a.extract x a.size):=by
 unfold Good
 rw [Array.toList_append,Array.toList_append,ext_all,ext_all]
 have z:a.toList.drop x=[a[a.size - 1]'(by lia)]:=by
  rw [drop_one a (by lia),List.drop_eq_nil_of_le (by simp;lia)]
  simp only [List.append_nil]
  congr 2
  lia
 have h':MI r (tot a b) o.toList [a[a.size - 1]'(by lia)] (b.toList.drop y):=by rw [<-z];exact h
 rw [z]
 exact h'.endL fun v hv=>hl v (by simpa using List.mem_of_mem_drop hv)
end
section
variable {prog:Program} {w:World} {A:Around} {E:Value->Shared->Prop} {s:Shared} {κ:SortKind} {r:Keyed->Int} {U:Keyed->Prop}
theorem s_mLo (C:Cmp prog w A s κ r U) {a b:Array Keyed} {Q:Array Keyed->SortSt->Prop} {st:SortSt} (hk:kindOf st=κ) (ha:∀z∈a,U z) (hb:∀z∈b,U z) (sa:SrtL r a.toList) (sb:SrtL r b.toList) (na:0 < a.size) (nb:0 < b.size)
  (h0:r b[0]<=r a[0]) (hl:∀v∈b,r v<=r (a[a.size - 1]'(by lia))) (h:∀R g,Good r a b R->Q R (setGal st g)):wpS (model prog w) A E s (mLo a b) Q st:=by
 rw [mLo_eq]
 refine wpS_bind (wpS_lift (wpAny_rule ⟨rfl,?_⟩))
 refine wpS_bind (s_elem nb ?_)
 try dsimp only
 have M0:MIa r a b #[b[0]] 0 1:=MI.pushB (o:=#[]) (x:=0) (y:=0) ⟨by simp,List.Pairwise.nil,by simpa using sa,by simpa using sb,by simp,by simp⟩ nb fun i _ hi=>by
  have:=srt_at sa (Nat.zero_le i) hi
  lia
 refine wpS_ite (fun hz=>?_) (fun hz=>?_)
 ·exact wpS_pure (h _ (gallopOf st) (M0.fin (.inl (by simpa using hz))))
 have hz1:=hz
 refine wpS_ite (fun hz=>?_) (fun hz=>?_)
 ·exact wpS_pure (h _ (gallopOf st) (M0.las (by simpa using hz) hl))
 have hz2:=hz
 have hz1':1≠b.size:=by simpa using hz1
 have hz2':0+1≠a.size:=by simpa using hz2
 clear h0 hz hz1 hz2
 refine wpS_bind (wpS_get ?_)
 refine wpS_bind (wpS_mono (wpS_forRange (I:=fun n c st'=>(∃g,st'=setGal st g)/\∃o x y mg,c=(none,o,x,y,mg)/\x+1 < a.size/\y < b.size/\MIa r a b o x y/\n+1<=x+y)
  (Q:=fun c st'=>(∃g,st'=setGal st g)/\∃R,c.1=some R/\Good r a b R) ?step ?fin ⟨⟨gallopOf st,rfl⟩,_,_,_,_,rfl,by lia,by lia,M0,by lia⟩) ?post)
 case post=>
  intro hI0 st' hI2
  refine hide fun gG hG=>?_
  obtain ⟨c1,c⟩:=hI0
  obtain ⟨⟨g,rfl⟩,R,rfl,hR⟩:=hI2
  refine hG ?_
  exact wpS_pure (h R g hR)
 case fin=>
  intro c st' hI2
  refine hide fun gG hG=>?_
  obtain ⟨_,o,x,y,mg,rfl,hx,hy,M,hn⟩:=hI2
  refine hG ?_
  lia
 case step=>
  clear hz1' hz2' M0 h
  intro n c st' _ hn hI5
  refine hide fun gG hG=>?_
  obtain ⟨⟨g,rfl⟩,o,x,y,mg,rfl,hx,hy,M,hb1⟩:=hI5
  refine hG ?_
  try dsimp only
  refine wpS_bind (wpS_mono (wpS_forRange (I:=fun n1 d st'=>(∃g,st'=setGal st g)/\∃o' x' y' p q,d=(none,o',x',y',p,q)/\x'+1 < a.size/\y' < b.size/\MIa r a b o' x' y'/\x+y+n1<=x'+y')
   (Q:=fun d st'=>(∃g,st'=setGal st g)/\match d.1 with | some R=>Good r a b R | none=>d.2.2.1+1 < a.size/\d.2.2.2.1 < b.size/\MIa r a b d.2.1 d.2.2.1 d.2.2.2.1/\n+2<=d.2.2.1+d.2.2.2.1) ?step1 ?fin1 ⟨⟨g,rfl⟩,o,x,y,0,0,rfl,hx,hy,M,by lia⟩) ?post1)
  case fin1=>
   intro d st' hI2
   refine hide fun gG hG=>?_
   obtain ⟨hg,o',x',y',p,q,rfl,hx',hy',M',hn'⟩:=hI2
   refine hG ?_
   exact ⟨hg,hx',hy',M',by simp only;lia⟩
  case step1=>
   clear hx hy M hn
   intro n1 d st' _ hn1 hI5
   refine hide fun gG hG=>?_
   obtain ⟨⟨g,rfl⟩,o,x,y,p,q,rfl,hx,hy,M,hn'⟩:=hI5
   refine hG ?_
   try dsimp only
   refine wpS_bind (s_elem hy ?_)
   refine wpS_bind (s_elem (by lia) ?_)
   refine wpS_bind (s_lt C (hb _ (Array.getElem_mem _)) (ha _ (Array.getElem_mem _)) hk ?_)
   try dsimp only
   by_cases hc:r b[y] < r a[x]
   ·rw [if_pos (by simpa using hc)]
    refine wpS_bind (s_elem hy ?_)
    try dsimp only
    have MB:=MI.pushB M hy fun i hi h2=>by
     have:=srt_at sa hi h2
     lia
    refine wpS_ite (fun hz=>?_) (fun hz=>?_)
    ·exact wpS_pure ⟨⟨_,rfl⟩,MB.fin (.inl (by simpa using hz))⟩
    have hz':y+1≠b.size:=by simpa using hz
    refine wpS_ite (fun hz=>?_) (fun hz=>?_)
    ·exact wpS_pure ⟨⟨_,rfl⟩,hx,(by simp only;lia),MB,by simp only;lia⟩
    ·exact wpS_pure ⟨⟨_,rfl⟩,_,_,_,_,_,rfl,hx,by lia,MB,by lia⟩
   ·rw [if_neg (by simpa using hc)]
    refine wpS_bind (s_elem (by lia) ?_)
    try dsimp only
    have MB:=MI.pushA M (by lia) fun i hi h2=>by
     have:=srt_at sb hi h2
     lia
    refine wpS_ite (fun hz=>?_) (fun hz=>?_)
    ·exact wpS_pure ⟨⟨_,rfl⟩,MB.las (by simpa using hz) hl⟩
    have hz':x+1+1≠a.size:=by simpa using hz
    refine wpS_ite (fun hz=>?_) (fun hz=>?_)
    ·exact wpS_pure ⟨⟨_,rfl⟩,(by simp only;lia),hy,MB,by simp only;lia⟩
    ·exact wpS_pure ⟨⟨_,rfl⟩,_,_,_,_,_,rfl,by lia,hy,MB,by lia⟩
  case post1=>
   intro hI0 st' hI2
   refine hide fun gG hG=>?_
   obtain ⟨d1,o1,x1,y1,p1,q1⟩:=hI0
   obtain ⟨⟨g,rfl⟩,hd⟩:=hI2
   refine hG ?_
   dsimp only at hd ⊢
   cases d1 with
   | some R=>exact wpS_pure ⟨⟨_,rfl⟩,R,rfl,hd⟩
   | none=>
    refine hide fun gG hG=>?_
    obtain ⟨hx1,hy1,M1,hn1⟩:=hd
    refine hG ?_
    clear hx hy M hb1 hn
    try dsimp only
    refine wpS_bind (wpS_lift (wpAny_rule ⟨rfl,?_⟩))
    refine wpS_bind (wpS_mono (wpS_forRange (I:=fun _ e st'=>(∃g,st'=setGal st g)/\∃o' x' y' m' p q,e=(none,o',x',y',m',p,q)/\x'+1 < a.size/\y' < b.size/\MIa r a b o' x' y'/\n+2<=x'+y')
     (Q:=fun e st'=>(∃g,st'=setGal st g)/\match e.1 with | some R=>Good r a b R | none=>e.2.2.1+1 < a.size/\e.2.2.2.1 < b.size/\MIa r a b e.2.1 e.2.2.1 e.2.2.2.1/\n+2<=e.2.2.1+e.2.2.2.1) ?step2 ?fin2 ⟨⟨_,rfl⟩,_,_,_,_,_,_,rfl,hx1,hy1,M1,hn1⟩) ?post2)
    case fin2=>
     intro e st' hI2
     refine hide fun gG hG=>?_
     obtain ⟨hg,o',x',y',m',p,q,rfl,hx',hy',M',hn'⟩:=hI2
     refine hG ?_
     exact ⟨hg,hx',hy',M',hn'⟩
    case post2=>
     intro hI0 st' hI2
     refine hide fun gG hG=>?_
     obtain ⟨e1,o2,x2,y2,m2,p2,q2⟩:=hI0
     obtain ⟨⟨g,rfl⟩,he⟩:=hI2
     refine hG ?_
     dsimp only at he ⊢
     cases e1 with
     | some R=>exact wpS_pure ⟨⟨_,rfl⟩,R,rfl,he⟩
     | none=>
      refine hide fun gG hG=>?_
      obtain ⟨hx2,hy2,M2,hn2⟩:=he
      refine hG ?_
      refine wpS_bind (wpS_modify (wpS_pure ⟨⟨_,rfl⟩,_,_,_,_,rfl,hx2,hy2,M2,by lia⟩))
    case step2=>
     clear hx1 hy1 M1 hn1
     intro n2 e st' _ hn2 hI5
     refine hide fun gG hG=>?_
     obtain ⟨⟨g,rfl⟩,o,x,y,m',p,q,rfl,hx,hy,M,hn'⟩:=hI5
     refine hG ?_
     try dsimp only
     refine' share (P:=_) (fun H=>wpS_ite (fun hm=>?A) (fun hm=>?B)) ?_
     case A=>generalize m' - 1=gg;revert gg;exact H
     case B=>clear hm;generalize m'=gg;revert gg;exact H
     intro gg
     try dsimp only
     refine wpS_bind (wpS_modify ?_)
     refine wpS_bind (s_elem hy ?_)
     refine wpS_bind (s_gal C (by lia) (by lia) ha (hb _ (Array.getElem_mem _)) hk (fun i j h1 h2 _=>srt_at sa (by lia) h2) fun k l1 l2 l3=>?_)
     try dsimp only
     replace l1:x+k<=a.size:=by lia
     have l2':∀i,i < k->∀(h2:x+i < a.size),r a[x+i]<=r b[y]:=fun i hi h2=>by simpa [isA] using l2 i hi h2
     have l3':∀i,k<=i->∀(h2:x+i < a.size),r b[y] < r a[x+i]:=fun i hi h2=>by have:=l3 i hi (by lia) h2;simpa [isA] using this
     clear l2 l3
     refine' share2 (R:=fun o' x'=>x'=x+k/\x'+1 < a.size/\MIa r a b o' x' y) (P:=_) (fun H=>wpS_ite (fun hz=>?A) (fun hz=>?B)) ?_
     case A=>
      have MA:=MI.moreA (k:=k) M fun i hi h2 j hj hj2=>by
       have e1:=l2' i hi h2
       have e2:=srt_at sb hj hj2
       lia
      refine wpS_ite (fun hz=>?_) (fun hz=>?_)
      ·exact wpS_pure ⟨⟨_,rfl⟩,MA.las (by simpa using hz) hl⟩
      have hz0:x+k+1≠a.size:=by simpa using hz
      refine wpS_ite (fun hz=>?_) (fun hz=>?_)
      ·exact wpS_pure ⟨⟨_,rfl⟩,MA.fin (.inr (by simpa using hz))⟩
      have hz1:x+k≠a.size:=by simpa using hz
      have e1:x+k+1 < a.size:=by lia
      obtain ⟨x',hx'⟩:∃x',x'=x+k:=⟨_,rfl⟩
      rw [<-hx'] at MA e1 ⊢
      generalize o++a.extract x x'=o' at MA ⊢
      exact H o' x' ⟨hx',e1,MA⟩
     case B=>exact H o x ⟨by lia,hx,M⟩
     rintro o x' ⟨hx',hx1,MA⟩
     clear l2'
     refine wpS_bind (s_elem hy ?_)
     try dsimp only
     have MB:=MI.pushB MA hy (fun i hi h2=>by
        have:=l3' (i - x) (by lia) (by lia)
        have e:x+(i - x)=i:=by lia
        simp only [e] at this
        lia)
     clear l3' MA M l1 hx
     refine wpS_ite (fun hz=>?_) (fun hz=>?_)
     ·exact wpS_pure ⟨⟨_,rfl⟩,MB.fin (.inl (by simpa using hz))⟩
     have hz2:y+1≠b.size:=by simpa using hz
     have hy2:y+1 < b.size:=by lia
     clear hz2 hz
     refine wpS_bind (s_elem (by lia) ?_)
     refine wpS_bind (s_gal C (by lia) (by lia) hb (ha _ (Array.getElem_mem _)) hk (fun i j h1 h2 _=>srt_at sb (by lia) h2) fun k2 l1 l2 l3=>?_)
     try dsimp only
     replace l1:y+1+k2<=b.size:=by lia
     have l2':∀i,i < k2->∀(h2:y+1+i < b.size),r b[y+1+i] < r (a[x']'(by lia)):=fun i hi h2=>by simpa [isA] using l2 i hi h2
     have l3':∀i,k2<=i->∀(h2:y+1+i < b.size),r (a[x']'(by lia))<=r b[y+1+i]:=fun i hi h2=>by have:=l3 i hi (by lia) h2;simpa [isA] using this
     clear l2 l3
     refine' share2 (R:=fun o' y'=>y'=y+1+k2/\y' < b.size/\MIa r a b o' x' y') (P:=_) (fun H=>wpS_ite (fun hz=>?A) (fun hz=>?B)) ?_
     case A=>
      have MC:=MI.moreB (k:=k2) MB fun i hi h2 j hj hj2=>by
       have e1:=l2' i hi h2
       have e2:=srt_at sa hj hj2
       lia
      refine wpS_ite (fun hz=>?_) (fun hz=>?_)
      ·exact wpS_pure ⟨⟨_,rfl⟩,MC.fin (.inl (by simpa using hz))⟩
      have hz4:y+1+k2≠b.size:=by simpa using hz
      have e1:y+1+k2 < b.size:=by lia
      obtain ⟨y',hy'⟩:∃y',y'=y+1+k2:=⟨_,rfl⟩
      rw [<-hy'] at MC e1 ⊢
      generalize _++b.extract (y+1) y'=o' at MC ⊢
      exact H o' y' ⟨hy',e1,MC⟩
     case B=>exact H _ (y+1) ⟨by lia,hy2,MB⟩
     rintro o' y' ⟨hy',hy1,MC⟩
     clear l2' MB
     have MZ:=MI.pushA MC (by lia) fun i hi h2=>by
      have:=l3' (i - (y+1)) (by lia) (by lia)
      simpa [show y+1+(i - (y+1))=i by lia] using this
     clear l3' MC l1 hy2
     refine wpS_bind (s_elem (by lia) ?_)
     try dsimp only
     refine wpS_ite (fun hz=>?_) (fun hz=>?_)
     ·exact wpS_pure ⟨⟨_,rfl⟩,(MZ.las (by simpa using hz) hl)⟩
     ·have hz':x'+1+1≠a.size:=by simpa using hz
      have e1:x'+1+1 < a.size:=by lia
      have e2:n+2<=x'+1+y':=by lia
      refine wpS_ite (fun hz=>?_) (fun hz=>?_)
      ·exact wpS_pure ⟨⟨_,rfl⟩,e1,hy1,MZ,e2⟩
      ·exact wpS_pure ⟨⟨_,rfl⟩,_,_,_,_,_,_,rfl,e1,hy1,MZ,e2⟩
end
end L2
end
section
namespace L2
open PySem PySem.W PyProof.Rows
structure MH (r:Keyed->Int) (tot ra rb o:List Keyed):Prop where
 perm:(ra++rb++o).Perm tot
 so:SrtL r o
 sa:SrtL r ra
 sb:SrtL r rb
 la:∀u∈ra,∀v∈o,r u<=r v
 lb:∀u∈rb,∀v∈o,r u<=r v
section
variable {r:Keyed->Int} {tot o ra rb p:List Keyed}
theorem MH.takeB (h:MH r tot ra (rb++p) o) (hp:∀u∈p,∀v∈ra,r v<=r u):MH r tot ra rb (p++o):=by
 have sb:=List.pairwise_append.mp h.sb
 refine ⟨by simpa [List.append_assoc] using h.perm,List.pairwise_append.mpr ⟨sb.2.1,h.so,fun u hu v hv=>h.lb u (List.mem_append_right _ hu) v hv⟩,h.sa,sb.1,fun u hu v hv=>?_,fun u hu v hv=>?_⟩
 ·rcases List.mem_append.mp hv with hv | hv
  ·exact hp v hv u hu
  ·exact h.la u hu v hv
 ·rcases List.mem_append.mp hv with hv | hv
  ·exact sb.2.2 u hu v hv
  ·exact h.lb u (List.mem_append_left _ hu) v hv
theorem MH.takeA (h:MH r tot (ra++p) rb o) (hp:∀u∈p,∀v∈rb,r v<=r u):MH r tot ra rb (p++o):=by
 have sa:=List.pairwise_append.mp h.sa
 refine ⟨?_,List.pairwise_append.mpr ⟨sa.2.1,h.so,fun u hu v hv=>h.la u (List.mem_append_right _ hu) v hv⟩,sa.1,h.sb,fun u hu v hv=>?_,fun u hu v hv=>?_⟩
 ·refine List.Perm.trans ?_ h.perm
  rw [<-List.append_assoc]
  refine List.Perm.append_right o ?_
  rw [List.append_assoc,List.append_assoc]
  exact List.Perm.append_left ra List.perm_append_comm
 ·rcases List.mem_append.mp hv with hv | hv
  ·exact sa.2.2 u hu v hv
  ·exact h.la u (List.mem_append_left _ hu) v hv
 ·rcases List.mem_append.mp hv with hv | hv
  ·exact hp v hv u hu
  ·exact h.lb u hu v hv
theorem MH.endA (h:MH r tot ra [] o):(ra++o).Perm tot/\SrtL r (ra++o):=⟨by simpa using h.perm,List.pairwise_append.mpr ⟨h.sa,h.so,h.la⟩⟩
theorem MH.endB (h:MH r tot [] rb o):(rb++o).Perm tot/\SrtL r (rb++o):=⟨by simpa using h.perm,List.pairwise_append.mpr ⟨h.sb,h.so,h.lb⟩⟩
theorem MH.endF {z:Keyed} (h:MH r tot ra [z] o) (hz:∀v∈ra,r z<=r v):([z]++ra++o).Perm tot/\SrtL r ([z]++ra++o):=by
 have h':=(MH.takeA (p:=ra) (ra:=[]) (by simpa using h) fun u hu v hv=>by rw [List.mem_singleton.mp hv];exact hz u hu).endB
 rw [List.append_assoc];exact h'
end
section
variable {r:Keyed->Int} {a b o:Array Keyed} {x y e:Nat}
abbrev MHa (r:Keyed->Int) (a b o:Array Keyed) (x y:Nat):Prop:=MH r (tot a b) (a.toList.take x) (b.toList.take y) o.toList.reverse
theorem ext_0 (a:Array Keyed) (x:Nat):(a.extract 0 x).toList=a.toList.take x:=by
 rw [ext_list,List.drop_zero,Nat.sub_zero]
theorem take_cut (l:List Keyed) {x e:Nat} (h:e<=x):l.take x=l.take e++(l.drop e).take (x - e):=by
 have:=(List.take_append_drop e (l.take x)).symm
 rw [List.take_take,Nat.min_eq_left h,List.drop_take] at this
 exact this
theorem take_one (a:Array Keyed) {x:Nat} (h:x < a.size):a.toList.take (x+1)=a.toList.take x++[a[x]]:=by
 rw [List.take_add_one,List.getElem?_eq_getElem (by simpa using h)];simp
theorem mem_tk {a:Array Keyed} {x:Nat} {v:Keyed} (h:v∈a.toList.take x):∃i,∃(hi:i < a.size),i < x/\v=a[i]:=by
 have h':v∈(a.toList.drop 0).take x:=by simpa using h
 refine hide fun gG hG=>?_
 obtain ⟨i,hi,hx,e⟩:=mem_take_at h'
 refine hG ?_
 exact ⟨i,by lia,hx,by rw [e];simp⟩
theorem MH.pushB (h:MHa r a b o x (y+1)) (hy:y < b.size) (hx:∀i,i < x->∀(hi:i < a.size),r a[i]<=r b[y]):MHa r a b (o.push b[y]) x y:=by
 have h':MH r (tot a b) (a.toList.take x) (b.toList.take y++[b[y]]) o.toList.reverse:=by rw [<-take_one b hy];exact h
 have:=h'.takeB fun u hu v hv=>by
  refine hide fun gG hG=>?_
  obtain ⟨i,hi,hk,rfl⟩:=mem_tk hv
  refine hG ?_
  rw [List.mem_singleton.mp hu]
  exact hx _ hk hi
 show MH r (tot a b) _ _ (o.push b[y]).toList.reverse
 rw [Array.toList_push,List.reverse_append];exact this
theorem MH.pushA (h:MHa r a b o (x+1) y) (hx:x < a.size) (hy:∀i,i < y->∀(hi:i < b.size),r b[i]<=r a[x]):MHa r a b (o.push a[x]) x y:=by
 have h':MH r (tot a b) (a.toList.take x++[a[x]]) (b.toList.take y) o.toList.reverse:=by rw [<-take_one a hx];exact h
 have:=h'.takeA fun u hu v hv=>by
  refine hide fun gG hG=>?_
  obtain ⟨i,hi,hk,rfl⟩:=mem_tk hv
  refine hG ?_
  rw [List.mem_singleton.mp hu]
  exact hy _ hk hi
 show MH r (tot a b) _ _ (o.push a[x]).toList.reverse
 rw [Array.toList_push,List.reverse_append];exact this
theorem MH.moreA (h:MHa r a b o x y) (he:e<=x) (hp:∀i,e<=i->i < x->∀(hi:i < a.size) j,j < y->∀(hj:j < b.size),r b[j]<=r a[i]):MHa r a b (o++(a.extract e x).reverse) e y:=by
 have h':MH r (tot a b) (a.toList.take e++(a.toList.drop e).take (x - e)) (b.toList.take y) o.toList.reverse:=by rw [<-take_cut _ he];exact h
 have:=h'.takeA fun u hu v hv=>by
  refine hide fun gG hG=>?_
  obtain ⟨i,hi,hk,rfl⟩:=mem_take_at hu
  obtain ⟨j,hj,hj2,rfl⟩:=mem_tk hv
  refine hG ?_
  exact hp (e+i) (by lia) (by lia) hi _ hj2 hj
 show MH r (tot a b) _ _ (o++(a.extract e x).reverse).toList.reverse
 rw [Array.toList_append,Array.toList_reverse,List.reverse_append,List.reverse_reverse,ext_list]
 exact this
theorem MH.moreB (h:MHa r a b o x y) (he:e<=y) (hp:∀i,e<=i->i < y->∀(hi:i < b.size) j,j < x->∀(hj:j < a.size),r a[j]<=r b[i]):MHa r a b (o++(b.extract e y).reverse) x e:=by
 have h':MH r (tot a b) (a.toList.take x) (b.toList.take e++(b.toList.drop e).take (y - e)) o.toList.reverse:=by rw [<-take_cut _ he];exact h
 have:=h'.takeB fun u hu v hv=>by
  refine hide fun gG hG=>?_
  obtain ⟨i,hi,hk,rfl⟩:=mem_take_at hu
  obtain ⟨j,hj,hj2,rfl⟩:=mem_tk hv
  refine hG ?_
  exact hp (e+i) (by lia) (by lia) hi _ hj2 hj
 show MH r (tot a b) _ _ (o++(b.extract e y).reverse).toList.reverse
 rw [Array.toList_append,Array.toList_reverse,List.reverse_append,List.reverse_reverse,ext_list]
 exact this
theorem MH.fin (h:MHa r a b o x y) (e:x=0\/y=0):Good r a b (a.extract 0 x++b.extract 0 y++o.reverse):=by
 unfold Good
 rw [Array.toList_append,Array.toList_append,Array.toList_reverse,ext_0,ext_0]
 rcases e with e | e
 ·subst e
  exact MH.endB h
 ·subst e
  rw [List.take_zero,List.append_nil]
  exact MH.endA h
theorem MH.fst (h:MHa r a b o x y) (e:y=1) (nb:0 < b.size) (h0:∀v∈a,r b[0]<=r v):Good r a b (b.extract 0 y++a.extract 0 x++o.reverse):=by
 unfold Good
 rw [Array.toList_append,Array.toList_append,Array.toList_reverse,ext_0,ext_0]
 subst e
 have z:b.toList.take 1=[b[0]]:=by rw [take_one b nb];rfl
 have h':MH r (tot a b) (a.toList.take x) [b[0]] o.toList.reverse:=by rw [<-z];exact h
 rw [z]
 exact h'.endF fun v hv=>h0 v (by simpa using List.mem_of_mem_take hv)
end
section
variable {prog:Program} {w:World} {A:Around} {E:Value->Shared->Prop} {s:Shared} {κ:SortKind} {r:Keyed->Int} {U:Keyed->Prop}
theorem s_mHi (C:Cmp prog w A s κ r U) {a b:Array Keyed} {Q:Array Keyed->SortSt->Prop} {st:SortSt} (hk:kindOf st=κ) (ha:∀z∈a,U z) (hb:∀z∈b,U z) (sa:SrtL r a.toList) (sb:SrtL r b.toList) (na:0 < a.size) (nb:0 < b.size)
  (h0:∀v∈a,r b[0]<=r v) (hl:∀v∈b,r v<=r (a[a.size - 1]'(by lia))) (h:∀R g,Good r a b R->Q R (setGal st g)):wpS (model prog w) A E s (mHi a b) Q st:=by
 rw [mHi_eq]
 refine wpS_bind (wpS_lift (wpAny_rule ⟨rfl,?_⟩))
 refine wpS_bind (s_elem (by lia) ?_)
 try dsimp only
 obtain ⟨na',hna⟩:∃na',a.size=na'+1:=⟨a.size - 1,by lia⟩
 have M0:MHa r a b #[a[a.size - 1]'(by lia)] (a.size - 1) b.size:=by
  refine MH.pushA (o:=#[]) (x:=a.size - 1) (y:=b.size) ⟨?_,List.Pairwise.nil,?_,?_,by simp,by simp⟩ (by lia) fun i hi hi2=>hl _ (Array.getElem_mem _)
  ·rw [show a.size - 1+1=a.size by lia,List.take_of_length_le (by simp),List.take_of_length_le (by simp)];simp
  ·rw [show a.size - 1+1=a.size by lia,List.take_of_length_le (by simp)];exact sa
  ·rw [List.take_of_length_le (by simp)];exact sb
 refine wpS_ite (fun hz=>?_) (fun hz1=>?_)
 ·exact wpS_pure (h _ (gallopOf st) (M0.fin (.inl (by simpa using hz))))
 refine wpS_ite (fun hz=>?_) (fun hz2=>?_)
 ·exact wpS_pure (h _ (gallopOf st) (M0.fst (by simpa using hz) nb h0))
 have hz1':a.size - 1≠0:=by simpa using hz1
 have hz2':b.size≠1:=by simpa using hz2
 clear hz1 hz2
 refine wpS_bind (wpS_get ?_)
 refine wpS_bind (wpS_mono (wpS_forRange (a:=0) (I:=fun n c st'=>(∃g,st'=setGal st g)/\∃o x y mg,c=(none,x,y,o,mg)/\0 < x/\x<=a.size/\1 < y/\y<=b.size/\MHa r a b o x y/\x+y+n+1<=a.size+b.size)
  (Q:=fun c st'=>(∃g,st'=setGal st g)/\∃R,c.1=some R/\Good r a b R) ?step ?fin ⟨⟨gallopOf st,rfl⟩,_,a.size - 1,b.size,gallopOf st,rfl,by lia,by lia,by lia,by lia,M0,by lia⟩) ?post)
 case post=>
  intro hI0 st' hI2
  refine hide fun gG hG=>?_
  obtain ⟨c1,c⟩:=hI0
  obtain ⟨⟨g,rfl⟩,R,rfl,hR⟩:=hI2
  refine hG ?_
  exact wpS_pure (h R g hR)
 case fin=>
  intro c st' hI2
  refine hide fun gG hG=>?_
  obtain ⟨_,o,x,y,mg,rfl,hx,hx0,hy,hy0,M,hn⟩:=hI2
  refine hG ?_
  lia
 case step=>
  clear hz1' hz2' M0 h hna
  intro n c st' _ hn hI5
  refine hide fun gG hG=>?_
  obtain ⟨⟨g,rfl⟩,o,x,y,mg,rfl,hx,hx0,hy,hy0,M,hb1⟩:=hI5
  refine hG ?_
  try dsimp only
  refine wpS_bind (wpS_mono (wpS_forRange (a:=0) (I:=fun n1 d st'=>(∃g,st'=setGal st g)/\∃o' x' y' p q,d=(none,x',y',o',p,q)/\0 < x'/\x'<=a.size/\1 < y'/\y'<=b.size/\MHa r a b o' x' y'/\x'+y'+n1<=x+y)
   (Q:=fun d st'=>(∃g,st'=setGal st g)/\match d.1 with | some R=>Good r a b R | none=>0 < d.2.1/\d.2.1<=a.size/\1 < d.2.2.1/\d.2.2.1<=b.size/\MHa r a b d.2.2.2.1 d.2.1 d.2.2.1/\d.2.1+d.2.2.1+n+2<=a.size+b.size) ?step1 ?fin1 ⟨⟨g,rfl⟩,o,x,y,0,0,rfl,hx,hx0,hy,hy0,M,by lia⟩) ?post1)
  case fin1=>
   intro d st' hI2
   refine hide fun gG hG=>?_
   obtain ⟨hg,o',x',y',p,q,rfl,hx',hx0',hy',hy0',M',hn'⟩:=hI2
   refine hG ?_
   exact ⟨hg,hx',hx0',hy',hy0',M',by simp only;lia⟩
  case step1=>
   clear hx hx0 hy hy0 M hn
   intro n1 d st' _ hn1 hI5
   refine hide fun gG hG=>?_
   obtain ⟨⟨g,rfl⟩,o,x,y,p,q,rfl,hx,hx0,hy,hy0,M,hn'⟩:=hI5
   refine hG ?_
   try dsimp only
   refine hide fun gG hG=>?_
   obtain ⟨x,rfl⟩:∃x1,x=x1+1:=⟨x - 1,by lia⟩
   obtain ⟨y,rfl⟩:∃y1,y=y1+1:=⟨y - 1,by lia⟩
   refine hG ?_
   simp only [Nat.add_sub_cancel]
   refine wpS_bind (s_elem (by lia) ?_)
   refine wpS_bind (s_elem (by lia) ?_)
   refine wpS_bind (s_lt C (hb _ (Array.getElem_mem _)) (ha _ (Array.getElem_mem _)) hk ?_)
   try dsimp only
   by_cases hc:r b[y] < r a[x]
   ·rw [if_pos (by simpa using hc)]
    refine wpS_bind (s_elem (by lia) ?_)
    try dsimp only
    have MB:=MH.pushA M (by lia) fun i hi h2=>by
     have:=srt_at sb (show i<=y by lia) (by lia)
     lia
    refine wpS_ite (fun hz=>?_) (fun hz=>?_)
    ·exact wpS_pure ⟨⟨_,rfl⟩,MB.fin (.inl (by simpa using hz))⟩
    have hz':x≠0:=by simpa using hz
    refine wpS_ite (fun hz=>?_) (fun hz=>?_)
    ·exact wpS_pure ⟨⟨_,rfl⟩,(by simp only;lia),(by simp only;lia),hy,hy0,MB,by simp only;lia⟩
    ·exact wpS_pure ⟨⟨_,rfl⟩,_,_,_,_,_,rfl,by lia,by lia,hy,hy0,MB,by lia⟩
   ·rw [if_neg (by simpa using hc)]
    refine wpS_bind (s_elem (by lia) ?_)
    try dsimp only
    have MB:=MH.pushB M (by lia) fun i hi h2=>by
     have:=srt_at sa (show i<=x by lia) (by lia)
     lia
    refine wpS_ite (fun hz=>?_) (fun hz=>?_)
    ·exact wpS_pure ⟨⟨_,rfl⟩,MB.fst (by simpa using hz) nb h0⟩
    have hz':y≠1:=by simpa using hz
    refine wpS_ite (fun hz=>?_) (fun hz=>?_)
    ·exact wpS_pure ⟨⟨_,rfl⟩,hx,hx0,(by simp only;lia),(by simp only;lia),MB,by simp only;lia⟩
    ·exact wpS_pure ⟨⟨_,rfl⟩,_,_,_,_,_,rfl,hx,hx0,by lia,by lia,MB,by lia⟩
  case post1=>
   intro hI0 st' hI2
   refine hide fun gG hG=>?_
   obtain ⟨d1,x1,y1,o1,p1,q1⟩:=hI0
   obtain ⟨⟨g,rfl⟩,hd⟩:=hI2
   refine hG ?_
   dsimp only at hd ⊢
   cases d1 with
   | some R=>exact wpS_pure ⟨⟨_,rfl⟩,R,rfl,hd⟩
   | none=>
    refine hide fun gG hG=>?_
    obtain ⟨hx1,hx01,hy1,hy01,M1,hn1⟩:=hd
    refine hG ?_
    clear hx hx0 hy hy0 M hb1 hn
    try dsimp only
    refine wpS_bind (wpS_lift (wpAny_rule ⟨rfl,?_⟩))
    refine wpS_bind (wpS_mono (wpS_forRange (I:=fun _ e st'=>(∃g,st'=setGal st g)/\∃o' x' y' m' p q,e=(none,x',y',o',m',p,q)/\0 < x'/\x'<=a.size/\1 < y'/\y'<=b.size/\MHa r a b o' x' y'/\x'+y'+n+2<=a.size+b.size)
     (Q:=fun e st'=>(∃g,st'=setGal st g)/\match e.1 with | some R=>Good r a b R | none=>0 < e.2.1/\e.2.1<=a.size/\1 < e.2.2.1/\e.2.2.1<=b.size/\MHa r a b e.2.2.2.1 e.2.1 e.2.2.1/\e.2.1+e.2.2.1+n+2<=a.size+b.size) ?step2 ?fin2 ⟨⟨_,rfl⟩,_,_,_,_,_,_,rfl,hx1,hx01,hy1,hy01,M1,hn1⟩) ?post2)
    case fin2=>
     intro e st' hI2
     refine hide fun gG hG=>?_
     obtain ⟨hg,o',x',y',m',p,q,rfl,hx',hx0',hy',hy0',M',hn'⟩:=hI2
     refine hG ?_
     exact ⟨hg,hx',hx0',hy',hy0',M',hn'⟩
    case post2=>
     intro hI0 st' hI2
     refine hide fun gG hG=>?_
     obtain ⟨e1,x2,y2,o2,m2,p2,q2⟩:=hI0
     obtain ⟨⟨g,rfl⟩,he⟩:=hI2
     refine hG ?_
     dsimp only at he ⊢
     cases e1 with
     | some R=>exact wpS_pure ⟨⟨_,rfl⟩,R,rfl,he⟩
     | none=>
      refine hide fun gG hG=>?_
      obtain ⟨hx2,hx02,hy2,hy02,M2,hn2⟩:=he
      refine hG ?_
      refine wpS_bind (wpS_modify (wpS_pure ⟨⟨_,rfl⟩,_,_,_,_,rfl,hx2,hx02,hy2,hy02,M2,by lia⟩))
    case step2=>
     clear hx1 hx01 hy1 hy01 M1 hn1
     intro n2 e st' _ hn2 hI5
     refine hide fun gG hG=>?_
     obtain ⟨⟨g,rfl⟩,o,x,y,m',p,q,rfl,hx,hx0,hy,hy0,M,hn'⟩:=hI5
     refine hG ?_
     try dsimp only
     refine' share (P:=_) (fun H=>wpS_ite (fun hm=>?A) (fun hm=>?B)) ?_
     case A=>generalize m' - 1=gg;revert gg;exact H
     case B=>clear hm;generalize m'=gg;revert gg;exact H
     intro gg
     obtain ⟨y,rfl⟩:∃y1,y=y1+1:=⟨y - 1,by lia⟩
     simp only [Nat.add_sub_cancel]
     refine wpS_bind (wpS_modify ?_)
     refine wpS_bind (s_elem (by lia) ?_)
     refine wpS_bind (s_gal C (by lia) (by lia) ha (hb _ (Array.getElem_mem _)) hk (fun i j h1 h2 _=>srt_at sa (by lia) h2) fun e l1 l2 l3=>?_)
     try dsimp only
     have l2':∀i,i < e->∀(h2:i < a.size),r a[i]<=r (b[y]'(by lia)):=fun i hi h2=>by simpa [isA] using l2 i hi (by lia)
     have l3':∀i,e<=i->i < x->∀(h2:i < a.size),r (b[y]'(by lia)) < r a[i]:=fun i hi hi2 h2=>by have:=l3 i hi hi2 (by lia);simpa [isA] using this
     clear l2 l3
     generalize hcnt:x - e=cnt
     refine' share2 (R:=fun o' x'=>x'=e/\0 < x'/\MHa r a b o' x' (y+1)) (P:=_) (fun H=>wpS_ite (fun hz=>?A) (fun hz=>?B)) ?_
     case A=>
      have MA:=MH.moreA (e:=e) M l1 fun i hi hi2 h2 j hj hj2=>by
       have e1:=l3' i hi hi2 h2
       have e2:=srt_at sb (show j<=y by lia) (by lia)
       lia
      refine wpS_ite (fun hz=>?_) (fun hz=>?_)
      ·exact wpS_pure ⟨⟨_,rfl⟩,MA.fin (.inl (by simpa using hz))⟩
      have hz0:e≠0:=by simpa using hz
      have e1:0 < e:=by lia
      obtain ⟨x',hx'⟩:∃x',x'=e:=⟨_,rfl⟩
      rw [<-hx'] at MA e1 ⊢
      generalize o++(a.extract x' x).reverse=o' at MA ⊢
      exact H o' x' ⟨hx',e1,MA⟩
     case B=>exact H o x ⟨by lia,hx,M⟩
     rintro o x' ⟨hx',hx1,MA⟩
     obtain ⟨x',rfl⟩:∃x1,x'=x1+1:=⟨x' - 1,by lia⟩
     simp only [Nat.add_sub_cancel]
     have MB:=MH.pushB (y:=y) MA (by lia) fun i hi h2=>l2' i (by lia) h2
     clear l2' l3' MA M
     refine wpS_bind (s_elem (by lia) ?_)
     try dsimp only
     refine wpS_ite (fun hz=>?_) (fun hz=>?_)
     ·exact wpS_pure ⟨⟨_,rfl⟩,MB.fst (by simpa using hz) nb h0⟩
     have hz2:y≠1:=by simpa using hz
     have hy2:1 < y:=by lia
     have hxa:x'+1<=a.size:=by lia
     have hnn:x'+1+(y+1)+n+2<=a.size+b.size:=by lia
     clear hz2 hz hcnt hx' hn' hx0 hx l1
     refine wpS_bind (s_elem (by lia) ?_)
     refine wpS_bind (s_gal C (by lia) (by lia) hb (ha _ (Array.getElem_mem _)) hk (fun i j h1 h2 _=>srt_at sb (by lia) h2) fun f l1 m2 m3=>?_)
     try dsimp only
     have m2':∀i,i < f->∀(h2:i < b.size),r b[i] < r (a[x']'(by lia)):=fun i hi h2=>by simpa [isA] using m2 i hi (by lia)
     have m3':∀i,f<=i->i < y->∀(h2:i < b.size),r (a[x']'(by lia))<=r b[i]:=fun i hi hi2 h2=>by have:=m3 i hi hi2 (by lia);simpa [isA] using this
     clear m2 m3
     generalize hcnt2:y - f=cnt2
     refine' share2 (R:=fun o' y'=>y'=f/\1 < y'/\MHa r a b o' (x'+1) y') (P:=_) (fun H=>wpS_ite (fun hz=>?A) (fun hz=>?B)) ?_
     case A=>
      have MC:=MH.moreB (e:=f) MB (by lia) fun i hi hi2 h2 j hj hj2=>by
       have e1:=m3' i hi hi2 h2
       have e2:=srt_at sa (show j<=x' by lia) (by lia)
       lia
      refine wpS_ite (fun hz=>?_) (fun hz=>?_)
      ·exact wpS_pure ⟨⟨_,rfl⟩,MC.fst (by simpa using hz) nb h0⟩
      have hz4:f≠1:=by simpa using hz
      refine wpS_ite (fun hz=>?_) (fun hz=>?_)
      ·exact wpS_pure ⟨⟨_,rfl⟩,MC.fin (.inr (by simpa using hz))⟩
      have hz5:f≠0:=by simpa using hz
      have e1:1 < f:=by lia
      obtain ⟨y',hy'⟩:∃y',y'=f:=⟨_,rfl⟩
      rw [<-hy'] at MC e1 ⊢
      generalize _++(b.extract y' y).reverse=o' at MC ⊢
      exact H o' y' ⟨hy',e1,MC⟩
     case B=>exact H _ y ⟨by lia,hy2,MB⟩
     rintro o' y' ⟨hy',hy1,MC⟩
     have MZ:=MH.pushA (x:=x') MC (by lia) fun i hi h2=>(by have:=m2' i (by lia) h2;lia)
     clear m2' m3' MB MC
     refine wpS_bind (s_elem (by lia) ?_)
     try dsimp only
     refine wpS_ite (fun hz=>?_) (fun hz=>?_)
     ·exact wpS_pure ⟨⟨_,rfl⟩,MZ.fin (.inl (by simpa using hz))⟩
     ·have hz':x'≠0:=by simpa using hz
      have e1:0 < x':=by lia
      have e2:x'<=a.size:=by lia
      have e3:y'<=b.size:=by lia
      have e4:x'+y'+n+2<=a.size+b.size:=by lia
      refine wpS_ite (fun hz=>?_) (fun hz=>?_)
      ·exact wpS_pure ⟨⟨_,rfl⟩,e1,e2,hy1,e3,MZ,e4⟩
      ·exact wpS_pure ⟨⟨_,rfl⟩,_,_,_,_,_,_,rfl,e1,e2,hy1,e3,MZ,e4⟩
end
end L2
end
section
namespace L2
open PySem PySem.W PyProof.Rows
section
variable {prog:Program} {w:World} {A:Around} {E:Value->Shared->Prop} {s:Shared} {κ:SortKind} {r:Keyed->Int} {a₀:Array Keyed}
def Rk (r:Keyed->Int) (xs:Array Keyed) (i:Nat):Int:=match xs[i]? with
 | some p=>r p
 | none=>0
theorem Rk.eq {xs:Array Keyed} {i:Nat} (h:i < xs.size):Rk r xs i=r xs[i]:=by unfold Rk;rw [Array.getElem?_eq_getElem h]
theorem Rk.congr {xs ys:Array Keyed} {i j:Nat} (h:xs[i]? = ys[j]?):Rk r xs i=Rk r ys j:=by unfold Rk;rw [h]
def Sg (r:Keyed->Int) (xs:Array Keyed) (lo hi:Nat):Prop:=∀i j,lo<=i->i<=j->j < hi->Rk r xs i<=Rk r xs j
def Dg (r:Keyed->Int) (xs:Array Keyed) (lo hi:Nat):Prop:=∀i j,lo<=i->i<=j->j < hi->Rk r xs j<=Rk r xs i
structure SB (a₀:Array Keyed) (κ:SortKind) (st:SortSt):Prop where
 perm:(arrOf st).Perm a₀
 kind:kindOf st=κ
 ok:failedOf st=none
theorem SB.size {st:SortSt} (h:SB a₀ κ st):(arrOf st).size=a₀.size:=h.perm.size_eq
theorem SB.put {st:SortSt} (h:SB a₀ κ st) {xs:Array Keyed} (hp:xs.Perm (arrOf st)):SB a₀ κ (setArr st xs):=⟨hp.trans h.perm,h.kind,h.ok⟩
theorem SB.mem {st:SortSt} (h:SB a₀ κ st) {z:Keyed} (hz:z∈arrOf st):z∈a₀:=h.perm.mem_iff.mp hz
abbrev CmpA (prog:Program) (w:World) (A:Around) (s:Shared) (κ:SortKind) (r:Keyed->Int) (a₀:Array Keyed):Prop:=Cmp prog w A s κ r (·∈a₀)
theorem s_ltAt (C:CmpA prog w A s κ r a₀) {st:SortSt} {i j:Nat} {Q:Option Bool->SortSt->Prop} (B:SB a₀ κ st) (hi:i < a₀.size) (hj:j < a₀.size) (h:Q (some (decide (Rk r (arrOf st) i < Rk r (arrOf st) j))) st):wpS (model prog w) A E s (ltAt' i j) Q st:=by
 have hi':i < (arrOf st).size:=by rw [B.size];exact hi
 have hj':j < (arrOf st).size:=by rw [B.size];exact hj
 rw [Rk.eq hi',Rk.eq hj'] at h
 rw [ltAt'_eq]
 refine wpS_bind (wpS_get ?_)
 refine wpS_bind (s_elem hi' (wpS_bind (s_elem hj' (s_lt C (B.mem (Array.getElem_mem _)) (B.mem (Array.getElem_mem _)) B.kind h))))
theorem s_rev {st:SortSt} {i j:Nat} {Q:Unit->SortSt->Prop} (h:Q () (setArr st (mirror (arrOf st) i j ((j - i) / 2)))):wpS (model prog w) A E s (reverseSlice' i j) Q st:=by
 rw [reverseSlice'_eq];exact wpS_modify h
theorem rk_mirror {xs:Array Keyed} {i j:Nat} (hj:j<=xs.size) (k:Nat):Rk r (mirror xs i j ((j - i) / 2)) k=if i<=k/\k < j then Rk r xs (i+j - 1 - k) else Rk r xs k:=by
 have e:=getElem?_mirror_all (i:=i) hj k
 by_cases h1:i<=k/\k < j
 ·rw [if_pos h1] at e ⊢;exact Rk.congr e
 ·rw [if_neg h1] at e ⊢;exact Rk.congr e
theorem rk_mirror_same {xs:Array Keyed} {i j:Nat} (hj:j<=xs.size) (heq:∀k,i<=k->k < j->Rk r xs k=Rk r xs (j - 1)) (k:Nat):Rk r (mirror xs i j ((j - i) / 2)) k=Rk r xs k:=by
 rw [rk_mirror hj]
 split
 ·rw [heq _ (by lia) (by lia),heq k (by lia) (by lia)]
 ·rfl
def Pre (lo:Nat) (xs ys:Array Keyed):Prop:=∀k,k < lo->ys[k]? = xs[k]?
theorem Pre.refl {lo:Nat} {xs:Array Keyed}:Pre lo xs xs:=fun _ _=>rfl
theorem Pre.trans {lo:Nat} {xs ys zs:Array Keyed} (h:Pre lo xs ys) (g:Pre lo ys zs):Pre lo xs zs:=fun k hk=>(g k hk).trans (h k hk)
theorem Pre.mir {lo i j:Nat} {xs:Array Keyed} (hi:lo<=i) (hj:j<=xs.size):Pre lo xs (mirror xs i j ((j - i) / 2)):=fun k hk=>by
 rw [getElem?_mirror_all hj,if_neg (by lia)]
theorem Pre.bub {lo src d:Nat} {xs:Array Keyed} (hs:src < xs.size) (hd:lo+d<=src):Pre lo xs (bubble xs src d):=fun k hk=>by
 rw [getElem?_bubble hs d (by lia),if_neg (by lia),if_neg (by lia)]
theorem rk_bubble {xs:Array Keyed} {src d:Nat} (hs:src < xs.size) (hd:d<=src) (k:Nat):Rk r (bubble xs src d) k=if k=src - d then Rk r xs src else if src - d < k/\k<=src then Rk r xs (k - 1) else Rk r xs k:=by
 have e:=getElem?_bubble hs d hd k
 by_cases h1:k=src - d
 ·rw [if_pos h1] at e ⊢;exact Rk.congr e
 ·rw [if_neg h1] at e ⊢
  by_cases h2:src - d < k/\k<=src
  ·rw [if_pos h2] at e ⊢;exact Rk.congr e
  ·rw [if_neg h2] at e ⊢;exact Rk.congr e
theorem s_bin (C:CmpA prog w A s κ r a₀) {st:SortSt} {lo n ok:Nat} {Q:Bool->SortSt->Prop} (hn:lo+n<=a₀.size) (hok:ok<=n) (B:SB a₀ κ st) (hs:Sg r (arrOf st) lo (lo+ok))
  (h:∀st',SB a₀ κ st'->pendingOf st'=pendingOf st->Pre lo (arrOf st) (arrOf st')->Sg r (arrOf st') lo (lo+n)->Q true st'):wpS (model prog w) A E s (binarySort' lo n ok) Q st:=by
 rw [binarySort'_eq]
 refine wpS_bind (wpS_mono (wpS_forRange (I:=fun k c st'=>c=(none,())/\SB a₀ κ st'/\pendingOf st'=pendingOf st/\Pre lo (arrOf st) (arrOf st')/\Sg r (arrOf st') lo (lo+min k n))
  (Q:=fun c st'=>c=(none,())/\SB a₀ κ st'/\pendingOf st'=pendingOf st/\Pre lo (arrOf st) (arrOf st')/\Sg r (arrOf st') lo (lo+n)) ?step ?fin ?init) ?post)
 case post=>
  rintro c st' ⟨rfl,B',p',e',s'⟩
  exact wpS_pure (h st' B' p' e' s')
 case init=>
  refine ⟨rfl,B,rfl,.refl,fun i j h1 h2 h3=>?_⟩
  by_cases z:ok=0
  ·have:i=j:=by lia
   subst this;exact Int.le_refl _
  ·exact hs i j h1 h2 (by lia)
 case fin=>
  rintro c st' ⟨hc,B',p',e',s'⟩
  refine ⟨hc,B',p',e',?_⟩
  rwa [show min (max (max ok 1) n) n=n by lia] at s'
 case step=>
  rintro k c st' hak hkn ⟨rfl,B',p',e',s'⟩
  rw [show min k n=k by lia] at s'
  have hsz:(arrOf st').size=a₀.size:=B'.size
  refine wpS_bind (wpS_mono (wpS_forRange (a:=0) (I:=fun x c st''=>st''=st'/\∃l q,c=(none,l,q)/\l<=q/\q<=k/\q - l<=k - x/\(∀i,lo<=i->i < lo+l->Rk r (arrOf st') i<=Rk r (arrOf st') (lo+k))/\(∀i,lo+q<=i->i < lo+k->Rk r (arrOf st') (lo+k) < Rk r (arrOf st') i))
   (Q:=fun c st''=>st''=st'/\∃l q,c=(none,l,q)/\l<=k/\(∀i,lo<=i->i < lo+l->Rk r (arrOf st') i<=Rk r (arrOf st') (lo+k))/\(∀i,lo+l<=i->i < lo+k->Rk r (arrOf st') (lo+k) < Rk r (arrOf st') i)) ?istep ?ifin ⟨rfl,0,k,rfl,by lia,by lia,by lia,fun i _ _=>by lia,fun i _ _=>by lia⟩) ?ipost)
  case ifin=>
   rintro c st'' ⟨rfl,l,q,rfl,a1,a2,a3,a4,a5⟩
   have:l=q:=by lia
   subst this
   exact ⟨rfl,l,l,rfl,a2,a4,a5⟩
  case istep=>
   rintro x c st'' _ hx ⟨rfl,l,q,rfl,a1,a2,a3,a4,a5⟩
   try dsimp only
   refine wpS_ite (fun hz=>?_) (fun hz=>?_)
   ·have:l=q:=by lia
    subst this
    exact wpS_pure ⟨rfl,l,l,rfl,a2,a4,a5⟩
   ·refine wpS_bind (s_ltAt C B' (by lia) (by lia) ?_)
    try dsimp only
    refine wpS_ite (fun hc=>?_) (fun hc=>?_)
    ·have hc':=of_decide_eq_true hc
     refine wpS_pure ⟨rfl,l,(l+q) / 2,rfl,by lia,by lia,by lia,a4,fun i h1 h2=>?_⟩
     have:=s' (lo+(l+q) / 2) i (by lia) h1 (by lia)
     lia
    ·have hc':¬(Rk r (arrOf st'') (lo+k) < Rk r (arrOf st'') (lo+(l+q) / 2)):=fun z=>hc (decide_eq_true z)
     refine wpS_pure ⟨rfl,(l+q) / 2+1,q,rfl,by lia,by lia,by lia,fun i h1 h2=>?_,a5⟩
     have:=s' i (lo+(l+q) / 2) h1 (by lia) (by lia)
     lia
  case ipost=>
   rintro c st'' ⟨rfl,l,q,rfl,hlk,a4,a5⟩
   show wpS _ _ _ _ (do moveDown' (lo+k) (lo+l);pure (ForInStep.yield (none,()))) _ _
   rw [moveDown'_eq]
   have hks:lo+k < (arrOf st'').size:=by lia
   have ed:lo+k - (lo+l)=k - l:=by lia
   refine wpS_bind (wpS_modify (wpS_pure ⟨rfl,B'.put (bubble_perm _ _ _),p',e'.trans (Pre.bub hks (by lia)),?_⟩))
   rw [show min (k+1) n=k+1 by lia]
   intro i j h1 h2 h3
   show Rk r (bubble (arrOf st'') (lo+k) (lo+k - (lo+l))) i<=Rk r (bubble (arrOf st'') (lo+k) (lo+k - (lo+l))) j
   rw [rk_bubble hks (by lia),rk_bubble hks (by lia),ed,show lo+k - (k - l)=lo+l by lia]
   repeat' split
   all_goals first
    | (exfalso;lia)
    | exact Int.le_refl _
    | exact a4 _ (by lia) (by lia)
    | exact Int.le_of_lt (a5 _ (by lia) (by lia))
    | exact s' _ _ (by lia) (by lia) (by lia)
end
end L2
end
section
namespace L2
open PySem PySem.W PyProof.Rows
section
variable {prog:Program} {w:World} {A:Around} {E:Value->Shared->Prop} {s:Shared} {κ:SortKind} {r:Keyed->Int} {a₀:Array Keyed}
theorem s_count (C:CmpA prog w A s κ r a₀) {st:SortSt} {lo nrem:Nat} {Q:Option Nat->SortSt->Prop} (hn:lo+nrem<=a₀.size) (hr1:1<=nrem) (B:SB a₀ κ st)
  (h:∀m st',SB a₀ κ st'->pendingOf st'=pendingOf st->Pre lo (arrOf st) (arrOf st')->1<=m->m<=nrem->Sg r (arrOf st') lo (lo+m)->Q (some m) st'):wpS (model prog w) A E s (countRun' lo nrem) Q st:=by
 rw [countRun'_eq]
 try dsimp only
 have s0:Sg r (arrOf st) lo (lo+1):=fun i j h1 h2 h3=>by
  have:i=j:=by lia
  subst this;exact Int.le_refl _
 refine wpS_bind (wpS_mono (wpS_forRange (a:=1) (I:=fun x c st''=>st''=st/\c=(none,x)/\Sg r (arrOf st) lo (lo+x))
  (Q:=fun c st''=>st''=st/\∃n,c=(none,n)/\1<=n/\n<=nrem/\Sg r (arrOf st) lo (lo+n)/\(n=nrem\/Rk r (arrOf st) (lo+n) < Rk r (arrOf st) (lo+n - 1))) ?stepz ?finz ⟨rfl,rfl,s0⟩) ?postz)
 case finz=>
  rintro c st'' ⟨rfl,rfl,s'⟩
  rw [show max (1) nrem=nrem by lia] at s' ⊢
  exact ⟨rfl,nrem,rfl,by lia,Nat.le_refl _,s',.inl rfl⟩
 case stepz=>
  rintro x c st'' hax hxn ⟨e0,rfl,s'⟩
  replace e0:=e0.symm;subst e0
  try dsimp only
  refine wpS_bind (s_ltAt C B (by lia) (by lia) ?_)
  try dsimp only
  refine wpS_ite (fun hc=>?_) (fun hc=>?_)
  ·exact wpS_pure ⟨rfl,x,rfl,hax,by lia,s',.inr (of_decide_eq_true hc)⟩
  ·have hc':=fun z=>hc (decide_eq_true z)
   refine wpS_pure ⟨rfl,rfl,fun i j h1 h2 h3=>?_⟩
   by_cases hj:j < lo+x
   ·exact s' i j h1 h2 hj
   ·have hj':j=lo+x:=by lia
    subst hj'
    by_cases hi:i=lo+x
    ·subst hi;exact Int.le_refl _
    ·have:=s' i (lo+x - 1) h1 (by lia) (by lia)
     exact Int.le_trans this (Int.not_lt.mp hc')
 case postz=>
  intro c st'' hI2
  refine hide fun gG hG=>?_
  obtain ⟨e0,n,rfl,hn0,hn1,s',hor⟩:=hI2
  refine hG ?_
  replace e0:=e0.symm;subst e0
  try dsimp only
  refine wpS_ite (fun hz=>?_) (fun hz=>?_)
  ·have hz':n=nrem:=by simpa using hz
   exact wpS_pure (h n _ B rfl .refl (by lia) hn1 s')
  have hz':n≠nrem:=by simpa using hz
  have hlt:=hor.resolve_left hz'
  have hsz:(arrOf st).size=a₀.size:=B.size
  refine wpS_ite (fun hz2=>?_) (fun hz2=>?_)
  ·refine wpS_bind (s_ltAt C B (by lia) (by lia) ?_)
   try dsimp only
   refine wpS_ite (fun hc=>?_) (fun hc=>?_)
   ·exact wpS_pure (h n _ B rfl .refl (by lia) hn1 s')
   ·have hc':¬(Rk r (arrOf st) lo < Rk r (arrOf st) (lo+n - 1)):=fun z=>hc (decide_eq_true z)
    have hall:∀k,lo<=k->k < lo+n->Rk r (arrOf st) k=Rk r (arrOf st) (lo+n - 1):=fun k h1 h2=>by
     have a1:=s' lo k (by lia) h1 h2
     have a2:=s' k (lo+n - 1) h1 (by lia) (by lia)
     lia
    refine wpS_bind (s_rev ?_)
    have B1:=B.put (mirror_perm _ lo (lo+n) ((lo+n - lo) / 2))
    have e1:Pre lo (arrOf st) (mirror (arrOf st) lo (lo+n) ((lo+n - lo) / 2)):=Pre.mir (Nat.le_refl lo) (by lia)
    have d1:Dg r (arrOf (setArr st (mirror (arrOf st) lo (lo+n) ((lo+n - lo) / 2)))) lo (lo+(n+1)):=fun i j h1 h2 h3=>by
     show Rk r (mirror (arrOf st) _ _ _) j<=Rk r (mirror (arrOf st) _ _ _) i
     rw [rk_mirror_same (by lia) hall,rk_mirror_same (by lia) hall]
     by_cases hj:j < lo+n
     ·rw [hall i h1 (by lia),hall j (by lia) hj];exact Int.le_refl _
     ·have hj':j=lo+n:=by lia
      subst hj'
      by_cases hi:i=lo+n
      ·subst hi;exact Int.le_refl _
      ·rw [hall i h1 (by lia)];exact Int.le_of_lt hlt
    have e1':Pre lo (arrOf st) (arrOf (setArr st (mirror (arrOf st) lo (lo+n) ((lo+n - lo) / 2)))):=e1
    have p1:pendingOf (setArr st (mirror (arrOf st) lo (lo+n) ((lo+n - lo) / 2)))=pendingOf st:=rfl
    clear e1
    generalize setArr st (mirror (arrOf st) lo (lo+n) ((lo+n - lo) / 2))=S1 at B1 d1 e1' p1 ⊢
    refine wpS_bind (wpS_lift (wpAny_rule ⟨rfl,?_⟩))
    refine wpS_bind (wpS_mono (wpS_forRange (a:=n+1) (I:=fun x c st''=>∃q,c=(none,x,q)/\SB a₀ κ st''/\pendingOf st''=pendingOf st/\Pre lo (arrOf st) (arrOf st'')/\Dg r (arrOf st'') lo (lo+x)/\q+1<=x/\(∀i,lo+x - (q+1)<=i->i < lo+x->Rk r (arrOf st'') i=Rk r (arrOf st'') (lo+x - 1)))
     (Q:=fun c st''=>∃x q,c=(none,x,q)/\n+1<=x/\x<=nrem/\SB a₀ κ st''/\pendingOf st''=pendingOf st/\Pre lo (arrOf st) (arrOf st'')/\Dg r (arrOf st'') lo (lo+x)/\q+1<=x/\(∀i,lo+x - (q+1)<=i->i < lo+x->Rk r (arrOf st'') i=Rk r (arrOf st'') (lo+x - 1))) ?dstepx ?dfinx ⟨0,rfl,B1,p1,e1',d1,by lia,fun i h1 h2=>by congr 1;lia⟩) ?dpostx)
    case dfinx=>
     intro c st'' hI2
     refine hide fun gG hG=>?_
     obtain ⟨q,rfl,b1,b2,b3,b4,b5,b6⟩:=hI2
     refine hG ?_
     rw [show max (n+1) nrem=nrem by lia] at b4 b5 b6 ⊢
     exact ⟨nrem,q,rfl,by lia,Nat.le_refl _,b1,b2,b3,b4,b5,b6⟩
    case dstepx=>
     intro x c st'' hax hxn hI5
     refine hide fun gG hG=>?_
     obtain ⟨q,rfl,b1,b2,b3,b4,b5,b6⟩:=hI5
     refine hG ?_
     have hsz:(arrOf st'').size=a₀.size:=b1.size
     try dsimp only
     refine wpS_bind (s_ltAt C b1 (by lia) (by lia) ?_)
     try dsimp only
     refine wpS_ite (fun hc=>?_) (fun hc=>?_)
     ·have hc':=of_decide_eq_true hc
      have stp:∀xs:Array Keyed,(∀k,Rk r xs k=Rk r (arrOf st'') k)->Dg r xs lo (lo+(x+1)):=fun xs hk i j h1 h2 h3=>by
       rw [hk,hk]
       by_cases hj:j < lo+x
       ·exact b4 i j h1 h2 hj
       ·have hj':j=lo+x:=by lia
        subst hj'
        by_cases hi:i=lo+x
        ·subst hi;exact Int.le_refl _
        ·have:=b4 i (lo+x - 1) h1 (by lia) (by lia)
         lia
      refine wpS_ite (fun hq=>?_) (fun hq=>?_)
      ·refine wpS_bind (s_rev (wpS_pure ⟨0,rfl,b1.put (mirror_perm _ _ _ _),b2,b3.trans (Pre.mir (by lia) (by lia)),stp _ (rk_mirror_same (by lia) b6),by lia,fun i h1 h2=>by congr 1;lia⟩))
      ·exact wpS_pure ⟨0,rfl,b1,b2,b3,stp _ (fun _=>rfl),by lia,fun i h1 h2=>by congr 1;lia⟩
     ·have hc':¬(Rk r (arrOf st'') (lo+x) < Rk r (arrOf st'') (lo+x - 1)):=fun z=>hc (decide_eq_true z)
      refine wpS_bind (s_ltAt C b1 (by lia) (by lia) ?_)
      try dsimp only
      refine wpS_ite (fun hd=>?_) (fun hd=>?_)
      ·exact wpS_pure ⟨x,q,rfl,hax,by lia,b1,b2,b3,b4,b5,b6⟩
      ·have hd':¬(Rk r (arrOf st'') (lo+x - 1) < Rk r (arrOf st'') (lo+x)):=fun z=>hd (decide_eq_true z)
       have heq:Rk r (arrOf st'') (lo+x)=Rk r (arrOf st'') (lo+x - 1):=by lia
       refine wpS_pure ⟨q+1,rfl,b1,b2,b3,fun i j h1 h2 h3=>?_,by lia,fun i h1 h2=>?_⟩
       ·by_cases hj:j < lo+x
        ·exact b4 i j h1 h2 hj
        ·have hj':j=lo+x:=by lia
         subst hj'
         by_cases hi:i=lo+x
         ·subst hi;exact Int.le_refl _
         ·rw [heq];exact b4 i (lo+x - 1) h1 (by lia) (by lia)
       ·rw [show lo+(x+1) - 1=lo+x by lia]
        by_cases hi:i=lo+x
        ·subst hi;rfl
        ·rw [heq];exact b6 i (by lia) (by lia)
    case dpostx=>
     intro c S3 hI2
     refine hide fun gG hG=>?_
     obtain ⟨m,q,rfl,hm1,hm2,b1,b2,b3,b4,b5,b6⟩:=hI2
     refine hG ?_
     try dsimp only
     refine wpS_ite (fun hq=>?_) (fun hq=>?_)
     ·refine wpS_bind (s_rev ?_)
      have hsz:(arrOf S3).size=a₀.size:=b1.size
      have B4:=b1.put (mirror_perm _ (lo+m - (q+1)) (lo+m) ((lo+m - (lo+m - (q+1))) / 2))
      have e4:Pre lo (arrOf st) (arrOf (setArr S3 (mirror (arrOf S3) (lo+m - (q+1)) (lo+m) ((lo+m - (lo+m - (q+1))) / 2)))):=b3.trans (Pre.mir (show lo<=lo+m - (q+1) by lia) (show lo+m<=(arrOf S3).size by lia))
      have d4:Dg r (arrOf (setArr S3 (mirror (arrOf S3) (lo+m - (q+1)) (lo+m) ((lo+m - (lo+m - (q+1))) / 2)))) lo (lo+m):=fun i j h1 h2 h3=>by
       show Rk r (mirror (arrOf S3) _ _ _) j<=Rk r (mirror (arrOf S3) _ _ _) i
       rw [rk_mirror_same (by lia) b6,rk_mirror_same (by lia) b6]
       exact b4 i j h1 h2 h3
      have p4:pendingOf (setArr S3 (mirror (arrOf S3) (lo+m - (q+1)) (lo+m) ((lo+m - (lo+m - (q+1))) / 2)))=pendingOf st:=b2
      generalize setArr S3 (mirror (arrOf S3) (lo+m - (q+1)) (lo+m) ((lo+m - (lo+m - (q+1))) / 2))=S4 at B4 e4 d4 p4 ⊢
      refine wpS_bind (s_rev ?_)
      have hsT:=B4.size
      have B2:=B4.put (mirror_perm _ lo (lo+m) ((lo+m - lo) / 2))
      have e2:Pre lo (arrOf st) (arrOf (setArr S4 (mirror (arrOf S4) lo (lo+m) ((lo+m - lo) / 2)))):=e4.trans (Pre.mir (Nat.le_refl lo) (show lo+m<=_ by rw [hsT];lia))
      have s2:Sg r (mirror (arrOf S4) lo (lo+m) ((lo+m - lo) / 2)) lo (lo+m):=fun i j h1 h2 h3=>by
       rw [rk_mirror (by rw [hsT];lia),rk_mirror (by rw [hsT];lia),if_pos (by lia),if_pos (by lia)]
       exact d4 _ _ (by lia) (by lia) (by lia)
      have p2:pendingOf (setArr S4 (mirror (arrOf S4) lo (lo+m) ((lo+m - lo) / 2)))=pendingOf st:=p4
      have s2':Sg r (arrOf (setArr S4 (mirror (arrOf S4) lo (lo+m) ((lo+m - lo) / 2)))) lo (lo+m):=s2
      clear s2
      generalize setArr S4 (mirror (arrOf S4) lo (lo+m) ((lo+m - lo) / 2))=S2 at B2 p2 s2' e2 ⊢
      have s2:=s2'
      refine wpS_bind (wpS_mono (wpS_forRange (a:=m) (I:=fun x c st''=>st''=S2/\c=(none,x)/\Sg r (arrOf S2) lo (lo+x))
       (Q:=fun c st''=>st''=S2/\∃n,c=(none,n)/\m<=n/\n<=nrem/\Sg r (arrOf S2) lo (lo+n)/\(n=nrem\/Rk r (arrOf S2) (lo+n) < Rk r (arrOf S2) (lo+n - 1))) ?stepxa ?finxa ⟨rfl,rfl,s2⟩) ?postxa)
      case finxa=>
       rintro c st'' ⟨rfl,rfl,s'⟩
       rw [show max (m) nrem=nrem by lia] at s' ⊢
       exact ⟨rfl,nrem,rfl,by lia,Nat.le_refl _,s',.inl rfl⟩
      case stepxa=>
       rintro x c st'' hax hxn ⟨e0,rfl,s'⟩
       replace e0:=e0.symm;subst e0
       try dsimp only
       refine wpS_bind (s_ltAt C B2 (by lia) (by lia) ?_)
       try dsimp only
       refine wpS_ite (fun hc=>?_) (fun hc=>?_)
       ·exact wpS_pure ⟨rfl,x,rfl,hax,by lia,s',.inr (of_decide_eq_true hc)⟩
       ·have hc':=fun z=>hc (decide_eq_true z)
        refine wpS_pure ⟨rfl,rfl,fun i j h1 h2 h3=>?_⟩
        by_cases hj:j < lo+x
        ·exact s' i j h1 h2 hj
        ·have hj':j=lo+x:=by lia
         subst hj'
         by_cases hi:i=lo+x
         ·subst hi;exact Int.le_refl _
         ·have:=s' i (lo+x - 1) h1 (by lia) (by lia)
          exact Int.le_trans this (Int.not_lt.mp hc')
      case postxa=>
       intro c st'' hI2
       refine hide fun gG hG=>?_
       obtain ⟨e0,n,rfl,hn0,hn1,s',hor⟩:=hI2
       refine hG ?_
       replace e0:=e0.symm;subst e0
       try dsimp only
       exact wpS_pure (h n _ B2 p2 e2 (by lia) hn1 s')
     ·refine wpS_bind (s_rev ?_)
      have hsT:=b1.size
      have B2:=b1.put (mirror_perm _ lo (lo+m) ((lo+m - lo) / 2))
      have e2:Pre lo (arrOf st) (arrOf (setArr S3 (mirror (arrOf S3) lo (lo+m) ((lo+m - lo) / 2)))):=b3.trans (Pre.mir (Nat.le_refl lo) (show lo+m<=_ by rw [hsT];lia))
      have s2:Sg r (mirror (arrOf S3) lo (lo+m) ((lo+m - lo) / 2)) lo (lo+m):=fun i j h1 h2 h3=>by
       rw [rk_mirror (by rw [hsT];lia),rk_mirror (by rw [hsT];lia),if_pos (by lia),if_pos (by lia)]
       exact b4 _ _ (by lia) (by lia) (by lia)
      have p2:pendingOf (setArr S3 (mirror (arrOf S3) lo (lo+m) ((lo+m - lo) / 2)))=pendingOf st:=b2
      have s2':Sg r (arrOf (setArr S3 (mirror (arrOf S3) lo (lo+m) ((lo+m - lo) / 2)))) lo (lo+m):=s2
      clear s2
      generalize setArr S3 (mirror (arrOf S3) lo (lo+m) ((lo+m - lo) / 2))=S2 at B2 p2 s2' e2 ⊢
      have s2:=s2'
      refine wpS_bind (wpS_mono (wpS_forRange (a:=m) (I:=fun x c st''=>st''=S2/\c=(none,x)/\Sg r (arrOf S2) lo (lo+x))
       (Q:=fun c st''=>st''=S2/\∃n,c=(none,n)/\m<=n/\n<=nrem/\Sg r (arrOf S2) lo (lo+n)/\(n=nrem\/Rk r (arrOf S2) (lo+n) < Rk r (arrOf S2) (lo+n - 1))) ?stepxb ?finxb ⟨rfl,rfl,s2⟩) ?postxb)
      case finxb=>
       rintro c st'' ⟨rfl,rfl,s'⟩
       rw [show max (m) nrem=nrem by lia] at s' ⊢
       exact ⟨rfl,nrem,rfl,by lia,Nat.le_refl _,s',.inl rfl⟩
      case stepxb=>
       rintro x c st'' hax hxn ⟨e0,rfl,s'⟩
       replace e0:=e0.symm;subst e0
       try dsimp only
       refine wpS_bind (s_ltAt C B2 (by lia) (by lia) ?_)
       try dsimp only
       refine wpS_ite (fun hc=>?_) (fun hc=>?_)
       ·exact wpS_pure ⟨rfl,x,rfl,hax,by lia,s',.inr (of_decide_eq_true hc)⟩
       ·have hc':=fun z=>hc (decide_eq_true z)
        refine wpS_pure ⟨rfl,rfl,fun i j h1 h2 h3=>?_⟩
        by_cases hj:j < lo+x
        ·exact s' i j h1 h2 hj
        ·have hj':j=lo+x:=by lia
         subst hj'
         by_cases hi:i=lo+x
         ·subst hi;exact Int.le_refl _
         ·have:=s' i (lo+x - 1) h1 (by lia) (by lia)
          exact Int.le_trans this (Int.not_lt.mp hc')
      case postxb=>
       intro c st'' hI2
       refine hide fun gG hG=>?_
       obtain ⟨e0,n,rfl,hn0,hn1,s',hor⟩:=hI2
       refine hG ?_
       replace e0:=e0.symm;subst e0
       try dsimp only
       exact wpS_pure (h n _ B2 p2 e2 (by lia) hn1 s')
  ·have hn:n=1:=by lia
   have d1:Dg r (arrOf st) lo (lo+(n+1)):=fun i j h1 h2 h3=>by
    by_cases hi:i=j
    ·subst hi;exact Int.le_refl _
    ·have e1:i=lo+n - 1:=by lia
     have e2:j=lo+n:=by lia
     subst e1;subst e2
     exact Int.le_of_lt hlt
   refine wpS_bind (wpS_lift (wpAny_rule ⟨rfl,?_⟩))
   refine wpS_bind (wpS_mono (wpS_forRange (a:=n+1) (I:=fun x c st''=>∃q,c=(none,x,q)/\SB a₀ κ st''/\pendingOf st''=pendingOf st/\Pre lo (arrOf st) (arrOf st'')/\Dg r (arrOf st'') lo (lo+x)/\q+1<=x/\(∀i,lo+x - (q+1)<=i->i < lo+x->Rk r (arrOf st'') i=Rk r (arrOf st'') (lo+x - 1)))
    (Q:=fun c st''=>∃x q,c=(none,x,q)/\n+1<=x/\x<=nrem/\SB a₀ κ st''/\pendingOf st''=pendingOf st/\Pre lo (arrOf st) (arrOf st'')/\Dg r (arrOf st'') lo (lo+x)/\q+1<=x/\(∀i,lo+x - (q+1)<=i->i < lo+x->Rk r (arrOf st'') i=Rk r (arrOf st'') (lo+x - 1))) ?dstepy ?dfiny ⟨0,rfl,B,rfl,.refl,d1,by lia,fun i h1 h2=>by congr 1;lia⟩) ?dposty)
   case dfiny=>
    intro c st'' hI2
    refine hide fun gG hG=>?_
    obtain ⟨q,rfl,b1,b2,b3,b4,b5,b6⟩:=hI2
    refine hG ?_
    rw [show max (n+1) nrem=nrem by lia] at b4 b5 b6 ⊢
    exact ⟨nrem,q,rfl,by lia,Nat.le_refl _,b1,b2,b3,b4,b5,b6⟩
   case dstepy=>
    intro x c st'' hax hxn hI5
    refine hide fun gG hG=>?_
    obtain ⟨q,rfl,b1,b2,b3,b4,b5,b6⟩:=hI5
    refine hG ?_
    have hsz:(arrOf st'').size=a₀.size:=b1.size
    try dsimp only
    refine wpS_bind (s_ltAt C b1 (by lia) (by lia) ?_)
    try dsimp only
    refine wpS_ite (fun hc=>?_) (fun hc=>?_)
    ·have hc':=of_decide_eq_true hc
     have stp:∀xs:Array Keyed,(∀k,Rk r xs k=Rk r (arrOf st'') k)->Dg r xs lo (lo+(x+1)):=fun xs hk i j h1 h2 h3=>by
      rw [hk,hk]
      by_cases hj:j < lo+x
      ·exact b4 i j h1 h2 hj
      ·have hj':j=lo+x:=by lia
       subst hj'
       by_cases hi:i=lo+x
       ·subst hi;exact Int.le_refl _
       ·have:=b4 i (lo+x - 1) h1 (by lia) (by lia)
        lia
     refine wpS_ite (fun hq=>?_) (fun hq=>?_)
     ·refine wpS_bind (s_rev (wpS_pure ⟨0,rfl,b1.put (mirror_perm _ _ _ _),b2,b3.trans (Pre.mir (by lia) (by lia)),stp _ (rk_mirror_same (by lia) b6),by lia,fun i h1 h2=>by congr 1;lia⟩))
     ·exact wpS_pure ⟨0,rfl,b1,b2,b3,stp _ (fun _=>rfl),by lia,fun i h1 h2=>by congr 1;lia⟩
    ·have hc':¬(Rk r (arrOf st'') (lo+x) < Rk r (arrOf st'') (lo+x - 1)):=fun z=>hc (decide_eq_true z)
     refine wpS_bind (s_ltAt C b1 (by lia) (by lia) ?_)
     try dsimp only
     refine wpS_ite (fun hd=>?_) (fun hd=>?_)
     ·exact wpS_pure ⟨x,q,rfl,hax,by lia,b1,b2,b3,b4,b5,b6⟩
     ·have hd':¬(Rk r (arrOf st'') (lo+x - 1) < Rk r (arrOf st'') (lo+x)):=fun z=>hd (decide_eq_true z)
      have heq:Rk r (arrOf st'') (lo+x)=Rk r (arrOf st'') (lo+x - 1):=by lia
      refine wpS_pure ⟨q+1,rfl,b1,b2,b3,fun i j h1 h2 h3=>?_,by lia,fun i h1 h2=>?_⟩
      ·by_cases hj:j < lo+x
       ·exact b4 i j h1 h2 hj
       ·have hj':j=lo+x:=by lia
        subst hj'
        by_cases hi:i=lo+x
        ·subst hi;exact Int.le_refl _
        ·rw [heq];exact b4 i (lo+x - 1) h1 (by lia) (by lia)
      ·rw [show lo+(x+1) - 1=lo+x by lia]
       by_cases hi:i=lo+x
       ·subst hi;rfl
       ·rw [heq];exact b6 i (by lia) (by lia)
   case dposty=>
    intro c S3 hI2
    refine hide fun gG hG=>?_
    obtain ⟨m,q,rfl,hm1,hm2,b1,b2,b3,b4,b5,b6⟩:=hI2
    refine hG ?_
    try dsimp only
    refine wpS_ite (fun hq=>?_) (fun hq=>?_)
    ·refine wpS_bind (s_rev ?_)
     have hsz:(arrOf S3).size=a₀.size:=b1.size
     have B4:=b1.put (mirror_perm _ (lo+m - (q+1)) (lo+m) ((lo+m - (lo+m - (q+1))) / 2))
     have e4:Pre lo (arrOf st) (arrOf (setArr S3 (mirror (arrOf S3) (lo+m - (q+1)) (lo+m) ((lo+m - (lo+m - (q+1))) / 2)))):=b3.trans (Pre.mir (show lo<=lo+m - (q+1) by lia) (show lo+m<=(arrOf S3).size by lia))
     have d4:Dg r (arrOf (setArr S3 (mirror (arrOf S3) (lo+m - (q+1)) (lo+m) ((lo+m - (lo+m - (q+1))) / 2)))) lo (lo+m):=fun i j h1 h2 h3=>by
      show Rk r (mirror (arrOf S3) _ _ _) j<=Rk r (mirror (arrOf S3) _ _ _) i
      rw [rk_mirror_same (by lia) b6,rk_mirror_same (by lia) b6]
      exact b4 i j h1 h2 h3
     have p4:pendingOf (setArr S3 (mirror (arrOf S3) (lo+m - (q+1)) (lo+m) ((lo+m - (lo+m - (q+1))) / 2)))=pendingOf st:=b2
     generalize setArr S3 (mirror (arrOf S3) (lo+m - (q+1)) (lo+m) ((lo+m - (lo+m - (q+1))) / 2))=S4 at B4 e4 d4 p4 ⊢
     refine wpS_bind (s_rev ?_)
     have hsT:=B4.size
     have B2:=B4.put (mirror_perm _ lo (lo+m) ((lo+m - lo) / 2))
     have e2:Pre lo (arrOf st) (arrOf (setArr S4 (mirror (arrOf S4) lo (lo+m) ((lo+m - lo) / 2)))):=e4.trans (Pre.mir (Nat.le_refl lo) (show lo+m<=_ by rw [hsT];lia))
     have s2:Sg r (mirror (arrOf S4) lo (lo+m) ((lo+m - lo) / 2)) lo (lo+m):=fun i j h1 h2 h3=>by
      rw [rk_mirror (by rw [hsT];lia),rk_mirror (by rw [hsT];lia),if_pos (by lia),if_pos (by lia)]
      exact d4 _ _ (by lia) (by lia) (by lia)
     have p2:pendingOf (setArr S4 (mirror (arrOf S4) lo (lo+m) ((lo+m - lo) / 2)))=pendingOf st:=p4
     have s2':Sg r (arrOf (setArr S4 (mirror (arrOf S4) lo (lo+m) ((lo+m - lo) / 2)))) lo (lo+m):=s2
     clear s2
     generalize setArr S4 (mirror (arrOf S4) lo (lo+m) ((lo+m - lo) / 2))=S2 at B2 p2 s2' e2 ⊢
     have s2:=s2'
     refine wpS_bind (wpS_mono (wpS_forRange (a:=m) (I:=fun x c st''=>st''=S2/\c=(none,x)/\Sg r (arrOf S2) lo (lo+x))
      (Q:=fun c st''=>st''=S2/\∃n,c=(none,n)/\m<=n/\n<=nrem/\Sg r (arrOf S2) lo (lo+n)/\(n=nrem\/Rk r (arrOf S2) (lo+n) < Rk r (arrOf S2) (lo+n - 1))) ?stepya ?finya ⟨rfl,rfl,s2⟩) ?postya)
     case finya=>
      rintro c st'' ⟨rfl,rfl,s'⟩
      rw [show max (m) nrem=nrem by lia] at s' ⊢
      exact ⟨rfl,nrem,rfl,by lia,Nat.le_refl _,s',.inl rfl⟩
     case stepya=>
      rintro x c st'' hax hxn ⟨e0,rfl,s'⟩
      replace e0:=e0.symm;subst e0
      try dsimp only
      refine wpS_bind (s_ltAt C B2 (by lia) (by lia) ?_)
      try dsimp only
      refine wpS_ite (fun hc=>?_) (fun hc=>?_)
      ·exact wpS_pure ⟨rfl,x,rfl,hax,by lia,s',.inr (of_decide_eq_true hc)⟩
      ·have hc':=fun z=>hc (decide_eq_true z)
       refine wpS_pure ⟨rfl,rfl,fun i j h1 h2 h3=>?_⟩
       by_cases hj:j < lo+x
       ·exact s' i j h1 h2 hj
       ·have hj':j=lo+x:=by lia
        subst hj'
        by_cases hi:i=lo+x
        ·subst hi;exact Int.le_refl _
        ·have:=s' i (lo+x - 1) h1 (by lia) (by lia)
         exact Int.le_trans this (Int.not_lt.mp hc')
     case postya=>
      intro c st'' hI2
      refine hide fun gG hG=>?_
      obtain ⟨e0,n,rfl,hn0,hn1,s',hor⟩:=hI2
      refine hG ?_
      replace e0:=e0.symm;subst e0
      try dsimp only
      exact wpS_pure (h n _ B2 p2 e2 (by lia) hn1 s')
    ·refine wpS_bind (s_rev ?_)
     have hsT:=b1.size
     have B2:=b1.put (mirror_perm _ lo (lo+m) ((lo+m - lo) / 2))
     have e2:Pre lo (arrOf st) (arrOf (setArr S3 (mirror (arrOf S3) lo (lo+m) ((lo+m - lo) / 2)))):=b3.trans (Pre.mir (Nat.le_refl lo) (show lo+m<=_ by rw [hsT];lia))
     have s2:Sg r (mirror (arrOf S3) lo (lo+m) ((lo+m - lo) / 2)) lo (lo+m):=fun i j h1 h2 h3=>by
      rw [rk_mirror (by rw [hsT];lia),rk_mirror (by rw [hsT];lia),if_pos (by lia),if_pos (by lia)]
      exact b4 _ _ (by lia) (by lia) (by lia)
     have p2:pendingOf (setArr S3 (mirror (arrOf S3) lo (lo+m) ((lo+m - lo) / 2)))=pendingOf st:=b2
     have s2':Sg r (arrOf (setArr S3 (mirror (arrOf S3) lo (lo+m) ((lo+m - lo) / 2)))) lo (lo+m):=s2
     clear s2
     generalize setArr S3 (mirror (arrOf S3) lo (lo+m) ((lo+m - lo) / 2))=S2 at B2 p2 s2' e2 ⊢
     have s2:=s2'
     refine wpS_bind (wpS_mono (wpS_forRange (a:=m) (I:=fun x c st''=>st''=S2/\c=(none,x)/\Sg r (arrOf S2) lo (lo+x))
      (Q:=fun c st''=>st''=S2/\∃n,c=(none,n)/\m<=n/\n<=nrem/\Sg r (arrOf S2) lo (lo+n)/\(n=nrem\/Rk r (arrOf S2) (lo+n) < Rk r (arrOf S2) (lo+n - 1))) ?stepyb ?finyb ⟨rfl,rfl,s2⟩) ?postyb)
     case finyb=>
      rintro c st'' ⟨rfl,rfl,s'⟩
      rw [show max (m) nrem=nrem by lia] at s' ⊢
      exact ⟨rfl,nrem,rfl,by lia,Nat.le_refl _,s',.inl rfl⟩
     case stepyb=>
      rintro x c st'' hax hxn ⟨e0,rfl,s'⟩
      replace e0:=e0.symm;subst e0
      try dsimp only
      refine wpS_bind (s_ltAt C B2 (by lia) (by lia) ?_)
      try dsimp only
      refine wpS_ite (fun hc=>?_) (fun hc=>?_)
      ·exact wpS_pure ⟨rfl,x,rfl,hax,by lia,s',.inr (of_decide_eq_true hc)⟩
      ·have hc':=fun z=>hc (decide_eq_true z)
       refine wpS_pure ⟨rfl,rfl,fun i j h1 h2 h3=>?_⟩
       by_cases hj:j < lo+x
       ·exact s' i j h1 h2 hj
       ·have hj':j=lo+x:=by lia
        subst hj'
        by_cases hi:i=lo+x
        ·subst hi;exact Int.le_refl _
        ·have:=s' i (lo+x - 1) h1 (by lia) (by lia)
         exact Int.le_trans this (Int.not_lt.mp hc')
     case postyb=>
      intro c st'' hI2
      refine hide fun gG hG=>?_
      obtain ⟨e0,n,rfl,hn0,hn1,s',hor⟩:=hI2
      refine hG ?_
      replace e0:=e0.symm;subst e0
      try dsimp only
      exact wpS_pure (h n _ B2 p2 e2 (by lia) hn1 s')
end
end L2
end
section
namespace L2
open PySem PySem.W PyProof.Rows
theorem fold_set:∀(l:List Keyed) (n:Nat) (xs:Array Keyed) (sa:Nat),sa+n+l.length<=xs.size->∀k:Nat,
  ((l.zipIdx n).foldl (fun a (q:Keyed×Nat)=>a.setIfInBounds (sa+q.2) q.1) xs)[k]? = if sa+n<=k/\k < sa+n+l.length then l[k - (sa+n)]? else xs[k]?
 | [],n,xs,sa,_,k=>by rw [if_neg (by simp)];rfl
 | z::l,n,xs,sa,h,k=>by
  rw [List.length_cons] at h
  show (List.foldl _ (xs.setIfInBounds (sa+n) z) (l.zipIdx (n+1)))[k]? = _
  rw [fold_set l (n+1) _ sa (by rw [Array.size_setIfInBounds];lia) k,List.length_cons]
  by_cases h1:sa+(n+1)<=k/\k < sa+(n+1)+l.length
  ·rw [if_pos h1,if_pos (by lia),show k - (sa+n)=(k - (sa+(n+1)))+1 by lia,List.getElem?_cons_succ]
  ·rw [if_neg h1]
   by_cases h2:k=sa+n
   ·subst h2
    rw [if_pos (by lia),Nat.sub_self,List.getElem?_cons_zero,Array.getElem?_setIfInBounds_self_of_lt (by lia)]
   ·rw [if_neg (by lia),Array.getElem?_setIfInBounds_ne (by lia)]
theorem fold_arr (R:Array Keyed) (xs:Array Keyed) (sa:Nat):(R.toList.zipIdx.foldl (fun a (x:Keyed×Nat)=>match x with | (p,j)=>a.setIfInBounds (sa+j) p) xs)=(R.toList.zipIdx.foldl (fun a (q:Keyed×Nat)=>a.setIfInBounds (sa+q.2) q.1) xs):=rfl
section
variable {r:Keyed->Int} {xs ys:Array Keyed}
theorem Sg.congr {lo hi:Nat} (h:Sg r xs lo hi) (e:∀k,lo<=k->k < hi->ys[k]? = xs[k]?):Sg r ys lo hi:=fun i j h1 h2 h3=>by
 rw [Rk.congr (e i h1 (by lia)),Rk.congr (e j (by lia) h3)];exact h i j h1 h2 h3
theorem sg_list {lo hi:Nat} (h:Sg r xs lo hi) (hh:hi<=xs.size):SrtL r (xs.extract lo hi).toList:=by
 refine List.pairwise_iff_getElem.mpr fun i j hi1 hj1 hij=>?_
 have s1:(xs.extract lo hi).toList.length=hi - lo:=by rw [Array.length_toList,Array.size_extract];lia
 rw [s1] at hi1 hj1
 have:=h (lo+i) (lo+j) (by lia) (by lia) (by lia)
 rw [Rk.eq (by lia),Rk.eq (by lia)] at this
 simpa using this
theorem list_sg {L:List Keyed} (h:SrtL r L) {u:Nat} (e:∀k,k < L.length->ys[u+k]? = L[k]?):Sg r ys u (u+L.length):=fun i j h1 h2 h3=>by
 have ei:=e (i - u) (by lia)
 have ej:=e (j - u) (by lia)
 rw [show u+(i - u)=i by lia] at ei
 rw [show u+(j - u)=j by lia] at ej
 have hi1:i - u < L.length:=by lia
 have hj1:j - u < L.length:=by lia
 unfold Rk
 rw [ei,ej,List.getElem?_eq_getElem hi1,List.getElem?_eq_getElem hj1]
 rcases Nat.lt_or_eq_of_le h2 with z | z
 ·exact (List.pairwise_iff_getElem.mp h) (i - u) (j - u) hi1 hj1 (by lia)
 ·subst z;exact Int.le_refl _
def Segs (r:Keyed->Int) (xs:Array Keyed):Nat->List (Nat×Nat×Nat)->Nat->Prop
 | lo,[],hi=>lo=hi
 | lo,p::ps,hi=>p.1=lo/\1<=p.2.1/\Sg r xs lo (lo+p.2.1)/\Segs r xs (lo+p.2.1) ps hi
theorem Segs.le:∀{lo:Nat} {ps:List (Nat×Nat×Nat)} {hi:Nat},Segs r xs lo ps hi->lo+ps.length<=hi
 | lo,[],hi,h=>by have:lo=hi:=h;simp;lia
 | lo,p::ps,hi,⟨h1,h2,_,h4⟩=>by have:=h4.le;rw [List.length_cons];lia
theorem Segs.congr:∀{lo:Nat} {ps:List (Nat×Nat×Nat)} {hi:Nat},Segs r xs lo ps hi->(∀k,lo<=k->k < hi->ys[k]? = xs[k]?)->Segs r ys lo ps hi
 | lo,[],hi,h,_=>h
 | lo,p::ps,hi,⟨h1,h2,h3,h4⟩,e=>⟨h1,h2,h3.congr fun k a b=>e k a (by have:=h4.le;lia),h4.congr fun k a b=>e k (by lia) b⟩
theorem Segs.app:∀{lo:Nat} {ps qs:List (Nat×Nat×Nat)} {hi:Nat},Segs r xs lo (ps++qs) hi↔∃m,Segs r xs lo ps m/\Segs r xs m qs hi
 | lo,[],qs,hi=>⟨fun h=>⟨lo,rfl,h⟩,fun ⟨m,h1,h2⟩=>by have:lo=m:=h1;subst this;exact h2⟩
 | lo,p::ps,qs,hi=>⟨fun ⟨h1,h2,h3,h4⟩=>by
   obtain ⟨m,a,b⟩:=Segs.app.mp h4
   exact ⟨m,⟨h1,h2,h3,a⟩,b⟩,fun ⟨m,⟨h1,h2,h3,a⟩,b⟩=>⟨h1,h2,h3,Segs.app.mpr ⟨m,a,b⟩⟩⟩
end
theorem perm_mid {xs ys M:List Keyed} {u v:Nat} (huv:u<=v) (hM:M.Perm ((xs.drop u).take (v - u))) (e:ys=xs.take u++M++xs.drop v):ys.Perm xs:=by
 have e2:xs=xs.take u++(xs.drop u).take (v - u)++xs.drop v:=by
  have h1:=(List.take_append_drop u xs).symm
  have h2:=(List.take_append_drop (v - u) (xs.drop u)).symm
  rw [List.drop_drop,show u+(v - u)=v by lia] at h2
  rw [List.append_assoc,<-h2];exact h1
 rw [e]
 conv=>rhs;rw [e2]
 exact List.Perm.append_right _ (List.Perm.append_left _ hM)
section
variable {prog:Program} {w:World} {A:Around} {E:Value->Shared->Prop} {s:Shared} {κ:SortKind} {r:Keyed->Int} {a₀:Array Keyed}
theorem erase_set {α:Type} (pre post:List α) (x y z:α):((pre++x::y::post).set pre.length z).eraseIdx (pre.length+1)=pre++z::post:=by
 rw [List.set_append_right _ _ (Nat.le_refl _),Nat.sub_self,List.set_cons_zero,List.eraseIdx_append_of_length_le (by lia)]
 simp
theorem s_mAt (C:CmpA prog w A s κ r a₀) {st:SortSt} {pre post:List (Nat×Nat×Nat)} {p q:Nat×Nat×Nat} {hi:Nat} {Q:Bool->SortSt->Prop} (B:SB a₀ κ st) (hp:(pendingOf st).toList=pre++p::q::post) (sg:Segs r (arrOf st) 0 (pre++p::q::post) hi) (hh:hi<=a₀.size)
  (h:∀st',SB a₀ κ st'->(pendingOf st').toList=pre++(p.1,p.2.1+q.2.1,p.2.2)::post->Segs r (arrOf st') 0 (pre++(p.1,p.2.1+q.2.1,p.2.2)::post) hi->(∀k,hi<=k->(arrOf st')[k]? = (arrOf st)[k]?)->Q true st'):wpS (model prog w) A E s (mergeAt' pre.length) Q st:=by
 refine hide fun gG hG=>?_
 obtain ⟨sa,na,pw⟩:=p
 obtain ⟨sb,nb,pw2⟩:=q
 obtain ⟨m,sg1,e1,g1,g2,e2,g3,g4,sg2⟩:=Segs.app.mp sg
 refine hG ?_
 dsimp only at e1 g1 g2 e2 g3 g4 sg2 h
 subst e1 e2
 have hm:=sg2.le
 have hsz:=B.size
 have hU:∀z∈arrOf st,z∈a₀:=fun z hz=>B.mem hz
 have sg0:∀ys:Array Keyed,(∀k,k < sa->ys[k]? = (arrOf st)[k]?)->(∀k,sa+na+nb<=k->ys[k]? = (arrOf st)[k]?)->Sg r ys sa (sa+na+nb)->Segs r ys 0 (pre++(sa,na+nb,pw)::post) hi:=fun ys k1 k2 k3=>
  Segs.app.mpr ⟨sa,sg1.congr fun k _ b=>k1 k b,rfl,by show 1<=na+nb;lia,by rw [<-Nat.add_assoc];exact k3,by
   show Segs r ys (sa+(na+nb)) post hi
   rw [<-Nat.add_assoc];exact sg2.congr fun k a _=>k2 k a⟩
 have x1:(pendingOf st)[pre.length]? = some (sa,na,pw):=by rw [<-Array.getElem?_toList,hp];simp
 have x2:(pendingOf st)[pre.length+1]? = some (sa+na,nb,pw2):=by rw [<-Array.getElem?_toList,hp,List.getElem?_append_right (by lia)];simp
 rw [mAt_eq]
 refine wpS_bind (wpS_get ?_)
 rw [x1,x2]
 dsimp only
 have pe:(((pendingOf st).setIfInBounds pre.length (sa,na+nb,pw)).eraseIdxIfInBounds (pre.length+1)).toList=pre++(sa,na+nb,pw)::post:=by
  have hl:pre.length+1 < (pendingOf st).size:=by rw [<-Array.length_toList,hp];simp
  rw [Array.eraseIdxIfInBounds,dif_pos (by rw [Array.size_setIfInBounds];exact hl),Array.toList_eraseIdx,Array.toList_setIfInBounds,hp]
  exact erase_set pre post _ _ _
 have wset:∀{Q':PUnit->SortSt->Prop} {v st0:SortSt},Q' ⟨⟩ v->wpS (model prog w) A E s (set v:StateT SortSt Sem PUnit) Q' st0:=fun {Q' v st0} hq=>by
  unfold wpS;rw [StateT.run_set];exact wpAny_pure ⟨rfl,hq⟩
 refine wpS_bind (wset ?_)
 have B1:SB a₀ κ (setPending st (((pendingOf st).setIfInBounds pre.length (sa,na+nb,pw)).eraseIdxIfInBounds (pre.length+1))):=⟨B.perm,B.kind,B.ok⟩
 have q1:(pendingOf (setPending st (((pendingOf st).setIfInBounds pre.length (sa,na+nb,pw)).eraseIdxIfInBounds (pre.length+1)))).toList=pre++(sa,na+nb,pw)::post:=pe
 have q2:arrOf (setPending st (((pendingOf st).setIfInBounds pre.length (sa,na+nb,pw)).eraseIdxIfInBounds (pre.length+1)))=arrOf st:=rfl
 generalize setPending st (((pendingOf st).setIfInBounds pre.length (sa,na+nb,pw)).eraseIdxIfInBounds (pre.length+1))=S1 at B1 q1 q2 ⊢
 have srt1:∀i j (h1:i<=j) (h2:sa+j < (arrOf st).size),j < na->r ((arrOf st)[sa+i]'(by lia))<=r (arrOf st)[sa+j]:=fun i j h1 h2 h3=>by
  have:=g2 (sa+i) (sa+j) (by lia) (by lia) (by lia)
  rwa [Rk.eq (by lia),Rk.eq h2] at this
 have srt2:∀i j (h1:i<=j) (h2:sa+na+j < (arrOf st).size),j < nb->r ((arrOf st)[sa+na+i]'(by lia))<=r (arrOf st)[sa+na+j]:=fun i j h1 h2 h3=>by
  have:=g4 (sa+na+i) (sa+na+j) (by lia) (by lia) (by lia)
  rwa [Rk.eq (by lia),Rk.eq h2] at this
 have hb0:sa+na < (arrOf st).size:=by lia
 refine wpS_bind (s_elem hb0 ?_)
 refine wpS_bind (s_gal C (by lia) (by lia) hU (hU _ (Array.getElem_mem _)) B1.kind srt1 fun k k1 k2 k3=>?_)
 dsimp only
 have k2':∀i,sa<=i->i < sa+k->Rk r (arrOf st) i<=Rk r (arrOf st) (sa+na):=fun i h1 h2=>by
  have:=k2 (i - sa) (by lia) (by lia)
  rw [Rk.eq (by lia),Rk.eq hb0]
  have e:sa+(i - sa)=i:=by lia
  simpa [isA,e] using this
 have k3':∀i,sa+k<=i->i < sa+na->Rk r (arrOf st) (sa+na) < Rk r (arrOf st) i:=fun i h1 h2=>by
  have:=k3 (i - sa) (by lia) (by lia) (by lia)
  rw [Rk.eq hb0,Rk.eq (by lia)]
  have e:sa+(i - sa)=i:=by lia
  simpa [isA,e] using this
 refine wpS_ite (fun hz=>?_) (fun hz=>?_)
 ·have hz':na - k=0:=by simpa using hz
  refine wpS_pure (h S1 B1 q1 (sg0 _ (fun k _=>by rw [q2]) (fun k _=>by rw [q2]) ?_) (fun k _=>by rw [q2]))
  rw [q2]
  intro i j h1 h2 h3
  by_cases ci:i < sa+na
  ·by_cases cj:j < sa+na
   ·exact g2 i j h1 h2 cj
   ·have a1:=k2' i h1 (by lia)
    have a2:=g4 (sa+na) j (by lia) (by lia) h3
    lia
  ·exact g4 i j (by lia) h2 h3
 have hz':na - k≠0:=by simpa using hz
 have hla:sa+k+(na - k) - 1=sa+na - 1:=by lia
 refine wpS_bind (s_elem (by lia) ?_)
 refine wpS_bind (s_gal C (by lia) (by lia) hU (hU _ (Array.getElem_mem _)) B1.kind srt2 fun f f1 f2 f3=>?_)
 dsimp only
 have hl0:sa+na - 1 < (arrOf st).size:=by lia
 have f2':∀i,sa+na<=i->i < sa+na+f->Rk r (arrOf st) i < Rk r (arrOf st) (sa+na - 1):=fun i h1 h2=>by
  have:=f2 (i - (sa+na)) (by lia) (by lia)
  rw [Rk.eq (by lia),Rk.eq hl0]
  have e:sa+na+(i - (sa+na))=i:=by lia
  simpa [isA,e,hla] using this
 have f3':∀i,sa+na+f<=i->i < sa+na+nb->Rk r (arrOf st) (sa+na - 1)<=Rk r (arrOf st) i:=fun i h1 h2=>by
  have:=f3 (i - (sa+na)) (by lia) (by lia) (by lia)
  rw [Rk.eq hl0,Rk.eq (by lia)]
  have e:sa+na+(i - (sa+na))=i:=by lia
  simpa [isA,e,hla] using this
 refine wpS_ite (fun hz2=>?_) (fun hz2=>?_)
 ·have hz2':f=0:=by simpa using hz2
  refine wpS_pure (h S1 B1 q1 (sg0 _ (fun k _=>by rw [q2]) (fun k _=>by rw [q2]) ?_) (fun k _=>by rw [q2]))
  rw [q2]
  intro i j h1 h2 h3
  by_cases ci:i < sa+na
  ·by_cases cj:j < sa+na
   ·exact g2 i j h1 h2 cj
   ·have a1:=g2 i (sa+na - 1) h1 (by lia) (by lia)
    have a2:=f3' j (by lia) h3
    lia
  ·exact g4 i j (by lia) h2 h3
 have hz2':f≠0:=by simpa using hz2
 have zx:((arrOf st).extract (sa+k) (sa+na)).size=na - k:=by rw [Array.size_extract];lia
 have zy:((arrOf st).extract (sa+na) (sa+na+f)).size=f:=by rw [Array.size_extract];lia
 have ux:∀z∈(arrOf st).extract (sa+k) (sa+na),z∈a₀:=fun z hz=>hU z (Array.mem_extract_iff_getElem.mp hz |> fun ⟨i,hi,e⟩=>by rw [<-e];exact Array.getElem_mem _)
 have uy:∀z∈(arrOf st).extract (sa+na) (sa+na+f),z∈a₀:=fun z hz=>hU z (Array.mem_extract_iff_getElem.mp hz |> fun ⟨i,hi,e⟩=>by rw [<-e];exact Array.getElem_mem _)
 have sx:SrtL r ((arrOf st).extract (sa+k) (sa+na)).toList:=sg_list (fun i j h1 h2 h3=>g2 i j (by lia) h2 h3) (by lia)
 have sy:SrtL r ((arrOf st).extract (sa+na) (sa+na+f)).toList:=sg_list (fun i j h1 h2 h3=>g4 i j (by lia) h2 (by lia)) (by lia)
 have atx:∀i (hi:i < ((arrOf st).extract (sa+k) (sa+na)).size),r ((arrOf st).extract (sa+k) (sa+na))[i]=Rk r (arrOf st) (sa+k+i):=fun i hi=>by
  rw [Rk.eq (by lia),Array.getElem_extract]
 have aty:∀i (hi:i < ((arrOf st).extract (sa+na) (sa+na+f)).size),r ((arrOf st).extract (sa+na) (sa+na+f))[i]=Rk r (arrOf st) (sa+na+i):=fun i hi=>by
  rw [Rk.eq (by lia),Array.getElem_extract]
 have key:∀(R:Array Keyed) (g:Nat),Good r ((arrOf st).extract (sa+k) (sa+na)) ((arrOf st).extract (sa+na) (sa+na+f)) R->
   wpS (model prog w) A E s (do
    modify fun st=>setArr st (R.toList.zipIdx.foldl (fun a (x:Keyed×Nat)=>match x with | (p,j)=>a.setIfInBounds (sa+k+j) p) (arrOf st))
    let z <-get
    pure (failedOf z).isNone) Q (setGal S1 g):=fun R g ⟨hpR,hsR⟩=>by
  have lR:R.toList.length=na - k+f:=by
   have:=hpR.length_eq
   rw [List.length_append,Array.length_toList,Array.length_toList,Array.length_toList,zx,zy] at this
   rw [Array.length_toList];exact this
  have fs:∀i:Nat,(R.toList.zipIdx.foldl (fun a (x:Keyed×Nat)=>match x with | (p,j)=>a.setIfInBounds (sa+k+j) p) (arrOf st))[i]? = if sa+k<=i/\i < sa+na+f then R.toList[i - (sa+k)]? else (arrOf st)[i]?:=fun i=>by
   rw [fold_arr,fold_set R.toList 0 (arrOf st) (sa+k) (by rw [lR];lia) i,lR]
   by_cases c:sa+k<=i/\i < sa+na+f
   ·rw [if_pos c,if_pos (by lia)];simp
   ·rw [if_neg c,if_neg (by lia)]
  refine wpS_bind (wpS_modify (wpS_bind (wpS_get (wpS_pure ?_))))
  have eA:arrOf (setGal S1 g)=arrOf st:=q2
  rw [eA]
  have B2:SB a₀ κ (setArr (setGal S1 g) (R.toList.zipIdx.foldl (fun a (x:Keyed×Nat)=>match x with | (p,j)=>a.setIfInBounds (sa+k+j) p) (arrOf st))):=by
   refine ⟨?_,B1.kind,B1.ok⟩
   refine Array.Perm.trans ?_ B.perm
   show (R.toList.zipIdx.foldl (fun a (x:Keyed×Nat)=>match x with | (p,j)=>a.setIfInBounds (sa+k+j) p) (arrOf st)).Perm (arrOf st)
   refine Array.perm_iff_toList_perm.mpr (perm_mid (u:=sa+k) (v:=sa+na+f) (by lia) (M:=R.toList) ?_ ?_)
   ·refine hpR.trans ?_
    show (((arrOf st).extract (sa+k) (sa+na)).toList++((arrOf st).extract (sa+na) (sa+na+f)).toList).Perm _
    rw [ext_list,ext_list,take_cut (x:=sa+na+f - (sa+k)) (e:=sa+na - (sa+k)) _ (by lia),List.drop_drop,show sa+k+(sa+na - (sa+k))=sa+na by lia,show sa+na+f - (sa+k) - (sa+na - (sa+k))=sa+na+f - (sa+na) by lia]
   ·refine List.ext_getElem? fun i=>?_
    rw [Array.getElem?_toList,fs i]
    have lt1:((arrOf st).toList.take (sa+k)).length=sa+k:=by rw [List.length_take,Array.length_toList];lia
    by_cases c1:i < sa+k
    ·rw [if_neg (by lia),List.append_assoc,List.getElem?_append_left (by lia),List.getElem?_take,if_pos c1,Array.getElem?_toList]
    ·by_cases c2:i < sa+na+f
     ·rw [if_pos (by lia),List.append_assoc,List.getElem?_append_right (by lia),lt1,List.getElem?_append_left (by lia)]
     ·rw [if_neg (by lia),List.getElem?_append_right (by rw [List.length_append,lt1,lR];lia),List.length_append,lt1,lR,List.getElem?_drop,Array.getElem?_toList]
      congr 1
      lia
  have eok:(failedOf (setArr (setGal S1 g) (R.toList.zipIdx.foldl (fun a (x:Keyed×Nat)=>match x with | (p,j)=>a.setIfInBounds (sa+k+j) p) (arrOf st)))).isNone=true:=by
   have:failedOf S1=none:=B1.ok
   show (failedOf S1).isNone=true
   rw [this];rfl
  rw [eok]
  refine h _ B2 q1 (sg0 _ (fun i hi=>by show (R.toList.zipIdx.foldl _ (arrOf st))[i]? = _;rw [fs,if_neg (by lia)]) (fun i hi=>by show (R.toList.zipIdx.foldl _ (arrOf st))[i]? = _;rw [fs,if_neg (by lia)]) ?_) (fun i hi=>by show (R.toList.zipIdx.foldl _ (arrOf st))[i]? = _;rw [fs,if_neg (by lia)])
  show Sg r (R.toList.zipIdx.foldl (fun a (x:Keyed×Nat)=>match x with | (p,j)=>a.setIfInBounds (sa+k+j) p) (arrOf st)) sa (sa+na+nb)
  generalize R.toList.zipIdx.foldl (fun a (x:Keyed×Nat)=>match x with | (p,j)=>a.setIfInBounds (sa+k+j) p) (arrOf st)=ys at fs
  have out:∀i,¬(sa+k<=i/\i < sa+na+f)->Rk r ys i=Rk r (arrOf st) i:=fun i hi=>Rk.congr (by rw [fs,if_neg hi])
  have mid:Sg r ys (sa+k) (sa+k+R.toList.length):=list_sg hsR fun i hi=>by rw [fs,if_pos (by lia)];congr 1;lia
  rw [lR] at mid
  have src:∀i,sa+k<=i->i < sa+na+f->∃t,sa+k<=t/\t < sa+na+f/\Rk r ys i=Rk r (arrOf st) t:=fun i h1 h2=>by
   have hi:i - (sa+k) < R.toList.length:=by lia
   have e:=fs i
   rw [if_pos ⟨h1,h2⟩,List.getElem?_eq_getElem hi] at e
   have hm:=hpR.mem_iff.mp (List.getElem_mem hi)
   have e3:Rk r ys i=r R.toList[i - (sa+k)]:=by unfold Rk;rw [e]
   rcases List.mem_append.mp hm with hm | hm
   ·obtain ⟨t,ht,et⟩:=List.mem_iff_getElem.mp hm
    rw [Array.length_toList] at ht
    have et':((arrOf st).extract (sa+k) (sa+na))[t]=R.toList[i - (sa+k)]:=by simpa using et
    exact ⟨sa+k+t,by lia,by lia,by rw [e3,<-et',atx t ht]⟩
   ·obtain ⟨t,ht,et⟩:=List.mem_iff_getElem.mp hm
    rw [Array.length_toList] at ht
    have et':((arrOf st).extract (sa+na) (sa+na+f))[t]=R.toList[i - (sa+k)]:=by simpa using et
    exact ⟨sa+na+t,by lia,by lia,by rw [e3,<-et',aty t ht]⟩
  have low:∀i t,sa<=i->i < sa+k->sa+k<=t->t < sa+na+nb->Rk r (arrOf st) i<=Rk r (arrOf st) t:=fun i t h1 h2 h3 h4=>by
   by_cases c:t < sa+na
   ·exact g2 i t h1 (by lia) c
   ·have a1:=k2' i h1 h2
    have a2:=g4 (sa+na) t (by lia) (by lia) h4
    lia
  have high:∀t j,sa<=t->t < sa+na+f->sa+na+f<=j->j < sa+na+nb->Rk r (arrOf st) t<=Rk r (arrOf st) j:=fun t j h1 h2 h3 h4=>by
   by_cases c:t < sa+na
   ·have a1:=g2 t (sa+na - 1) h1 (by lia) (by lia)
    have a2:=f3' j h3 h4
    lia
   ·exact g4 t j (by lia) (by lia) h4
  intro i j h1 h2 h3
  by_cases ci:i < sa+k
  ·rw [out i (by lia)]
   by_cases cj:j < sa+k
   ·rw [out j (by lia)];exact g2 i j h1 h2 (by lia)
   ·by_cases cj2:j < sa+na+f
    ·refine hide fun gG hG=>?_
     obtain ⟨t,t1,t2,t3⟩:=src j (by lia) cj2
     refine hG ?_
     rw [t3];exact low i t h1 ci t1 (by lia)
    ·rw [out j (by lia)];exact low i j h1 ci (by lia) h3
  ·by_cases ci2:i < sa+na+f
   ·by_cases cj2:j < sa+na+f
    ·exact mid i j (by lia) h2 (by lia)
    ·refine hide fun gG hG=>?_
     obtain ⟨t,t1,t2,t3⟩:=src i (by lia) ci2
     refine hG ?_
     rw [t3,out j (by lia)];exact high t j (by lia) t2 (by lia) h3
   ·rw [out i (by lia),out j (by lia)];exact g4 i j (by lia) h2 h3
 have h0x:0 < ((arrOf st).extract (sa+k) (sa+na)).size:=by lia
 have h0y:0 < ((arrOf st).extract (sa+na) (sa+na+f)).size:=by lia
 have c0:r ((arrOf st).extract (sa+na) (sa+na+f))[0] < r ((arrOf st).extract (sa+k) (sa+na))[0]:=by
  rw [aty 0 h0y,atx 0 h0x];exact k3' _ (by lia) (by lia)
 have cl:∀v∈(arrOf st).extract (sa+na) (sa+na+f),r v<=r (((arrOf st).extract (sa+k) (sa+na))[((arrOf st).extract (sa+k) (sa+na)).size - 1]'(by lia)):=fun v hv=>by
  obtain ⟨i,hi,rfl⟩:=Array.mem_iff_getElem.mp hv
  rw [aty i hi,atx _ (by lia)]
  have:=f2' (sa+na+i) (by lia) (by lia)
  rw [zx,show sa+k+(na - k - 1)=sa+na - 1 by lia]
  lia
 have cf:∀v∈(arrOf st).extract (sa+k) (sa+na),r ((arrOf st).extract (sa+na) (sa+na+f))[0]<=r v:=fun v hv=>by
  obtain ⟨i,hi,rfl⟩:=Array.mem_iff_getElem.mp hv
  rw [aty 0 h0y,atx i hi]
  have:=k3' (sa+k+i) (by lia) (by lia)
  simp only [Nat.add_zero]
  lia
 refine wpS_ite (fun _=>?_) (fun _=>?_)
 ·refine wpS_bind (s_mLo C B1.kind ux uy sx sy h0x h0y (by lia) cl fun R g hR=>?_)
  exact key R g hR
 ·refine wpS_bind (s_mHi C B1.kind ux uy sx sy h0x h0y cf cl fun R g hR=>?_)
  exact key R g hR
end
end L2
end
section
namespace L2
open PySem PySem.W PyProof.Rows
theorem cut_two {α:Type} {l:List α} {i:Nat} (h:i+1 < l.length):l=l.take i++l[i]::l[i+1]::l.drop (i+2):=by
 rw [<-List.drop_eq_getElem_cons h,<-List.drop_eq_getElem_cons (by omega)]
 exact (List.take_append_drop i l).symm
theorem cut_len {α:Type} {l:List α} {i:Nat} (h:i+1 < l.length):(l.take i).length=i:=by rw [List.length_take];omega
theorem map_modify {α β:Type} (f:α->β) (g:α->α) (hg:∀x,f (g x)=f x):∀{l:List α} (i:Nat),(l.modify i g).map f=l.map f
 | [],i=>by cases i <;> rfl
 | x::l,0=>by simp [hg]
 | x::l,i+1=>by simp [map_modify f g hg (l:=l) i]
theorem Segs.pow {r:Keyed->Int} {xs:Array Keyed}:∀{lo:Nat} {ps qs:List (Nat×Nat×Nat)} {hi:Nat},Segs r xs lo ps hi->qs.map (fun p=>(p.1,p.2.1))=ps.map (fun p=>(p.1,p.2.1))->Segs r xs lo qs hi
 | lo,[],qs,hi,h,e=>by
  have:qs=[]:=by simpa using e
  rw [this];exact h
 | lo,p::ps,[],hi,h,e=>by simp at e
 | lo,p::ps,q::qs,hi,⟨h1,h2,h3,h4⟩,e=>by
  rw [List.map_cons,List.map_cons] at e
  injection e with e1 e2
  injection e1 with e3 e4
  exact ⟨e3.trans h1,by rw [e4];exact h2,by rw [e4];exact h3,by rw [e4];exact h4.pow e2⟩
section
variable {prog:Program} {w:World} {A:Around} {E:Value->Shared->Prop} {s:Shared} {κ:SortKind} {r:Keyed->Int} {a₀:Array Keyed}
theorem s_runs (C:CmpA prog w A s κ r a₀) {st:SortSt} {Q:Unit->SortSt->Prop} (B:SB a₀ κ st) (hp0:pendingOf st = #[]) (h2:2<=a₀.size)
  (h:∀st',SB a₀ κ st'->Sg r (arrOf st') 0 a₀.size->Q () st'):wpS (model prog w) A E s sortRuns' Q st:=by
 rw [sortRuns'_eq]
 refine wpS_bind (wpS_get ?_)
 try dsimp only
 rw [B.size]
 generalize minRun' a₀.size a₀.size 0=mr
 refine wpS_bind (wpS_mono (wpS_forRange (a:=0) (I:=fun x c st'=>∃lo,c=(none,lo)/\SB a₀ κ st'/\lo<=a₀.size/\min x a₀.size<=lo/\Segs r (arrOf st') 0 (pendingOf st').toList lo)
  (Q:=fun c st'=>c=(none,a₀.size)/\SB a₀ κ st'/\Segs r (arrOf st') 0 (pendingOf st').toList a₀.size) ?step ?fin ⟨0,rfl,B,by omega,by omega,by rw [hp0];rfl⟩) ?post)
 case fin=>
  rintro c st' ⟨lo,rfl,b1,b2,b3,b4⟩
  have e:lo=a₀.size:=by omega
  subst e
  exact ⟨rfl,b1,b4⟩
 case post=>
  rintro c st' ⟨rfl,b1,b2⟩
  try dsimp only
  refine wpS_bind (wpS_mono (wpS_forRange (a:=0) (I:=fun x c st''=>c=(none,())/\SB a₀ κ st''/\Segs r (arrOf st'') 0 (pendingOf st'').toList a₀.size/\(pendingOf st'').size+x<=a₀.size+1)
   (Q:=fun c st''=>c=(none,())/\SB a₀ κ st''/\Segs r (arrOf st'') 0 (pendingOf st'').toList a₀.size/\(pendingOf st'').size<=1) ?fstep ?ffin ⟨rfl,b1,b2,by have:=b2.le;rw [Array.length_toList] at this;omega⟩) ?fpost)
  case ffin=>
   rintro c st'' ⟨hc,d1,d2,d3⟩
   exact ⟨hc,d1,d2,by omega⟩
  case fpost=>
   rintro c st'' ⟨rfl,d1,d2,d3⟩
   refine wpS_pure (h st'' d1 ?_)
   rw [<-Array.length_toList] at d3
   revert d2 d3
   generalize (pendingOf st'').toList=ps
   intro d2 d3
   match ps,d2,d3 with
   | [],d2,_=>
    have:0=a₀.size:=d2
    omega
   | [p],⟨e1,e2,e3,e4⟩,_=>
    have e5:0+p.2.1=a₀.size:=e4
    rw [<-e5]
    exact e3
   | _::_::_,_,d3=>simp at d3
  case fstep=>
   rintro x c S4 _ hx ⟨rfl,d1,d2,d3⟩
   refine wpS_bind (wpS_get ?_)
   refine wpS_ite (fun hz=>?_) (fun hz=>?_)
   ·exact wpS_pure ⟨rfl,d1,d2,hz⟩
   ·generalize hi0:(if (Option.any (fun x=>decide (x < ((pendingOf S4)[(pendingOf S4).size - 2+1]?.elim 0 fun x=>x.2.1))) (if (pendingOf S4).size - 2 > 0 then Option.map (fun x=>x.2.1) (pendingOf S4)[(pendingOf S4).size - 2 - 1]? else none))=true then (pendingOf S4).size - 2 - 1 else (pendingOf S4).size - 2)=i0
    have hi1:i0+1 < (pendingOf S4).toList.length:=by
     have le:∀(c:Bool) (m:Nat),(if c=true then m - 1 else m)<=m:=fun c m=>by cases c <;> simp
     have:=le (Option.any (fun x=>decide (x < ((pendingOf S4)[(pendingOf S4).size - 2+1]?.elim 0 fun x=>x.2.1))) (if (pendingOf S4).size - 2 > 0 then Option.map (fun x=>x.2.1) (pendingOf S4)[(pendingOf S4).size - 2 - 1]? else none)) ((pendingOf S4).size - 2)
     rw [Array.length_toList]
     rw [hi0] at this
     omega
    have cut:=cut_two hi1
    have lt:=cut_len hi1
    have g4':=d2
    rw [cut] at g4'
    have run:=s_mAt (E:=E) C d1 cut g4' (Nat.le_refl _) (Q:=fun bb st''=>bb=true/\SB a₀ κ st''/\Segs r (arrOf st'') 0 (pendingOf st'').toList a₀.size/\(pendingOf st'').size+(x+1)<=a₀.size+1) fun st'' b1 b2 b3 b4=>⟨rfl,b1,by rw [b2];exact b3,by
     rw [<-Array.length_toList,b2,List.length_append,List.length_cons,List.length_take,List.length_drop]
     rw [<-Array.length_toList] at d3
     omega⟩
    rw [lt] at run
    refine wpS_bind (wpS_mono run fun bb st'' ⟨e,c1,c2,c3⟩=>?_)
    subst e
    exact wpS_pure ⟨rfl,c1,c2,c3⟩
 case step=>
  rintro x c st' _ hx ⟨lo,rfl,b1,b2,b3,b4⟩
  try dsimp only
  refine wpS_ite (fun hz=>?_) (fun hz=>?_)
  ·have e:lo=a₀.size:=by omega
   subst e
   exact wpS_pure ⟨rfl,b1,b4⟩
  refine wpS_bind (s_count C (by omega) (by omega) b1 fun n0 S1 B1 p1 e1 hm1 hm2 s1=>?_)
  try dsimp only
  have g1:Segs r (arrOf S1) 0 (pendingOf S1).toList lo:=by rw [p1];exact b4.congr fun k _ hk=>e1 k hk
  refine wpS_ite (fun hz2=>?_) (fun hz2=>?_)
  ·refine wpS_bind (wpS_lift (wpAny_rule ⟨rfl,?_⟩))
   refine wpS_bind (s_bin C (by omega) (by omega) B1 s1 fun S2 B2 p2 e2 s2=>?_)
   simp only [Bool.not_true,Bool.false_eq_true,if_false]
   have g2:Segs r (arrOf S2) 0 (pendingOf S2).toList lo:=by rw [p2];exact g1.congr fun k _ hk=>e2 k hk
   have hn1:1<=min (a₀.size - lo) mr:=by omega
   have hn2:lo+min (a₀.size - lo) mr<=a₀.size:=by omega
   clear hz2
   generalize min (a₀.size - lo) mr=n at s2 hn1 hn2 ⊢
   refine wpS_bind (wpS_get ?_)
   have psh:∀S5:SortSt,SB a₀ κ S5->Segs r (arrOf S5) 0 (pendingOf S5).toList lo->Sg r (arrOf S5) lo (lo+n)->SB a₀ κ (setPending S5 ((pendingOf S5).push (lo,n,0)))/\Segs r (arrOf S5) 0 ((pendingOf S5).push (lo,n,0)).toList (lo+n):=fun S5 b1 b2 b3=>⟨⟨b1.perm,b1.kind,b1.ok⟩,by
    rw [Array.toList_push]
    exact Segs.app.mpr ⟨lo,b2,rfl,hn1,b3,rfl⟩⟩
   cases eb:(pendingOf S2).back? with
   | none=>
    try dsimp only
    obtain ⟨c1,c2⟩:=psh S2 B2 g2 s2
    exact wpS_bind (wpS_modify (wpS_pure ⟨lo+n,rfl,c1,by omega,by omega,c2⟩))
   | some t=>
    obtain ⟨s1,n1,pw1⟩:=t
    try dsimp only
    generalize power' a₀.size (2 * s1+n1) (2 * s1+n1+n1+n) a₀.size=pw
    refine wpS_bind (wpS_mono (wpS_forRange (I:=fun _ c st''=>c=(none,())/\SB a₀ κ st''/\Segs r (arrOf st'') 0 (pendingOf st'').toList lo/\Sg r (arrOf st'') lo (lo+n))
     (Q:=fun c st''=>c=(none,())/\SB a₀ κ st''/\Segs r (arrOf st'') 0 (pendingOf st'').toList lo/\Sg r (arrOf st'') lo (lo+n)) ?mstepa (fun _ _ z=>z) ⟨rfl,B2,g2,s2⟩) ?mposta)
    case mposta=>
     rintro c S4 ⟨rfl,B4,g4,s4⟩
     try dsimp only
     refine wpS_bind (wpS_modify ?_)
     have B5:SB a₀ κ (setPending S4 ((pendingOf S4).modify ((pendingOf S4).size - 1) fun (x:Nat×Nat×Nat)=>match x with | (st,len,_)=>(st,len,pw))):=⟨B4.perm,B4.kind,B4.ok⟩
     have g5:Segs r (arrOf (setPending S4 ((pendingOf S4).modify ((pendingOf S4).size - 1) fun (x:Nat×Nat×Nat)=>match x with | (st,len,_)=>(st,len,pw)))) 0 (pendingOf (setPending S4 ((pendingOf S4).modify ((pendingOf S4).size - 1) fun (x:Nat×Nat×Nat)=>match x with | (st,len,_)=>(st,len,pw)))).toList lo:=by
      show Segs r (arrOf S4) 0 ((pendingOf S4).modify ((pendingOf S4).size - 1) fun (x:Nat×Nat×Nat)=>match x with | (st,len,_)=>(st,len,pw)).toList lo
      rw [Array.toList_modify]
      refine g4.pow (map_modify _ _ ?_ _)
      intro x
      rfl
     have s5:Sg r (arrOf (setPending S4 ((pendingOf S4).modify ((pendingOf S4).size - 1) fun (x:Nat×Nat×Nat)=>match x with | (st,len,_)=>(st,len,pw)))) lo (lo+n):=s4
     generalize setPending S4 ((pendingOf S4).modify ((pendingOf S4).size - 1) fun (x:Nat×Nat×Nat)=>match x with | (st,len,_)=>(st,len,pw))=S5 at B5 g5 s5 ⊢
     obtain ⟨c1,c2⟩:=psh S5 B5 g5 s5
     exact wpS_bind (wpS_modify (wpS_pure ⟨lo+n,rfl,c1,by omega,by omega,c2⟩))
    case mstepa=>
     rintro z c S4 _ _ ⟨rfl,B4,g4,s4⟩
     refine wpS_bind (wpS_get ?_)
     by_cases hp:(pendingOf S4).size > 1
     ·have hp':(pendingOf S4).size - 2 < (pendingOf S4).size:=by omega
      rw [if_pos hp,Array.getElem?_eq_getElem hp']
      try dsimp only
      refine wpS_ite (fun hq=>?_) (fun hq=>?_)
      ·exact wpS_pure ⟨rfl,B4,g4,s4⟩
      ·have hl:(pendingOf S4).size - 2+1 < (pendingOf S4).toList.length:=by rw [Array.length_toList];omega
       have cut:=cut_two hl
       have lt:=cut_len hl
       have g4':=g4
       rw [cut] at g4'
       have run:=s_mAt (E:=E) C B4 cut g4' (by omega) (Q:=fun bb st''=>bb=true/\SB a₀ κ st''/\Segs r (arrOf st'') 0 (pendingOf st'').toList lo/\Sg r (arrOf st'') lo (lo+n)) fun st'' b1 b2 b3 b4=>⟨rfl,b1,by rw [b2];exact b3,s4.congr fun k h1 _=>b4 k h1⟩
       rw [lt] at run
       refine wpS_bind (wpS_mono run fun bb st'' ⟨e,b1,b2,b3⟩=>?_)
       subst e
       exact wpS_pure ⟨rfl,b1,b2,b3⟩
     ·rw [if_neg hp]
      exact wpS_pure ⟨rfl,B4,g4,s4⟩
  ·have B2:=B1
   have g2:=g1
   have s2:=s1
   have hn1:=hm1
   have hn2:lo+n0<=a₀.size:=by omega
   clear hz2 hm1 hm2 s1 B1 g1 p1 e1
   revert S1
   intro S2 B2 g2 s2
   generalize n0=n at s2 hn1 hn2 ⊢
   refine wpS_bind (wpS_get ?_)
   have psh:∀S5:SortSt,SB a₀ κ S5->Segs r (arrOf S5) 0 (pendingOf S5).toList lo->Sg r (arrOf S5) lo (lo+n)->SB a₀ κ (setPending S5 ((pendingOf S5).push (lo,n,0)))/\Segs r (arrOf S5) 0 ((pendingOf S5).push (lo,n,0)).toList (lo+n):=fun S5 b1 b2 b3=>⟨⟨b1.perm,b1.kind,b1.ok⟩,by
    rw [Array.toList_push]
    exact Segs.app.mpr ⟨lo,b2,rfl,hn1,b3,rfl⟩⟩
   cases eb:(pendingOf S2).back? with
   | none=>
    try dsimp only
    obtain ⟨c1,c2⟩:=psh S2 B2 g2 s2
    exact wpS_bind (wpS_modify (wpS_pure ⟨lo+n,rfl,c1,by omega,by omega,c2⟩))
   | some t=>
    obtain ⟨s1,n1,pw1⟩:=t
    try dsimp only
    generalize power' a₀.size (2 * s1+n1) (2 * s1+n1+n1+n) a₀.size=pw
    refine wpS_bind (wpS_mono (wpS_forRange (I:=fun _ c st''=>c=(none,())/\SB a₀ κ st''/\Segs r (arrOf st'') 0 (pendingOf st'').toList lo/\Sg r (arrOf st'') lo (lo+n))
     (Q:=fun c st''=>c=(none,())/\SB a₀ κ st''/\Segs r (arrOf st'') 0 (pendingOf st'').toList lo/\Sg r (arrOf st'') lo (lo+n)) ?mstepb (fun _ _ z=>z) ⟨rfl,B2,g2,s2⟩) ?mpostb)
    case mpostb=>
     rintro c S4 ⟨rfl,B4,g4,s4⟩
     try dsimp only
     refine wpS_bind (wpS_modify ?_)
     have B5:SB a₀ κ (setPending S4 ((pendingOf S4).modify ((pendingOf S4).size - 1) fun (x:Nat×Nat×Nat)=>match x with | (st,len,_)=>(st,len,pw))):=⟨B4.perm,B4.kind,B4.ok⟩
     have g5:Segs r (arrOf (setPending S4 ((pendingOf S4).modify ((pendingOf S4).size - 1) fun (x:Nat×Nat×Nat)=>match x with | (st,len,_)=>(st,len,pw)))) 0 (pendingOf (setPending S4 ((pendingOf S4).modify ((pendingOf S4).size - 1) fun (x:Nat×Nat×Nat)=>match x with | (st,len,_)=>(st,len,pw)))).toList lo:=by
      show Segs r (arrOf S4) 0 ((pendingOf S4).modify ((pendingOf S4).size - 1) fun (x:Nat×Nat×Nat)=>match x with | (st,len,_)=>(st,len,pw)).toList lo
      rw [Array.toList_modify]
      refine g4.pow (map_modify _ _ ?_ _)
      intro x
      rfl
     have s5:Sg r (arrOf (setPending S4 ((pendingOf S4).modify ((pendingOf S4).size - 1) fun (x:Nat×Nat×Nat)=>match x with | (st,len,_)=>(st,len,pw)))) lo (lo+n):=s4
     generalize setPending S4 ((pendingOf S4).modify ((pendingOf S4).size - 1) fun (x:Nat×Nat×Nat)=>match x with | (st,len,_)=>(st,len,pw))=S5 at B5 g5 s5 ⊢
     obtain ⟨c1,c2⟩:=psh S5 B5 g5 s5
     exact wpS_bind (wpS_modify (wpS_pure ⟨lo+n,rfl,c1,by omega,by omega,c2⟩))
    case mstepb=>
     rintro z c S4 _ _ ⟨rfl,B4,g4,s4⟩
     refine wpS_bind (wpS_get ?_)
     by_cases hp:(pendingOf S4).size > 1
     ·have hp':(pendingOf S4).size - 2 < (pendingOf S4).size:=by omega
      rw [if_pos hp,Array.getElem?_eq_getElem hp']
      try dsimp only
      refine wpS_ite (fun hq=>?_) (fun hq=>?_)
      ·exact wpS_pure ⟨rfl,B4,g4,s4⟩
      ·have hl:(pendingOf S4).size - 2+1 < (pendingOf S4).toList.length:=by rw [Array.length_toList];omega
       have cut:=cut_two hl
       have lt:=cut_len hl
       have g4':=g4
       rw [cut] at g4'
       have run:=s_mAt (E:=E) C B4 cut g4' (by omega) (Q:=fun bb st''=>bb=true/\SB a₀ κ st''/\Segs r (arrOf st'') 0 (pendingOf st'').toList lo/\Sg r (arrOf st'') lo (lo+n)) fun st'' b1 b2 b3 b4=>⟨rfl,b1,by rw [b2];exact b3,s4.congr fun k h1 _=>b4 k h1⟩
       rw [lt] at run
       refine wpS_bind (wpS_mono run fun bb st'' ⟨e,b1,b2,b3⟩=>?_)
       subst e
       exact wpS_pure ⟨rfl,b1,b2,b3⟩
     ·rw [if_neg hp]
      exact wpS_pure ⟨rfl,B4,g4,s4⟩
end
end L2
end
section
namespace L2
open PySem PySem.W PyProof.Rows
theorem smallB {n:Nat} (h:n<=1000000):n<=sizeLine:=Nat.le_of_lt (Nat.lt_of_le_of_lt h (by decide))
theorem smallB1 {n:Nat} (h:n<=1000000):n < sizeLine:=Nat.lt_of_le_of_lt h (by decide)
theorem filter_lt {l:List Nat} {f g:Nat->Bool} (h:∀x∈l,f x=true->g x=true) {y:Nat} (hy:y∈l) (h1:f y=false) (h2:g y=true):(l.filter f).length < (l.filter g).length:=by
 induction l with
 | nil=>cases hy
 | cons x l ih=>
  have le:(l.filter f).length<=(l.filter g).length:=by
   clear ih hy
   induction l with
   | nil=>exact Nat.le_refl _
   | cons z l ih2=>
    have e1:=h z (by simp)
    have ih3:=ih2 fun u hu=>h u (by rcases List.mem_cons.mp hu with r | r <;> simp [r])
    rw [List.filter_cons,List.filter_cons]
    cases c1:f z <;> cases c2:g z <;> simp [c1,c2] at e1 ⊢ <;> lia
  rw [List.filter_cons,List.filter_cons]
  rcases List.mem_cons.mp hy with e | e
  ·subst e
   simp [h1,h2];lia
  ·have:=ih (fun u hu=>h u (List.mem_cons_of_mem _ hu)) e
   have e1:=h x List.mem_cons_self
   cases c1:f x <;> cases c2:g x <;> simp [c1,c2] at e1 ⊢ <;> lia
theorem Ord.rank {b:Nat->Nat->Bool} {n:Nat} (O:Ord b n):∃ρ:Nat->Int,∀i j,i < n->j < n->(b i j=true↔ρ i < ρ j):=by
 have irr:∀i,i < n->b i i=false:=fun i hi=>by
  cases e:b i i with
  | false=>rfl
  | true=>have:=O.asy i i hi hi e;rw [e] at this;cases this
 have up:∀i j,i < n->j < n->b i j=true->(((List.range n).filter (b · i)).length:Int) < ((List.range n).filter (b · j)).length:=fun i j hi hj e=>by
  have:=filter_lt (l:=List.range n) (f:=(b · i)) (g:=(b · j)) (fun k hk e'=>O.tr k i j (List.mem_range.mp hk) hi hj e' e) (List.mem_range.mpr hi) (irr i hi) e
  lia
 refine ⟨fun i=>((List.range n).filter (b · i)).length,fun i j hi hj=>⟨up i j hi hj,fun h=>?_⟩⟩
 by_cases d:i=j
 ·subst d;lia
 ·rcases O.tot i j hi hj d with e | e
  ·exact e
  ·have:=up j i hj hi e
   dsimp only at h
   lia
section
variable {prog:Program} {w:World} {A:Around} {E:Value->Shared->Prop} {s:Shared} {κ:SortKind}
theorem s_sorted {item:Nat->Keyed} {n:Nat} {b:Nat->Nat->Bool} {it:Array Keyed} (inj:∀i j,i < n->j < n->item i=item j->i=j) (O:Ord b n) (hn:2<=n)
  (hc:∀i j (Q:Bool->Shared->Prop),i < n->j < n->Q (b i j) s->wpAny (model prog w) A (keyLt' κ (item i).1 (item j).1) Q (fun _ _=>False) s) (hit:it.toList=(List.range n).map item) :
  wpAny (model prog w) A (sortRuns'.run (SortSt.mk' κ it #[] 7 none)) (fun r s3=>s3=s/\∃p,Prm p n/\Asc b p n/\arrOf r.2=p.map item/\failedOf r.2=none) E s:=by
 obtain ⟨ρ,hρ⟩:=O.rank
 obtain ⟨g,hg⟩:∃g:Keyed->Nat,∀i,i < n->g (item i)=i:=by
  classical
  refine ⟨fun z=>if h:∃i,i < n/\item i=z then h.choose else 0,fun i hi=>?_⟩
  have h:∃k,k < n/\item k=item i:=⟨i,hi,rfl⟩
  dsimp only
  rw [dif_pos h]
  exact inj _ _ h.choose_spec.1 hi h.choose_spec.2
 have mem:∀z∈it,∃i,i < n/\z=item i:=fun z hz=>by
  have hz':z∈it.toList:=by simpa using hz
  rw [hit] at hz'
  obtain ⟨i,hi,e⟩:=List.mem_map.mp hz'
  exact ⟨i,List.mem_range.mp hi,e.symm⟩
 have sz:it.size=n:=by rw [<-Array.length_toList,hit];simp
 have C:CmpA prog w A s κ (fun z=>ρ (g z)) it:=fun x y Q hx hy hq=>by
  obtain ⟨i,hi,rfl⟩:=mem x hx
  obtain ⟨j,hj,rfl⟩:=mem y hy
  refine hc i j Q hi hj ?_
  have e:b i j=decide (ρ (g (item i)) < ρ (g (item j))):=by
   rw [Bool.eq_iff_iff,decide_eq_true_eq,hg i hi,hg j hj];exact hρ i j hi hj
  rw [e];exact hq
 have run:=s_runs (E:=E) (st:=SortSt.mk' κ it #[] 7 none) (Q:=fun _ st'=>∃p,Prm p n/\Asc b p n/\arrOf st'=p.map item/\failedOf st'=none) C ⟨Array.Perm.refl _,rfl,rfl⟩ rfl (by rw [sz];exact hn) fun st' B sg=>?_
 ·exact run
 have hl:(arrOf st').toList.Perm ((List.range n).map item):=by rw [<-hit];exact Array.perm_iff_toList_perm.mp B.perm
 have hb:(arrOf st').toList.map (fun z=>item (g z))=(arrOf st').toList:=by
  have:∀z∈(arrOf st').toList,item (g z)=z:=fun z hz=>by
   obtain ⟨i,hi,rfl⟩:=mem z (B.mem (by simpa using hz))
   rw [hg i hi]
  rw [List.map_congr_left this,List.map_id']
 have hp:((arrOf st').toList.map g).Perm (List.range n):=by
  have:=hl.map g
  rw [List.map_map] at this
  have e:(List.range n).map (g ∘ item)=List.range n:=by
   have:=List.map_congr_left (l:=List.range n) (f:=g ∘ item) (g:=id) fun i hi=>hg i (List.mem_range.mp hi)
   rw [this,List.map_id]
  rwa [e] at this
 refine ⟨((arrOf st').map g),⟨Array.perm_iff_toList_perm.mpr (by rw [Array.toList_map,List.toList_toArray];exact hp)⟩,fun i hi=>?_,?_,B.ok⟩
 ·have hs':(arrOf st').size=n:=by rw [B.size,sz]
  have P:Prm ((arrOf st').map g) n:=⟨Array.perm_iff_toList_perm.mpr (by rw [Array.toList_map,List.toList_toArray];exact hp)⟩
  have a1:=P.lt (by lia) i
  have a2:=P.lt (by lia) (i+1)
  have at_:∀k,k < n->Rk (fun z=>ρ (g z)) (arrOf st') k=ρ (at0 ((arrOf st').map g) k):=fun k hk=>by
   rw [Rk.eq (by lia)]
   unfold at0
   rw [Array.getD_eq_getD_getElem?,Array.getElem?_map,Array.getElem?_eq_getElem (by lia)]
   rfl
  have h1:=sg i (i+1) (by lia) (by lia) (by lia)
  rw [at_ i (by lia),at_ (i+1) hi] at h1
  rcases O.tot _ _ a1 a2 (P.ne (by lia) hi (by lia)) with e | e
  ·exact e
  ·have:=(hρ _ _ a2 a1).mp e
   lia
 ·apply Array.ext'
  rw [Array.toList_map,Array.toList_map,List.map_map]
  exact hb.symm
end
end L2
end
section
namespace L2
open PySem PySem.Spec PySem.W PyProof.Rows Builtin
section
variable {P:Program} {w:World} {A:Around} {E:Value->Shared->Prop} {s:Shared}
end
end L2
end
section
namespace L2
open PySem PySem.Spec PySem.W PyProof.Rows Builtin
section
variable {P:Program} {w:World} {H H1:Hp} {h h1 h2:Heap} {e a:Addr} {o:HO} {fs:List Addr}
theorem hok_off (x:HOk P w H h) (hn:H e=none) (k:∀b u,b≠e->h.get? b=some u->h2.get? b=some u):HOk P w H h2:=fun a o ea=>
 (x a o ea).stay (fun b u hb q=>k b u (fun z=>by
  subst z
  rcases hb with rfl | hb
  ·rw [hn] at ea;cases ea
  ·rw [hn] at hb;cases hb) q) (fun _ q=>q) fun _ _ q=>q
theorem un_off (u:Un fs [] H H1 h h1) (he:h.objs.size<=e) (k:∀b u,b≠e->h1.get? b=some u->h2.get? b=some u):Un fs [] H H1 h h2:=
 have ne:∀b ob,h.get? b=some ob->b≠e:=fun b ob q=>Nat.ne_of_lt (Nat.lt_of_lt_of_le (Heap.lt_size q) he)
 ⟨fun b ob q n hb hx=>k _ _ (ne b ob q) (u.keep b ob q n hb hx),fun b ob q n hb hx=>let ⟨sl,r⟩:=u.slot b ob q n hb hx;⟨sl,k _ _ (ne b ob q) r⟩,u.free,fun b ob q hx=>let ⟨o',r⟩:=u.there b ob q hx;⟨o',k _ _ (ne b ob q) r⟩,u.tups,u.frzs,u.tbls⟩
theorem hok_lay (x:HOk P w H h) (hn:H a=none) (new:ObjOk P w (upd H a o) h a o):HOk P w (upd H a o) h:=fun b u eb=>by
 by_cases hb:b=a
 ·subst hb;rw [upd_same] at eb;cases eb;exact new
 ·rw [upd_ne hb] at eb
  exact (x b u eb).stay (fun _ _ _ q=>q) (fun c q=>by rw [upd_ne (ne_of_none q hn)];exact q) fun c xs q=>by rw [upd_ne (ne_of_none q hn)];exact q
theorem un_lay (u:Un fs [] H H1 h h1) (ha:h.objs.size<=a) (hn:H a=none):Un fs [] H (upd H1 a o) h h1:=
 have ne:∀b ob,h.get? b=some ob->b≠a:=fun b ob q=>Nat.ne_of_lt (Nat.lt_of_lt_of_le (Heap.lt_size q) ha)
 ⟨u.keep,u.slot,fun b ob q n hx=>by rw [upd_ne (ne b ob q)];exact u.free b ob q n hx,u.there,fun b xs q=>by rw [upd_ne (ne_of_none q hn)];exact u.tups b xs q,fun b ob xs q=>by rw [upd_ne (ne_of_none q hn)];exact u.frzs b ob xs q,fun b ps q=>by rw [upd_ne (ne_of_none q hn)];exact u.tbls b ps q⟩
end
def spOrd:Sp:=fun vs H Q _=>∃a,vs=[.ref a]/\∃xs,H a=some (.tup xs)/\∀p,H p=none->Q (.ref p) (upd H p (.tup [.int xs.length,.ref a]))
section
variable {X:Cx} {pins:List (Addr×Obj)} {σ:St} {H:Hp} {s:Shared}
structure Mid (X:Cx) (H:Hp) (s:Shared) (D S:Addr) (e1:Nat) (H':Hp) (s':Shared) (kA:Array Value):Prop where
 os:s'.os=s.os
 bare:AllBare s'.gens
 un:Un (frs X.stack) [] H H' s.heap s'.heap
 hok:HOk X.prog X.w H' s'.heap
 same:Same H H'
 nD:H' D=none
 nS:H' S=none
 oD:s'.heap.get? D=some (seqObj "list" #[] e1)
 oS:∃e,s'.heap.get? S=some (seqObj "list" kA e)
theorem Mid.call {D S:Addr} {e1:Nat} {H':Hp} {s':Shared} {kA:Array Value} (I:Inv X pins σ H s) (m:Mid X H s D S e1 H' s' kA) (hD:s.heap.objs.size<=D) (hS:s.heap.objs.size<=S) {k:Nat} {f:Addr} {fd:FuncData} {pm:Str} (F:FnOk X.prog X.w X.K X.mg X.base CX0 k f fd [pm] spOrd) (hr:Room k X.A.in1.in1)
  (hb:Binds X.K fd [pm] []) {a:Addr} {xs:List V} (ha:H a=some (.tup xs)) {Q:Value->Shared->Prop} {E:Value->Shared->Prop}
  (q:∀p s2,H' p=none->Mid X H s D S e1 (upd H' p (.tup [.int xs.length,.ref a])) s2 kA->Q (.ref p) s2):wpAny (model X.prog X.w) X.A.in1.in1 (call (.ref f) [.ref a]) Q E s':=by
 have I':Inv X pins σ H' s':=I.call' (ch:=[]) m.os m.un m.hok m.bare (fun b z=>absurd z (by simp))
 have nfD:∀b,s.heap.objs.size<=b->b∉frs X.stack:=fun b hb z=>by
  rcases List.mem_cons.mp (I.stkSub b z) with z | z
  ·exact absurd (Nat.lt_of_lt_of_le I.lt hb) (by rw [z];exact Nat.lt_irrefl _)
  ·exact I.nofs hb z
 refine wpAny_call (codeAny_mono (F.run X.A.in1.in1 X.stack s' H' ⟨[.ref a],[]⟩ [.ref a] [.ref a] (fun v H2=>∃p,v=.ref p/\H' p=none/\H2=upd H' p (.tup [.int xs.length,.ref a])) (fun _ _ _=>False) hr I'.env0.in1.in1 (hb s' [.ref a] I'.kIn rfl) (.cons rfl .nil) ⟨a,rfl,xs,m.same _ _ ha,fun p hp=>⟨p,rfl,hp,rfl⟩⟩) fun r s2 hq=>?_)
 cases r with
 | error e=>exact False.elim hq
 | ok fl=>
  cases fl with
  | next=>exact False.elim hq
  | brk=>exact False.elim hq
  | cont=>exact False.elim hq
  | ret u=>
   refine hide fun gG hG=>?_
   obtain ⟨v,H2,os,bare,un,hok,rv,p,rfl,hp,rfl⟩:=hq
   refine hG ?_
   cases rv
   obtain ⟨eS,oS⟩:=m.oS
   exact q p s2 hp ⟨os.trans m.os,bare,m.un.trans un,hok,m.same.trans fun b u eb=>by rw [upd_ne (ne_of_none eb hp)];exact eb,un.free D _ m.oD m.nD (by simp),un.free S _ oS m.nS (by simp),un.keep D _ m.oD m.nD (nfD D hD) (by simp),eS,un.keep S _ oS m.nS (nfD S hS) (by simp)⟩
theorem Mid.push {D S:Addr} {e1:Nat} {H':Hp} {s':Shared} {kA:Array Value} (m:Mid X H s D S e1 H' s' kA) (hS:s.heap.objs.size<=S) (hDS:D≠S) (g:Array Value->Array Value):Mid X H s D S e1 H' { s' with heap:=s'.heap.update S (Obj.mapSeq g) } (g kA):=by
 obtain ⟨eS,oS⟩:=m.oS
 have sb:=Heap.SameBut.update s'.heap S (Obj.mapSeq g)
 have k:∀b u,b≠S->s'.heap.get? b=some u->(s'.heap.update S (Obj.mapSeq g)).get? b=some u:=fun b u nb q=>(sb.2 b nb).trans q
 exact ⟨m.os,m.bare,un_off m.un hS k,hok_off m.hok m.nS k,m.same,m.nD,m.nS,k _ _ hDS m.oD,_,get?_update_seq oS g⟩
end
end L2
end
section
namespace L2
open PySem PySem.Spec PySem.W PyProof.Rows Builtin
section
variable {P:Program} {w:World} {H':Hp} {h:Heap} {p a:Addr}
theorem key_obj {l:Int} (hok:HOk P w H' h) (e:H' p=some (.tup [.int l,.ref a])):∃t,IsTup h p #[.int l t,.ref a]:=by
 refine hide fun gG hG=>?_
 obtain ⟨_,its,r,ht⟩:=hok p _ e
 refine hG ?_
 cases r with
 | cons r1 r2=>
  obtain ⟨t,rfl⟩:=r1
  cases r2 with
  | cons r3 r4=>
   cases r4
   cases r3
   exact ⟨t,ht⟩
end
section
variable {X:Cx} {pins:List (Addr×Obj)} {σ:St} {H:Hp} {s:Shared}
structure Fin (X:Cx) (H:Hp) (s:Shared) (D:Addr) (H':Hp) (s':Shared) (bs:List Addr):Prop where
 os:s'.os=s.os
 bare:AllBare s'.gens
 un:Un (frs X.stack) [] H H' s.heap s'.heap
 hok:HOk X.prog X.w H' s'.heap
 same:Same H H'
 nD:H' D=none
 oD:∃c,s'.heap.get? D=some (seqObj "list" (bs.map Value.ref).toArray c)
theorem sort_tail {D S:Addr} {e1:Nat} {H':Hp} {s':Shared} {kA:Array Value} {bs:List Addr} {st:SortSt} {Pq:PySem.Fin->Shared->Prop} {E:Value->Shared->Prop} (m:Mid X H s D S e1 H' s' kA) (hD:s.heap.objs.size<=D) (hS:s.heap.objs.size<=S) (hDS:D≠S) (hk:kA.size<=100000) (hb:bs.length<=100000)
  (hout:(arrOf st).map (·.2)=(bs.map Value.ref).toArray) (hf:failedOf st=none) (q:∀s2,Fin X H s D H' s2 bs->Pq (.done (.ret .none)) s2):wpAny (model X.prog X.w) X.A.in1.in1 (ksk_tail D false e1 (.ref S) st) Pq E s':=by
 obtain ⟨eS,oS⟩:=m.oS
 have m1:=m.push hS hDS (fun _=>#[])
 have sb:=Heap.SameBut.update (s'.heap.update S (Obj.mapSeq fun _=>(#[]:Array Value))) D (Obj.mapSeq fun _=>(bs.map Value.ref).toArray)
 have k:∀b u,b≠D->(s'.heap.update S (Obj.mapSeq fun _=>(#[]:Array Value))).get? b=some u->((s'.heap.update S (Obj.mapSeq fun _=>(#[]:Array Value))).update D (Obj.mapSeq fun _=>(bs.map Value.ref).toArray)).get? b=some u:=fun b u nb q=>(sb.2 b nb).trans q
 unfold ksk_tail
 dsimp only
 refine wpAny_bind (listUpdate_at (xs:=kA) oS rfl ?_ (smallB (by lia)) (Nat.zero_le _))
 refine wpAny_bind (wpAny_letGo ?_)
 refine wpAny_bind (seqEpoch_at m1.oD rfl ?_)
 rw [hout]
 refine wpAny_bind (listUpdate_at m1.oD rfl ?_ (Nat.zero_le _) (by
  have z:((bs.map Value.ref).toArray).size<=sizeLine:=by rw [List.size_toArray,List.length_map];exact smallB (by lia)
  first | exact z | exact Nat.le_succ_of_le z))
 rw [hf]
 simp only [bne_self_eq_false,Bool.false_eq_true,if_false]
 exact wpAny_pure (q _ ⟨m1.os,m1.bare,un_off m1.un hD k,hok_off m1.hok m1.nD k,m1.same,m1.nD,_,get?_update_seq m1.oD fun _=>(bs.map Value.ref).toArray⟩)
theorem katTups_of {h:Heap}:∀{l:List Value},(∀v∈l,∃p a,∃k:Int,∃t,v=.ref p/\IsTup h p #[.int k t,.ref a])->∃fs,KatTups h l fs/\fs.length=l.length/\∀f∈fs,∃(k:Int) (t:Tok),f=.int k t
 | [],_=>⟨[],.nil,rfl,fun _ z=>nomatch z⟩
 | v::l,hv=>by
  refine hide fun gG hG=>?_
  obtain ⟨p,a,k,t,rfl,o,e,c,n,d⟩:=hv v List.mem_cons_self
  obtain ⟨fs,r1,r2,r3⟩:=katTups_of (l:=l) fun u hu=>hv u (List.mem_cons_of_mem _ hu)
  refine hG ?_
  exact ⟨.int k t::fs,.cons e c d rfl r1,by rw [List.length_cons,List.length_cons,r2],fun f hf=>by
   rcases List.mem_cons.mp hf with rfl | hf
   ·exact ⟨k,t,rfl⟩
   ·exact r3 f hf⟩
theorem getD_some {α:Type} {l:List α} {i:Nat} {x d:α} (h:l[i]? = some x):l.getD i d=x:=by rw [List.getD_eq_getElem?_getD,h];rfl
end
end L2
end
section
namespace L2
open PySem PySem.Spec PySem.W PyProof.Rows Builtin
theorem valsRefs:∀l:List Addr,Vals (List.map V.ref l) (List.map Value.ref l)
 | []=>.nil
 | a::l=>.cons rfl (valsRefs l)
section
variable {X:Cx} {pins:List (Addr×Obj)} {σ:St} {H:Hp} {s:Shared}
end
end L2
end
section
namespace L2
open PySem PySem.Spec PySem.W PyProof.Rows Builtin
def RawAt (h:Heap) (d:Addr) (es:Array DictEntry) (ep:Nat):Prop:=∃o,h.get? d=some o/\o.ExactDict/\o.data=.dict es ep
section
variable {P:Program} {w:World} {A:Around} {E:Value->Shared->Prop} {s:Shared} {d it:Addr} {es:Array DictEntry} {ep i:Nat}
theorem RawAt.ty (r:RawAt s.heap d es ep):s.TypeIs (.ref d) "dict":=let ⟨o,e,c,_⟩:=r;⟨o,e,c.1⟩
theorem RawAt.on {h h':Heap} (r:RawAt h d es ep) (k:∀o,h.get? d=some o->h'.get? d=some o):RawAt h' d es ep:=let ⟨o,e,c⟩:=r;⟨o,k _ e,c⟩
theorem raw_iter {Q:Value->Shared->Prop} (lo:(d == sysModules)=false) (r:RawAt s.heap d es ep) (q:Q (.ref s.heap.objs.size) { s with heap:=s.heap.push { cls:=.type "dict_keyiterator",data:=.fields #[.ref d,.int 0 0,.int es.size 0,.int ep 0] } }) :
  wpAny (model P w) A (pyIter (.ref d)) Q E s:=by
 have ty:=r.ty
 refine hide fun gG hG=>?_
 obtain ⟨o,ho,hc,hdat⟩:=r
 refine hG ?_
 refine wpAny_pyIter_slot ty PySem.F.slot_dict_iter (wpAny_call_entry PySem.F.slot_dict_iter ty PySem.F.entry_dict_iter ?_ (PySem.F.args_dict_iter_1 _))
 unfold Builtin.«dict.__iter__»
 refine wpAny_bind ?_
 unfold Builtin.Dict.dictSlotNone
 refine wpAny_bind (wpAny_notOrdered_dict ty (wpAny_pure ?_))
 refine (?_:wpAny (model P w) _ (Builtin.Dict.showsAll d >>= _) _ _ s)
 unfold Builtin.Dict.showsAll
 rw [if_neg (fun z=>by rw [lo] at z;cases z)]
 refine wpAny_bind (wpAny_pure (wpAny_bind (wpAny_dictEntries ho hdat (wpAny_bind (wpAny_dictEpoch ho hdat ?_)))))
 refine wpAny_bind (wpAny_newObj_type (wpAny_pure ⟨_,rfl,"dict_keyiterator",_,⟨_,Heap.get?_push_size _ rfl,rfl⟩,PySem.F.slot_dict_keyiterator_next.lookup,?_⟩))
 exact q
theorem raw_item {Q:Option Value->Shared->Prop} (ki:s.heap.IsKeyIter it d i es.size ep) (r:RawAt s.heap d es ep) (hi:i < es.size)
  (q:∀h',h'.IsKeyIter it d (i+1) es.size ep->Heap.SameBut it s.heap h'->Q (some es[i].key) { s with heap:=h' }):wpAny (model P w) A (pyNext (.ref it)) Q E s:=by
 refine hide fun gG hG=>?_
 obtain ⟨o,ho,hc,hd⟩:=id ki
 obtain ⟨od,hod,_,hdd⟩:=id r
 refine hG ?_
 have ty:=ki.typeIs
 unfold pyNext
 refine wpAny_bind (wpAny_attempt (wpAny_callSpecial?_slot (name:=Str.ofString "__next__") ty PySem.F.slot_dict_keyiterator_next (wpAny_call_entry PySem.F.slot_dict_keyiterator_next ty PySem.F.entry_dict_keyiterator_next ?_ (PySem.F.args_dict_keyiterator_next_1 _))))
 refine wpAny_bind (wpAny_pure (wpAny_bind (wpAny_bind ?_)))
 first | refine wpAny_bind (wpAny_typeNameOfWhole_keyiter ty (wpAny_pure (wpAny_bind (wpAny_fieldsOf ho hd ?_)))) | refine wpAny_bind (wpAny_typeNameOf_keyiter ty (wpAny_pure (wpAny_bind (wpAny_fieldsOf ho hd ?_))))
 rw [show Builtin.Dict_items.ownsTuple "dict_keyiterator" = false by decide]
 simp only [Bool.false_eq_true,if_false]
 refine (?_:wpAny (model P w) _ (if (Value.ref d == Value.none)=true then _ else _) _ _ s)
 rw [if_neg (fun z=>by cases z)]
 refine wpAny_bind (wpAny_pure (wpAny_bind (wpAny_dictEntries hod hdd ?_)))
 rw [if_neg (by simp)]
 refine wpAny_bind (wpAny_pure (wpAny_bind (wpAny_dictEpoch hod hdd ?_)))
 rw [if_neg (by simp)]
 refine wpAny_pure ?_
 simp only [show ¬((i:Int) < 0) from by omega,if_false,Int.toNat_natCast,Array.getElem?_eq_getElem hi]
 refine wpAny_bind ?_
 first | refine wpAny_bind (wpAny_typeNameOfWhole_keyiter ty (wpAny_pure (wpAny_bind (wpAny_isOneOf_keyiter ty ?_)))) | refine wpAny_bind (wpAny_typeNameOf_keyiter ty (wpAny_pure (wpAny_bind (wpAny_isOneOf_keyiter ty ?_))))
 refine (?_:wpAny (model P w) _ (setField (.ref it) 1 (rawInt ((i:Int)+1)) >>= _) _ _ s)
 refine wpAny_bind (wpAny_setField ho hd (by simp) ?_)
 have ki':(s.heap.update it (Obj.mapFields (·.setIfInBounds 1 (rawInt ((i:Int)+1))))).IsKeyIter it d (i+1) es.size ep:=by
  refine ⟨_,Heap.get?_update_self _ ho (Obj.isFreed_of_fields (Obj.data_mapFields hd _)),(Obj.cls_mapFields ..).trans hc,?_⟩
  rw [Obj.data_mapFields hd]
  simp [rawInt]
 refine wpAny_bind (wpAny_holding (wpAny_bind (wpAny_isOneOf_keyiter (s:={ s with heap:=s.heap.update it (Obj.mapFields (·.setIfInBounds 1 (rawInt ((i:Int)+1)))) }) ki'.typeIs ?_)))
 exact wpAny_pure (wpAny_pure ⟨_,rfl,wpAny_pure (q _ ki' (Heap.SameBut.update ..))⟩)
theorem raw_end {Q:Option Value->Shared->Prop} (hh:A.handled=none) (ki:s.heap.IsKeyIter it d i es.size ep) (r:RawAt s.heap d es ep) (hi:es.size<=i)
  (q:∀h',Heap.ExtBut it s.heap h'->Q none { s with heap:=h' }):wpAny (model P w) A (pyNext (.ref it)) Q E s:=by
 refine hide fun gG hG=>?_
 obtain ⟨o,ho,hc,hd⟩:=id ki
 obtain ⟨od,hod,_,hdd⟩:=id r
 refine hG ?_
 have ty:=ki.typeIs
 unfold pyNext
 refine wpAny_bind (wpAny_attempt (wpAny_callSpecial?_slot (name:=Str.ofString "__next__") ty PySem.F.slot_dict_keyiterator_next (wpAny_call_entry PySem.F.slot_dict_keyiterator_next ty PySem.F.entry_dict_keyiterator_next ?_ (PySem.F.args_dict_keyiterator_next_1 _))))
 refine wpAny_bind (wpAny_pure (wpAny_bind (wpAny_bind ?_)))
 first | refine wpAny_bind (wpAny_typeNameOfWhole_keyiter ty (wpAny_pure (wpAny_bind (wpAny_fieldsOf ho hd ?_)))) | refine wpAny_bind (wpAny_typeNameOf_keyiter ty (wpAny_pure (wpAny_bind (wpAny_fieldsOf ho hd ?_))))
 rw [show Builtin.Dict_items.ownsTuple "dict_keyiterator" = false by decide]
 simp only [Bool.false_eq_true,if_false]
 refine (?_:wpAny (model P w) _ (if (Value.ref d == Value.none)=true then _ else _) _ _ s)
 rw [if_neg (fun z=>by cases z)]
 refine wpAny_bind (wpAny_pure (wpAny_bind (wpAny_dictEntries hod hdd ?_)))
 rw [if_neg (by simp)]
 refine wpAny_bind (wpAny_pure (wpAny_bind (wpAny_dictEpoch hod hdd ?_)))
 rw [if_neg (by simp)]
 refine wpAny_pure ?_
 simp only [show ¬((i:Int) < 0) from by omega,if_false,Int.toNat_natCast,Array.getElem?_eq_none hi]
 refine wpAny_bind ?_
 first | refine wpAny_bind (wpAny_typeNameOfWhole_keyiter ty (wpAny_pure ?_)) | refine wpAny_bind (wpAny_typeNameOf_keyiter ty (wpAny_pure ?_))
 refine (?_:wpAny (model P w) _ (setField (.ref it) 0 .none >>= _) _ _ s)
 refine wpAny_bind (wpAny_setField ho hd (by simp) ?_)
 refine (?_:wpAny (model P w) _ (newExc (.type "StopIteration") [] >>= _) _ _ _)
 refine wpAny_bind ?_
 simp only [newExc,newTuple]
 refine wpAny_bind (wpAny_newObj_type ?_ (by size_fits))
 refine wpAny_bind (m:=firstArgMember _ _) (wpAny_of_eq (a:=Value.none)
  (by first | rfl | (simp only [firstArgMember];rfl)) ?_)
 refine wpAny_newObj_type ?_ (by size_fits)
 simp only [raiseNew]
 refine wpAny_bind (wpAny_handled ?_)
 rw [show A.in1.handled=none from hh]
 refine wpAny_bind (wpAny_pure (wpAny_throw ?_))
 refine wpAny_bind (wpAny_isInstance (T:="StopIteration") (b:=true)
  ⟨_,Heap.get?_push_size _ rfl,rfl⟩ isSubtype_stop ?_)
 exact wpAny_pure (q _ (((Heap.SameBut.update ..).extBut.push _).push _))
theorem raw_walks (hh:A.handled=none) (ne:d≠it):Walks P w A it [it,d] [it] es.size (fun j v=>(es[j]?.map fun e=>e.key)=some v) (fun j h=>h.IsKeyIter it d j es.size ep/\RawAt h d es ep) where
 sub:=fun b hb=>by simp at hb;simp [hb]
 frame:=fun _ _ _ st hk=>⟨st.1.at fun o e=>hk it (by simp) o e,st.2.on fun o e=>hk d (by simp) o e⟩
 item:=fun j s Q E hj st hQ=>raw_item st.1 st.2 hj fun h' k1 k2=>by
  refine hQ _ h' s.toks (by rw [Array.getElem?_eq_getElem hj];rfl) ⟨k1,st.2.on fun o e=>k2.extBut d o ne e⟩ fun b o hb e=>?_
  exact k2.extBut b o (fun z=>hb (by simp [z])) e
 done:=fun s Q E st hQ=>raw_end hh st.1 st.2 (Nat.le_refl _) fun h' k=>by
  refine hQ h' s.toks fun b o hb e=>?_
  exact k b o (fun z=>hb (by simp [z])) e
 self:=fun _ _ _ _ st hQ=>wpAny_pyIter_keyiter st.1 hQ
theorem raw_src (lo:(d == sysModules)=false):KdlSrc P w "dict" d d es.size (fun j v=>(es[j]?.map fun e=>e.key)=some v) (fun h=>RawAt h d es ep) where
 type:=fun _ r=>r.ty
 there:=fun _ ⟨_,e,_⟩=>⟨Heap.lt_size e,Heap.lt_size e⟩
 keep:=fun _ _ r hk=>r.on fun o e=>hk d (.inl rfl) o e
 notList:=by decide
 notTuple:=by decide
 hint:=fun _ _ _ _ r hq=>kdl_hint_dict r.ty hq
 iter:=fun _ s hh r=>⟨_,_,(fun _ _ hq=>raw_iter lo r hq),raw_walks hh (by obtain ⟨_,e,_⟩:=r;exact Nat.ne_of_lt (Heap.lt_size e)),⟨⟨_,Heap.get?_push_size _ rfl,rfl,rfl⟩,r.on fun o e=>Heap.get?_push_of_some _ e⟩⟩
end
end L2
end
section
namespace L2
open PySem PySem.Spec PySem.W PyProof.Rows Builtin
theorem prm_map {α:Type} {l:List α} {p:Array Nat} {d:α} (hp:Prm p l.length):(p.toList.map fun i=>l.getD i d).Perm l:=by
 have h1:p.toList.Perm (List.range l.length):=by simpa using Array.perm_iff_toList_perm.mp hp.perm
 have h2:=h1.map fun i=>l.getD i d
 have e:(List.range l.length).map (fun i=>l.getD i d)=l:=by
  apply List.ext_getElem?
  intro i
  rw [List.getElem?_map]
  by_cases hi:i < l.length
  ·rw [List.getElem?_range hi,List.getElem?_eq_getElem hi]
   simp [List.getD_eq_getElem?_getD,List.getElem?_eq_getElem hi]
  ·rw [List.getElem?_eq_none (by simpa using hi),List.getElem?_eq_none (by lia)]
   rfl
 rwa [e] at h2
section
variable {X:Cx} {k:Nat} {f:Addr} {fd:FuncData} {pm g:Str} {e:Expr} {te:TE} {p kp kpos pos:Pos}
theorem pe_fnref (hg:Gl X g) (hm:X.mg g=some (.ref f)) (hdb:(g == ("__debug__" : Str))=false):PE X (.Name g kp) (tC (.ref f)):=fun pins s σ H Q I h=>ld_glob I hg hm ⟨.ref f,H,I,rfl,h⟩ hdb
end
end L2
end
section
namespace L2
open PySem PySem.Spec PySem.W PyProof.Rows Builtin
section
variable {X:Cx}
def qAnyB:List V->Hp->VK->Prop:=fun vs H Q=>∃a,vs=[.ref a]/\∃bs:List Bool,H a=some (.lst (bs.map V.bl))/\Q (.bl (bs.any id)) H
theorem bools_atF:∀{bs:List Bool} {us:List Value},Vals (bs.map V.bl) us->∀(i:Nat) (v:Value),us[i]? = some v->v=.bool (bs.getD i false):=by
 intro bs
 induction bs with
 | nil=>intro us r i v h;cases r;cases i <;> cases h
 | cons b bs ih=>
  intro us r i v h
  rw [List.map_cons] at r
  cases r with
  | cons r1 r2=>
   cases r1
   cases i with
   | zero=>cases h;rfl
   | succ i=>exact ih r2 i v (by simpa using h)
theorem any_range:∀(bs:List Bool),((List.range bs.length).any fun i=>bs.getD i false)=bs.any id
 | []=>rfl
 | b::bs=>by
  rw [List.length_cons,List.range_succ_eq_map,List.any_cons,List.any_map,List.any_cons,<-any_range bs]
  rfl
theorem call_anyB (hh:X.A.handled=none):CallR X (.builtin "any") qAnyB:=by
 intro pins s σ H vs us Q I rv h
 obtain ⟨a,rfl,bs,hq,q⟩:=h
 obtain ⟨u,rfl,ru⟩:=vals1 rv
 cases ru
 obtain ⟨its,r,pl,hz⟩:=I.list (sqL_of hq)
 have hl:=r.length
 rw [List.length_map] at hl
 have lt:a < s.heap.objs.size:=let ⟨_,e,_⟩:=pl.isList;Heap.lt_size e
 refine call_any_walk (wpAny_pyIter_list pl.isList ⟨s.heap.objs.size,_,_,its.toArray.size,_,_,fun i=>bs.getD i false,rfl,Walks.list (A:=X.A.in1) hh _ a (Nat.ne_of_lt lt) its.toArray,⟨⟨_,Heap.get?_push_size _ rfl,rfl,rfl⟩,(pl.isList).push _⟩,?_,fun h' tk mv=>?_⟩)
 ·intro i v s1 Q1 E1 hv hq1
  have:v=.bool (bs.getD i false):=bools_atF r i v (by simpa using hv)
  subst this
  exact wpAny_pure hq1
 ·rw [List.size_toArray,<-hl,any_range]
  have k:∀b o,s.heap.get? b=some o->h'.get? b=some o:=fun b o e=>mv b o (fun z=>absurd (Heap.lt_size e) (by rw [List.mem_singleton.mp z];exact Nat.lt_irrefl _)) (Heap.get?_push_of_some _ e)
  exact ⟨.bl (bs.any id),H,I.un (t':=tk) (Un.kept k) (I.hok.kept k),rfl,q⟩
variable {k:Nat} {f:Addr} {fd:FuncData} {pm g:Str} {e:Expr} {te:TE} {p kp kpos pos:Pos}
def rInsert:V->List V->Hp->VK->Prop:=fun x vs H Q=>∃l i y,x=.ref l/\vs=[.int i,y]/\∃xs,H l=some (.lst xs)/\0<=i/\i<=xs.length/\xs.length < 100000/\Q .non (upd H l (.lst (xs.take i.toNat++y::xs.drop i.toNat)))
end
end L2
namespace L2
open PySem PySem.Spec PySem.W PyProof.Rows Builtin
end L2
end
section
namespace L2
open PySem PySem.Spec PyProof.Rows
section
variable {X:Cx} {tg:Expr}
end
end L2
end
section
namespace L2
open PySem PySem.Spec PyProof.Rows
section
variable {X:Cx} {pins:List (Addr×Obj)} {s:Shared} {σ:St} {H:Hp} {A:Around}
theorem mt_insert:MtM X "list.insert" rInsert:=by
 intro pins s σ H x vs v us Q I rx rv h
 obtain ⟨l,i,y,rfl,rfl,xs,hH,h0,h1,h2,q⟩:=h
 cases rx
 cases rv with
 | cons ri rr=>
  obtain ⟨u,rfl,ru⟩:=Vals.one rr
  obtain ⟨t,rfl⟩:=ri
  obtain ⟨z,its,n,r,hl,e⟩:=I.lstM hH
  have hlen:=r.length
  refine call_meets F.slot_list_insert ⟨_,e,rfl⟩ F.entry_list_insert (F.args_list_insert_3 _ _ _)
   (AutoSeq1.list_insert_list_int_val_1 l its.toArray n i t u (by rw [fitsIndex_both (by lia) (by lia)];decide) (by rw [List.size_toArray];lia)) ⟨e,?_⟩
  refine ⟨.non,_,I.lset (its':=its.take i.toNat++u::its.drop i.toNat) hH e ?_ ((r.take _).append (.cons ru (r.drop _))) ?_,rfl,q⟩
  ·show (its.toArray.extract 0 (if i < 0 then (i+((its.toArray.size:Nat):Int)).toNat else min i.toNat its.toArray.size)).push u++its.toArray.extract (if i < 0 then (i+((its.toArray.size:Nat):Int)).toNat else min i.toNat its.toArray.size)=_
   rw [if_neg (by lia),Nat.min_eq_left (by rw [List.size_toArray];lia)]
   apply Array.ext'
   simp
   exact List.take_of_length_le (by rw [List.length_drop];lia)
  ·simp
   have:sizeLine>=100001:=by decide
   lia
end
end L2
end
section
namespace L2
open PySem PySem.Spec PyProof.Rows
section
variable {X:Cx} {pins:List (Addr×Obj)} {σ:St} {H:Hp} {s:Shared}
end
section
variable {X:Cx} {elt target iter:Expr} {ifs:List Expr} {scope:Scope} {pos:Pos} {cs xs:List Str} {idx:List Nat} {wi:TI} {g:CB->TG} {tt:CB->TT} {te:CB->TE}
end
section
variable {X:Cx} {N:List Str} {osc:Scope} {elt target iter:Expr} {ifs:List Expr} {scope:Scope} {pos:Pos} {wi:TI} {g:CB->TG} {tt:CB->TT} {te:CB->TE}
end
end L2
end
section
namespace L2
open PySem PySem.Spec PyProof.Rows
section
variable {prog:Program} {w:World} {A:Around} {E:Value->Shared->Prop} {s:Shared}
end
section
variable {X:Cx}
end
end L2
end
section
namespace L2
open PySem PySem.Spec PyProof.Rows
end L2
end
section
namespace L2
open PySem PySem.Spec PyProof.Rows
section
variable {P:Program} {w:World} {A:Around} {E:Value->Shared->Prop} {s:Shared} {a:Addr} {l:List (Int×Tok)}
end
section
variable {P:Program} {w:World} {A:Around} {R:Result->Shared->Prop} {I:Addr} {fp wr:List Addr} {G:Array GenState->Array GenState->Prop} {n:Nat} {Pv:Nat->Value->Prop} {St:Nat->Shared->Prop}
end
section
variable {P:Program} {w:World} {A:Around} {E:Value->Shared->Prop} {s:Shared}
end
section
variable {P:Program} {w:World} {A:Around} {E:Value->Shared->Prop} {s:Shared} {a:Addr} {l:List (Int×Tok)}
end
section
variable {P:Program} {w:World} {A:Around} {E:Value->Shared->Prop} {s:Shared} {a:Addr} {es:Array (Int×Value)} {t:SetTable} {ep slot i:Nat}
end
section
variable {P:Program} {w:World} {A:Around} {E:Value->Shared->Prop} {s:Shared} {a:Addr} {l:List (Int×Tok)}
end
section
variable {P:Program} {w:World} {A:Around} {E:Value->Shared->Prop} {s:Shared} {a:Addr} {l:List (Int×Tok)}
end
section
variable {X:Cx}
end
end L2
end
section
namespace L2
open PySem PySem.Spec PyProof.Rows
section
variable {X:Cx}
end
end L2
end
section
namespace HT
open PySem PyProof.Rows L2
section
variable {prog:Program} {w:World} {A:Around} {E:Value->Shared->Prop} {s:Shared}
end
end HT
namespace L2
open PySem PySem.Spec PyProof.Rows
section
variable {X:Cx}
end
end L2
end
section
namespace L2
open PySem PySem.Spec PyProof.Rows
section
variable {X:Cx} {pins:List (Addr×Obj)} {s:Shared} {σ:St} {H:Hp}
end
end L2
end
section
namespace L2
open PySem PySem.Spec PyProof.Rows
end L2
end
section
namespace L2
open PySem
theorem kit_same (K:PySem.W.Frag) (T:String):PySem.W.kitOne K (.type T) (.type T)=some true:=by
 unfold PySem.W.kitOne
 rw [if_pos (by simp)]
end L2
end
section
namespace L2
open PySem PySem.Spec PyProof.Rows
section
variable {P:Program} {w:World} {A:Around} {E:Value->Shared->Prop} {s:Shared}
end
section
variable {X:Cx}
end
end L2
end
section
namespace L2
open PySem PySem.Spec PyProof.Rows
section
variable {P:Program} {w:World} {κ:Type} [DecidableEq κ] {knd:PySem.KeyKind P w κ} {A:Around} {E:Value->Shared->Prop} {s:Shared} {a b:Addr} {kvs kvs2:List (κ×Value)}
end
section
variable {X:Cx}
end
end L2
end
section
namespace L2
open PySem PySem.Spec PyProof.Rows
section
variable {X:Cx} {pins:List (Addr×Obj)} {σ:St} {H:Hp} {s:Shared} {d:Addr} {o:Obj} {kvs:List (Key×V)}
theorem hok_swap {P:Program} {w:World} {h:Heap} {u u':HO} (hk:HOk P w H h) (hd:H d=some u) (n1:∀y,u≠.own y) (n2:∀xs,u≠.tup xs) (hn:∀H',(∀b y,H b=some (.own y)->H' b=some (.own y))->(∀b xs,H b=some (.tup xs)->H' b=some (.tup xs))->ObjOk P w H' h d u') :
  HOk P w (upd H d u') h:=by
 have a1:∀b y,H b=some (.own y)->upd H d u' b=some (.own y):=fun b y e=>by rw [upd_ne (ne_of hd e (n1 y)).symm];exact e
 have a2:∀b xs,H b=some (.tup xs)->upd H d u' b=some (.tup xs):=fun b xs e=>by rw [upd_ne (ne_of hd e (n2 xs)).symm];exact e
 intro b z q
 by_cases hb:b=d
 ·subst hb;rw [upd_same] at q;cases q;exact hn _ a1 a2
 ·rw [upd_ne hb] at q
  exact (hk b z q).stay (fun _ _ _ q=>q) (fun c q=>a1 c _ q) a2
end
section
variable {X:Cx} {tg:Expr}
end
end L2
end
section
namespace L2
open PySem PySem.Spec PyProof.Rows
section
variable {X:Cx}
end
section
variable {X:Cx} {N:List Str} {sc:Scope} {pos:Pos}
end
section
variable {X:Cx}
end
end L2
end
section
namespace L2
structure Nx (P R:St->Hp->Prop):Prop where
 to:∀σ H,P σ H->R σ H
theorem seq_op {t u:TS} {D:Ends} {σ:St} {H:Hp} (h:∀R:St->Hp->Prop,Nx (u D) R->t { D with nx:=R } σ H):tSeq t u D σ H:=h (u D) ⟨fun _ _ z=>z⟩
end L2
end
section
namespace L2
open PySem PySem.Spec PySem.W PyProof.Rows Builtin
theorem asc_pick {α:Type} {l:List α} {p:Array Nat} {d:α} {R:α->α->Bool} (hp:Prm p l.length) (O:Ord (fun i j=>R (l.getD i d) (l.getD j d)) l.length) (a:Asc (fun i j=>R (l.getD i d) (l.getD j d)) p l.length):(p.toList.map fun i=>l.getD i d).Pairwise fun x y=>R x y=true:=by
 rw [List.pairwise_map,List.pairwise_iff_getElem]
 intro i j hi hj hij
 have hs:=hp.size
 rw [Array.length_toList] at hi hj
 have:=Asc.lt O hp (by lia) a (Nat.le_refl _) hij (by lia)
 have e:∀k (hk:k < p.size),at0 p k=p.toList[k]'(by simpa using hk):=fun k hk=>by
  unfold at0
  rw [Array.getD_eq_getD_getElem?,Array.getElem?_eq_getElem hk]
  simp
 rw [e i hi,e j hj] at this
 exact this
section
variable {prog:Program} {w:World} {A:Around} {E:Value->Shared->Prop} {s:Shared}
end
section
variable {X:Cx} {pins:List (Addr×Obj)} {s:Shared} {σ:St} {H:Hp} {A:Around}
theorem pair_obj {P:Program} {w:World} {h:Heap} {p:Addr} {x:Str×Bool} (hok:HOk P w H h) (e:LitAt H p x):∃t,IsTup h p #[.str x.1 t,.bool x.2]:=by
 obtain ⟨_,its,r,ht⟩:=hok p _ e
 cases r with
 | cons r1 r2=>
  obtain ⟨t,rfl⟩:=r1
  cases r2 with
  | cons r3 r4=>
   cases r4
   cases r3
   exact ⟨t,ht⟩
theorem refs_vals:∀{l:List Addr} {us:List Value},Vals (List.map V.ref l) us->us=l.map Value.ref
 | [],_,.nil=>rfl
 | a::l,_,.cons r1 r2=>by rw [refs_vals r2,r1];rfl
def qInP (neg:Bool):R2:=fun x y H Q=>∃a L,x=.ref a/\y=.ref L/\∃u bs ts,LitAt H a u/\(H L=some (.tup (List.map V.ref bs))\/H L=some (.lst (List.map V.ref bs)))/\Lits H bs ts/\Q (.bl (if neg then !decide (u∈ts) else decide (u∈ts))) H
end
end L2
end
section
namespace L2
open PySem PySem.Spec PySem.W PyProof.Rows Builtin
section
variable {prog:Program} {w:World} {A:Around} {E:Value->Shared->Prop} {s:Shared}
theorem pyHash_bool {b:Bool} {Q:Int->Shared->Prop} (h:Q (hashInt (if b then 1 else 0)) { s with toks:=s.toks+1 }):wpAny (model prog w) A (pyHash (.bool b)) Q E s:=by
 have hr:=rawHash_range (if b then 1 else 0)
 have hT:s.TypeIs (.bool b) "bool":=rfl
 unfold pyHash
 have hv:[Value.bool b].any Value.onHeap=false:=rfl
 refine wpAny_bind ?_
 rw [cRoomFor,if_neg (by rw [hv];exact Bool.false_ne_true)]
 refine wpAny_pure ?_
 refine wpAny_bind (wpAny_specialOf hT F.slot_bool_hash.lookup ?_)
 show wpAny _ _ (if (some (Value.builtin "int.__hash__") == some Value.none)=true then _ else _) Q E s
 rw [if_neg (by rw [beq_builtin_none];exact Bool.false_ne_true)]
 refine wpAny_bind (wpAny_specialOf hT F.slot_bool_hash.lookup ?_)
 show wpAny _ _ (callSpecialIfBoundUnlessNone? (.bool b) "__hash__" _ >>= _) Q E s
 refine wpAny_bind (wpAny_callSpecialIfBoundUnlessNone?_slot hT F.slot_bool_hash
  (wpAny_call_entry F.slot_bool_hash hT F.entry_int_hash
   (show wpAny _ _ (do ret (<-mkInt (rawHash (if b then 1 else 0)))) _ _ s from wpAny_ret_mkInt ?_) (F.args_int_hash_1 _)))
 show wpAny _ _ (if (decide (-(2:Int) ^ 63<=rawHash (if b then 1 else 0)) && decide (rawHash (if b then 1 else 0) < 2 ^ 63))=true then _ else _) Q E _
 rw [if_pos (by rw [decide_eq_true hr.1,decide_eq_true hr.2];rfl)]
 exact wpAny_pure h
end
def isSB:Str ⊕ Bool->Value->Bool
 | .inl x,v=>Value.isStrOf x v
 | .inr b,.bool c=>c == b
 | .inr _,_=>false
def sbV:Str ⊕ Bool->V
 | .inl x=>.str x
 | .inr b=>.bl b
theorem isSB_rel {k:Str ⊕ Bool} {v:Value} (h:isSB k v=true):RelV (sbV k) v:=by
 cases k with
 | inl x=>obtain ⟨t,rfl⟩:=Value.isStrOf_shape h;exact ⟨t,rfl⟩
 | inr b=>cases v with
  | bool c=>have:c=b:=eq_of_beq h;rw [this];rfl
  | _=>exact Bool.noConfusion h
theorem sb_flat (k:Str ⊕ Bool):flatV (sbV k)=true:=by cases k <;> rfl
theorem sb_eq (j k:Str ⊕ Bool):eqV (sbV j) (sbV k)=decide (j=k):=by
 rw [Bool.eq_iff_iff,decide_eq_true_eq]
 cases j <;> cases k <;> simp [sbV,eqV]
def sbHash (w:World):Str ⊕ Bool->Int
 | .inl x=>hashStr w x
 | .inr b=>hashInt (if b then 1 else 0)
def sbKind (prog:Program) (w:World):KeyKind prog w (Str ⊕ Bool) where
 is:=isSB
 hash:=sbHash w
 inj:=fun v j k h1 h2=>by
  have r1:=isSB_rel h1
  have r2:=isSB_rel h2
  cases j with
  | inl x=>
   obtain ⟨t,rfl⟩:=r1
   cases k with
   | inl y=>obtain ⟨u,e⟩:=r2;injection e with e;rw [e]
   | inr b=>cases r2
  | inr b=>
   cases k with
   | inl y=>obtain ⟨u,e⟩:=r2;rw [e] at r1;cases r1
   | inr c=>have e:Value.bool b=Value.bool c:=(show v=Value.bool b from r1).symm.trans r2;injection e with e;rw [e]
 byValue:=fun k v h=>by
  have r:=isSB_rel h
  cases k with
  | inl x=>obtain ⟨t,rfl⟩:=r;rfl
  | inr b=>cases r;rfl
 pyHash:=fun {A E s k v Q} h hq=>by
  have r:=isSB_rel h
  cases k with
  | inl x=>obtain ⟨t,rfl⟩:=r;exact wpAny_pyHash_str hq
  | inr b=>cases r;exact pyHash_bool hq
 eqBool:=fun {A E s a b u v Q} h1 h2 hq=>eqAt_V (isSB_rel h1) (isSB_rel h2) (sb_flat a) (sb_flat b) prog w E Q (by rw [sb_eq];exact hq)
 «strs»:=fun k x t v h=>by
  cases k with
  | inl y=>
   have h':Value.isStrOf y (.str x t)=true:=h
   obtain ⟨u,e⟩:=Value.isStrOf_shape h'
   injection e with e
   subst e
   cases v <;> rfl
  | inr b=>exact Bool.noConfusion h
def sbOf (x:Str×Bool):List (Str ⊕ Bool):=[.inl x.1,.inr x.2]
theorem sbOf_inj {x y:Str×Bool} (h:sbOf x=sbOf y):x=y:=by
 simp only [sbOf,List.cons.injEq,Sum.inl.injEq,Sum.inr.injEq,and_true] at h
 exact Prod.ext h.1 h.2
section
variable {prog:Program} {w:World} {A:Around} {E:Value->Shared->Prop} {s:Shared} {h h':Heap}
theorem pair_key {q:Addr} {x:Str×Bool} {t:Tok} (hq:IsTup h q #[.str x.1 t,.bool x.2]):IsTupleKey (sbKind prog w) h (sbOf x) q:=by
 obtain ⟨o,e,c,n,d⟩:=hq
 exact ⟨o,_,n,e,c,d,.cons (show (x.1 == x.1)=true by simp) (.cons (show (x.2 == x.2)=true by simp) .nil)⟩
inductive PairsH (h:Heap):List Addr->Cl->Prop
 | nil:PairsH h [] []
 | cons {q:Addr} {x:Str×Bool} {t:Tok} {qs:List Addr} {cl:Cl}:IsTup h q #[.str x.1 t,.bool x.2]->PairsH h qs cl->PairsH h (q::qs) (x::cl)
def ClH (h:Heap) (cl:Cl) (a:Addr):Prop:=∃qs:List Addr,IsTup h a (qs.map Value.ref).toArray/\PairsH h qs cl
theorem IsTup.items {p:Addr} {xs ys:Array Value} (a:IsTup h p xs) (b:IsTup h p ys):xs=ys:=by
 obtain ⟨o,e,c,n,d⟩:=a
 obtain ⟨o',e',c',n',d'⟩:=b
 rw [e] at e'
 cases e'
 rw [d] at d'
 injection d'
theorem PairsH.inj:∀{qs:List Addr} {x y:Cl},PairsH h qs x->PairsH h qs y->x=y
 | _,_,_,.nil,.nil=>rfl
 | _,_,_,.cons h1 r1,.cons h2 r2=>by
  have e:=IsTup.items h1 h2
  simp only [Array.mk.injEq,List.cons.injEq,Value.str.injEq,Value.bool.injEq,and_true] at e
  rw [r1.inj r2,Prod.ext e.1.1 e.2]
theorem refs_inj:∀{qs ps:List Addr},qs.map Value.ref=ps.map Value.ref->qs=ps
 | [],[],_=>rfl
 | [],_::_,e=>by simp at e
 | _::_,[],e=>by simp at e
 | a::l,b::m,e=>by
  simp only [List.map_cons,List.cons.injEq,Value.ref.injEq] at e
  rw [e.1,refs_inj e.2]
theorem ClH.inj {x y:Cl} {a:Addr} (hx:ClH h x a) (hy:ClH h y a):x=y:=by
 obtain ⟨qs,t1,p1⟩:=hx
 obtain ⟨ps,t2,p2⟩:=hy
 have e:=IsTup.items t1 t2
 have e':qs.map Value.ref=ps.map Value.ref:=congrArg Array.toList e
 have:=refs_inj e'
 subst this
 exact p1.inj p2
theorem tup_keeps {a d:Addr} {o:Obj} {es ep} {xs:Array Value} (x:IsTup h a xs) (ho:h.get? d=some o) (hd:o.data=.dict es ep) (hs:Heap.SameBut d h h'):IsTup h' a xs:=by
 obtain ⟨o',e,c,n,dd⟩:=x
 have hne:a≠d:=by
  rintro rfl
  rw [ho] at e
  cases e
  rw [hd] at dd
  cases dd
 exact ⟨o',(hs.2 a hne).trans e,c,n,dd⟩
theorem PairsH.imp (k:∀{a xs},IsTup h a xs->IsTup h' a xs):∀{qs:List Addr} {cl:Cl},PairsH h qs cl->PairsH h' qs cl
 | _,_,.nil=>.nil
 | _,_,.cons h1 r1=>.cons (k h1) (r1.imp k)
def pairHash (prog:Program) (w:World) (x:Str×Bool):Int:=tupleKeyHash (sbKind prog w) (sbOf x)
def clHash (prog:Program) (w:World) (cl:Cl):Int:=reduceHash (Builtin.Tuple.tupleHashOf (cl.map (pairHash prog w)))
theorem PairsH.length:∀{qs:List Addr} {cl:Cl},PairsH h qs cl->qs.length=cl.length
 | _,_,.nil=>rfl
 | _,_,.cons _ r=>by rw [List.length_cons,List.length_cons,r.length]
theorem pyHash_cl {cl:Cl} {a:Addr} {Q:Int->Shared->Prop} (hu:A.units+1 < cLine) (hk:ClH s.heap cl a) (hq:Q (clHash prog w cl) { s with toks:=s.toks+(3 * cl.length+1) }):wpAny (model prog w) A (pyHash (.ref a)) Q E s:=by
 obtain ⟨qs,⟨o,ho,hc,n,hd⟩,pr⟩:=hk
 have hT:s.TypeIs (.ref a) "tuple":=⟨o,ho,hc⟩
 unfold pyHash
 first | unfold pyHashByItsType | skip
 first | refine wpAny_bind (wpAny_cRoomFor_or (.inr (by lia)) ?_) | skip
 refine wpAny_bind (wpAny_specialOf hT F.slot_tuple_hash.lookup ?_)
 show wpAny _ _ (if (some (Value.builtin "tuple.__hash__") == some Value.none)=true then _ else _) Q E s
 rw [if_neg (by rw [beq_builtin_none];exact Bool.false_ne_true)]
 refine wpAny_bind (wpAny_specialOf hT F.slot_tuple_hash.lookup ?_)
 show wpAny _ _ (callSpecialIfBoundUnlessNone? (.ref a) "__hash__" _ >>= _) Q E s
 refine wpAny_bind (wpAny_callSpecialIfBoundUnlessNone?_slot hT F.slot_tuple_hash (wpAny_call_entry F.slot_tuple_hash hT F.entry_tuple_hash ?_ (F.args_tuple_hash_1 _)))
 show wpAny _ _ (Builtin.Tuple.tupleItemsOf (.ref a) >>= _) _ _ s
 refine wpAny_bind (wpAny_tupleItemsOf ho hd ?_)
 refine wpAny_bind ?_
 rw [<-Array.forIn_toList,List.toList_toArray]
 refine wpAny_forIn_list _
  (fun rest (b:Array Int) s'=>∃done left rs,cl=done++left/\rest=rs.map Value.ref/\PairsH s.heap rs left/\b.toList=done.map (pairHash prog w)/\s'={ s with toks:=s.toks+3 * done.length })
  _ ?_ ?_ _ _ ⟨[],cl,qs,rfl,rfl,pr,rfl,rfl⟩
 ·rintro x rest b s' ⟨done,left,rs,rfl,er,hl,hb,rfl⟩
  cases hl with
  | nil=>cases er
  | @cons q x1 t qs' cl' h1 hl'=>
   rw [List.map_cons] at er
   injection er with er1 er2
   subst er1 er2
   refine wpAny_bind (wpAny_pyHash_tuple (s:={ s with toks:=s.toks+3 * done.length }) (by rw [Around.in1_units];lia) (pair_key h1) ?_)
   first
    | exact wpAny_pure ⟨done++[x1],cl',qs',by simp,rfl,hl',by simp [hb,pairHash],by simp [Nat.add_assoc,Nat.mul_add,sbOf]⟩
    | exact wpAny_bind (wpAny_pure (wpAny_pure ⟨done++[x1],cl',qs',by simp,rfl,hl',by simp [hb,pairHash],by simp [Nat.add_assoc,Nat.mul_add,sbOf]⟩))
 ·rintro b s' ⟨done,left,rs,rfl,er,hl,hb,rfl⟩
  cases hl with
  | cons _ _=>cases er
  | nil=>
   rw [List.append_nil] at hq
   show wpAny _ _ (retInt (Builtin.Tuple.tupleHashOf b.toList)) _ _ _
   rw [hb]
   refine wpAny_ret_mkInt ?_
   show wpAny _ _ (if (decide (-(2:Int) ^ 63<=Builtin.Tuple.tupleHashOf (done.map (pairHash prog w))) && decide (Builtin.Tuple.tupleHashOf (done.map (pairHash prog w)) < 2 ^ 63))=true then _ else _) Q E _
   unfold clHash reduceHash at hq
   by_cases hr:(decide (-(2:Int) ^ 63<=Builtin.Tuple.tupleHashOf (done.map (pairHash prog w))) && decide (Builtin.Tuple.tupleHashOf (done.map (pairHash prog w)) < 2 ^ 63))=true
   ·rw [if_pos hr]
    rw [if_pos hr] at hq
    exact wpAny_pure (by simpa [Nat.add_assoc] using hq)
   ·rw [if_neg hr]
    rw [if_neg hr] at hq
    exact wpAny_bind (wpAny_rule (wpAny_pure (by simpa [Nat.add_assoc] using hq)))
theorem PairsH.at:∀{qs:List Addr} {cl:Cl} {j:Nat} {q:Addr},PairsH h qs cl->qs[j]? = some q->∃x t,cl[j]? = some x/\IsTup h q #[.str x.1 t,.bool x.2]
 | _,_,0,_,.cons h1 r1,e=>by cases e;exact ⟨_,_,rfl,h1⟩
 | _,_,j+1,_,.cons h1 r1,e=>r1.at (j:=j) e
theorem eq_pairH {p q:Addr} {x y:Str×Bool} {t u:Tok} (hu:A.units < cLine) (hp:IsTup s.heap p #[.str x.1 t,.bool x.2]) (hq:IsTup s.heap q #[.str y.1 u,.bool y.2]):SeqAt.EqAt A s (.ref p) (.ref q) (decide (x=y)):=fun prog w E Q h=>by
 refine wpAny_eqBool_tuple (knd:=sbKind prog w) hu (pair_key hp) (pair_key hq) ?_
 have e:decide (sbOf x=sbOf y)=decide (x=y):=by
  rw [Bool.eq_iff_iff,decide_eq_true_eq,decide_eq_true_eq]
  exact ⟨sbOf_inj,fun z=>by rw [z]⟩
 rw [e];exact h
theorem eq_clH {a b:Addr} {cl dl:Cl} (hu:A.units+1 < cLine) (ha:ClH s.heap cl a) (hb:ClH s.heap dl b):SeqAt.EqAt A s (.ref a) (.ref b) (decide (cl=dl)):=by
 by_cases e:a=b
 ·subst e
  rw [decide_eq_true (ha.inj hb)]
  exact SeqAt.EqAt.same _
 ·obtain ⟨qs,t1,p1⟩:=ha
  obtain ⟨ps,t2,p2⟩:=hb
  have l1:=p1.length
  have l2:=p2.length
  have h:=SeqAt.RcAt.tuples (A:=A) (e:=fun j=>decide (cl[j]? = dl[j]?)) t1 t2 (by lia) fun j h1 h2=>by
   have j1:j < qs.length:=by simpa using h1
   have j2:j < ps.length:=by simpa using h2
   obtain ⟨x,t,ex,hx⟩:=p1.at (List.getElem?_eq_getElem j1)
   obtain ⟨y,u,ey,hy⟩:=p2.at (List.getElem?_eq_getElem j2)
   have v1:(qs.map Value.ref).toArray[j]=.ref qs[j]:=by simp
   have v2:(ps.map Value.ref).toArray[j]=.ref ps[j]:=by simp
   rw [v1,v2,ex,ey]
   have e3:decide ((some x:Option (Str×Bool))=some y)=decide (x=y):=by simp only [Option.some.injEq]
   rw [e3]
   exact eq_pairH (by first | (rw [Around.in1_units];lia) | lia) hx hy
  rw [List.size_toArray,List.size_toArray,List.length_map,List.length_map,l1,l2,all_lits] at h
  exact .of_refs e h
theorem quiet_pair {q:Addr} {x:Str×Bool} {t:Tok} (n:Nat) {Q:Bool->Shared->Prop} (hq:IsTup s.heap q #[.str x.1 t,.bool x.2]) (h:Q true s):wpAny (model prog w) A (eqIsQuiet (n+1) (.ref q)) Q E s:=by
 obtain ⟨o,ho,hc,m,hd⟩:=hq
 have hT:s.TypeIs (.ref q) "tuple":=⟨o,ho,hc⟩
 unfold eqIsQuiet
 refine wpAny_bind (wpAny_specialOf hT F.slot_tuple_eq.lookup ?_)
 show wpAny _ _ (isInstance (.ref q) (.type "tuple") >>= _) _ _ s
 refine wpAny_bind (wpAny_isInstance hT isSubtype_tuple_tuple ?_)
 simp only [Bool.not_true,Bool.false_eq_true,if_false]
 refine wpAny_bind (wpAny_seqItems ho hd ?_)
 refine wpAny_bind ?_
 rw [<-Array.forIn_toList]
 refine wpAny_forIn_list _ (fun rest r s'=>r.1=none/\s'=s/\∀v∈rest,carriedByValue v=true) _ ?_ ?_ _ _ ⟨rfl,rfl,fun v hv=>?_⟩
 ·rintro v rest r s' ⟨hr,rfl,hall⟩
  rw [eqIsQuiet_byValue _ (hall v List.mem_cons_self)]
  refine wpAny_bind (wpAny_pure ?_)
  simp only [Bool.not_true,Bool.false_eq_true,if_false]
  exact wpAny_pure ⟨rfl,rfl,fun u hu'=>hall u (List.mem_cons_of_mem _ hu')⟩
 ·rintro ⟨r1,r2⟩ s' ⟨hr,rfl,_⟩
  simp only at hr
  subst hr
  exact wpAny_pure h
 ·simp at hv
  rcases hv with rfl | rfl <;> rfl
theorem quiet_cl {a:Addr} {cl:Cl} {Q:Bool->Shared->Prop} (ha:ClH s.heap cl a) (h:Q true s):wpAny (model prog w) A (eqIsQuiet 8 (.ref a)) Q E s:=by
 obtain ⟨qs,⟨o,ho,hc,m,hd⟩,pr⟩:=ha
 have hT:s.TypeIs (.ref a) "tuple":=⟨o,ho,hc⟩
 unfold eqIsQuiet
 refine wpAny_bind (wpAny_specialOf hT F.slot_tuple_eq.lookup ?_)
 show wpAny _ _ (isInstance (.ref a) (.type "tuple") >>= _) _ _ s
 refine wpAny_bind (wpAny_isInstance hT isSubtype_tuple_tuple ?_)
 simp only [Bool.not_true,Bool.false_eq_true,if_false]
 refine wpAny_bind (wpAny_seqItems ho hd ?_)
 refine wpAny_bind ?_
 rw [<-Array.forIn_toList,List.toList_toArray]
 refine wpAny_forIn_list _ (fun rest r s'=>r.1=none/\s'=s/\∀v∈rest,∃q x t,v=.ref q/\IsTup s.heap q #[.str x t,.bool true]\/v=.ref q/\IsTup s.heap q #[.str x t,.bool false]) _ ?_ ?_ _ _ ⟨rfl,rfl,fun v hv=>?_⟩
 ·rintro v rest r s' ⟨hr,rfl,hall⟩
  obtain ⟨q,x,t,hv⟩:=hall v List.mem_cons_self
  have go:∀b:Bool,v=.ref q->IsTup s'.heap q #[.str x t,.bool b]->wpAny (model prog w) A (eqIsQuiet 7 v) (fun b s2=>b=true/\s2=s') E s':=fun b e hq=>by
   rw [e]
   exact quiet_pair (x:=(x,b)) 6 hq ⟨rfl,rfl⟩
  have run:wpAny (model prog w) A (eqIsQuiet 7 v) (fun b s2=>b=true/\s2=s') E s':=hv.elim (fun z=>go true z.1 z.2) (fun z=>go false z.1 z.2)
  refine wpAny_bind (wpAny_mono run (fun b s2 ⟨e1,e2⟩=>?_) fun _ _ z=>z)
  subst e1 e2
  simp only [Bool.not_true,Bool.false_eq_true,if_false]
  exact wpAny_pure ⟨rfl,rfl,fun u hu'=>hall u (List.mem_cons_of_mem _ hu')⟩
 ·rintro ⟨r1,r2⟩ s' ⟨hr,rfl,_⟩
  simp only at hr
  subst hr
  exact wpAny_pure h
 ·obtain ⟨q,hq,rfl⟩:=List.mem_map.mp hv
  obtain ⟨j,hj,rfl⟩:=List.mem_iff_getElem.mp hq
  obtain ⟨⟨x,b⟩,t,_,hx⟩:=pr.at (List.getElem?_eq_getElem hj)
  cases b
  ·exact ⟨_,x,t,.inr ⟨rfl,hx⟩⟩
  ·exact ⟨_,x,t,.inl ⟨rfl,hx⟩⟩
end
def clKind (prog:Program) (w:World):HeapKind prog w Cl where
 is:=ClH
 hash:=clHash prog w
 draws:=fun cl=>3 * cl.length+1
 room:=fun A=>A.units+1 < cLine
 inj:=fun hx hy=>hx.inj hy
 keeps:=fun x ho hd hs=>let ⟨qs,t,p⟩:=x;⟨qs,tup_keeps t ho hd hs,p.imp fun y=>tup_keeps y ho hd hs⟩
 pyHash:=fun hu hk h=>pyHash_cl hu hk h
 eqBool:=fun hu hx hy h=>eq_clH hu hx hy _ _ _ _ h
 quiet:=fun hk h=>quiet_cl hk h
end L2
end
section
namespace L2
open PySem PySem.Spec PySem.W PyProof.Rows Builtin
def keyT (ks:List (Cl×Addr)):List (Cl×Addr×Value):=ks.map fun k=>(k.1,k.2,Value.bool true)
def DCl (P:Program) (w:World) (d:Addr) (ks:List (Cl×Addr)):HO:=.ext fun h=>(d == sysModules)=false/\∃o es ep,h.get? d=some o/\o.ExactDict/\o.data=.dict es ep/\es.toList=(keyT ks).map (entryOfKey (clKind P w))
theorem DCl.ok {P:Program} {w:World} {H:Hp} {h:Heap} {d:Addr} {ks:List (Cl×Addr)} (lo:(d == sysModules)=false) {o:Obj} {es:Array DictEntry} {ep:Nat} (e:h.get? d=some o) (x:o.ExactDict) (dt:o.data=.dict es ep) (l:es.toList=(keyT ks).map (entryOfKey (clKind P w))):ObjOk P w H h d (DCl P w d ks):=
 ⟨⟨lo,o,es,ep,e,x,dt,l⟩,⟨o,e⟩,fun h1 h2 ⟨z,o,es,ep,e,r⟩ k=>⟨z,o,es,ep,k o e,r⟩⟩
theorem DCl.of {P:Program} {w:World} {H:Hp} {h:Heap} {d:Addr} {ks:List (Cl×Addr)} (x:ObjOk P w H h d (DCl P w d ks)):(d == sysModules)=false/\∃o es ep,h.get? d=some o/\o.ExactDict/\o.data=.dict es ep/\es.toList=(keyT ks).map (entryOfKey (clKind P w)):=x.1
theorem pairsH_of {P:Program} {w:World} {H:Hp} {h:Heap} (hok:HOk P w H h):∀{qs:List Addr} {cl:Cl},qs.length=cl.length->(∀(i:Nat) q x,qs[i]? = some q->cl[i]? = some x->LitAt H q x)->PairsH h qs cl
 | [],[],_,_=>.nil
 | [],_::_,e,_=>by simp at e
 | _::_,[],e,_=>by simp at e
 | q::qs,x::cl,e,k=>by
  obtain ⟨t,ht⟩:=pair_obj hok (k 0 q x rfl rfl)
  exact .cons ht (pairsH_of hok (by simpa using e) fun i q x h1 h2=>k (i+1) q x h1 h2)
theorem clH_of {P:Program} {w:World} {H:Hp} {h:Heap} {cl:Cl} {a:Addr} (hok:HOk P w H h) (c:ClAt H cl a):ClH h cl a:=by
 refine hide fun gG hG=>?_
 obtain ⟨qs,e,l⟩:=c
 obtain ⟨_,its,r,ht⟩:=hok a _ e
 refine hG ?_
 have:=refs_vals r
 subst this
 exact ⟨qs,ht,pairsH_of hok l.1 l.2⟩
def putC (ks:List (Cl×Addr)) (cl:Cl) (a:Addr):List (Cl×Addr):=if cl∈ks.map (·.1) then ks else ks++[(cl,a)]
theorem keyT_fst (ks:List (Cl×Addr)):(keyT ks).map (·.1)=ks.map (·.1):=by unfold keyT;rw [List.map_map];rfl
theorem stored_C (ks:List (Cl×Addr)) (cl:Cl) (a:Addr):storedH (keyT ks) cl a (.bool true)=keyT (putC ks cl a):=by
 unfold storedH putC
 by_cases h:cl∈ks.map (·.1)
 ·have e:(atKey (keyT ks) cl).isSome=true:=by
   obtain ⟨k,hk,e⟩:=List.mem_map.mp h
   unfold atKey
   rw [Option.isSome_map,List.find?_isSome]
   exact ⟨(k.1,k.2,.bool true),List.mem_map.mpr ⟨k,hk,rfl⟩,by simpa using e⟩
  rw [if_pos e,if_pos h]
  unfold keyT
  rw [List.map_map]
  refine List.map_congr_left fun k _=>?_
  show putAt cl (.bool true) (k.1,k.2,Value.bool true)=_
  unfold putAt
  split <;> rfl
 ·have e:¬(atKey (keyT ks) cl).isSome=true:=fun z=>by
   unfold atKey at z
   rw [Option.isSome_map,List.find?_isSome] at z
   refine hide fun gG hG=>?_
   obtain ⟨x,hx,ex⟩:=z
   obtain ⟨k,hk,rfl⟩:=List.mem_map.mp hx
   refine hG ?_
   exact h (List.mem_map.mpr ⟨k,hk,by simpa using ex⟩)
  rw [if_neg e,if_neg h]
  unfold keyT
  rw [List.map_append]
  rfl
def tDNewC (P:Program) (w:World):TE:=fun _ H Q=>∀p,H p=none->Q (.ref p) (upd H p (DCl P w p []))
def sDPutC (P:Program) (w:World) (td ty tv:TE):TS:=fun D σ H=>tv σ H fun v H1=>td σ H1 fun x H2=>ty σ H2 fun y H3=>∃d,x=.ref d/\∃a,y=.ref a/\v=.bl true/\∃ks cl,H3 d=some (DCl P w d ks)/\(∀k∈ks,ClAt H3 k.1 k.2)/\ClAt H3 cl a/\(ks.map (·.1)).Nodup/\ks.length < sizeLine/\D.nx σ (upd H3 d (DCl P w d (putC ks cl a)))
section
variable {X:Cx} {pos pos':Pos} {o i value:Expr} {td ty tv:TE}
theorem pe_dnewC:PE X (.Dict [] [] pos) (tDNewC X.prog X.w):=fun pins s σ H Q I h=>
 wpAny_Dict_empty ⟨.ref s.heap.objs.size,_,I.laid (a:=s.heap.objs.size) (o:=DCl X.prog X.w s.heap.objs.size []) (t':=s.toks) (fun _ _ q=>Heap.get?_push_of_some _ q) (Nat.le_refl _)
  (DCl.ok (beq_eq_false_iff_ne.mpr (Ne.symm (Nat.ne_of_lt I.big))) (Heap.get?_push_size _ rfl) ⟨rfl,rfl,rfl⟩ rfl rfl),rfl,h _ (I.hok.fresh (Nat.le_refl _))⟩
theorem ps_dputC (hu:X.A.units+64 < cLine) (ho:PE X o td) (hi:PE X i ty) (hv:PE X value tv) (hs:swapsWith value (some (.Subscript o i pos')) pos.line X.env=pure false) :
  PS X (.Assign [.Subscript o i pos'] value pos) (sDPutC X.prog X.w td ty tv):=by
 intro pins s σ H D I h
 refine wpAny_Assign_Subscript (thn (hv pins s σ H _ I h) fun r s1 ⟨v,H1,I1,rv,q1⟩=>thn (ho pins s1 σ H1 _ I1 q1) fun u s2 ⟨x,H2,I2,rx,q2⟩=>thn (hi pins s2 σ H2 _ I2 q2) fun iv s3 ⟨y,H3,I3,ry,d,ex,a,ey,ev,ks,cl,hd,all,hc,nd,few,q3⟩=>?_) hs
 subst ex ey ev
 cases rx
 cases ry
 cases rv
 refine hide fun gG hG=>?_
 obtain ⟨lo,ob,es,ep,e1,e2,e3,e4⟩:=DCl.of (I3.hok d _ hd)
 refine hG ?_
 have dd:s3.heap.DictOfH (clKind X.prog X.w) d (keyT ks):=⟨ob,es,ep,e1,e2,e3,e4,fun x hx=>by
  obtain ⟨k,hk,rfl⟩:=List.mem_map.mp hx
  exact clH_of I3.hok (all k hk),by rw [keyT_fst];exact nd⟩
 refine wpAny_setItem_heap (knd:=clKind X.prog X.w) (hsz:=by unfold keyT;rw [List.length_map];exact Nat.le_of_lt few) (show X.A.in1.units+1 < cLine by rw [Around.in1_units];lia) (clH_of I3.hok hc) dd fun h' dd' hs'=>⟨σ,_,?_,q3⟩
 refine hide fun gG hG=>?_
 obtain ⟨ob',es',ep',g1,g2,g3,g4,_,_⟩:=dd'
 refine hG ?_
 rw [stored_C] at g4
 exact d_write I3 (by rw [hd];exact True.intro) hs' ⟨ob',g1⟩ (DCl.ok lo g1 g2 g3 g4)
end
end L2
end
section
namespace L2
open PySem PySem.Spec PySem.W PyProof.Rows Builtin
def LtAt (A:Around) (s:Shared) (y x:Value) (l:Bool):Prop:=∀(prog:Program) (w:World) (E:Value->Shared->Prop) (Q:Value->Shared->Prop),Q (.bool l) s->wpAny (model prog w) A (richCompare .Lt y x) Q E s
inductive Cmp2 (A:Around) (s:Shared):List Value->List Value->List (Bool×Bool)->Prop
 | left (ws:List Value):Cmp2 A s [] ws []
 | right (v:Value) (vs:List Value):Cmp2 A s (v::vs) [] []
 | cons {v u:Value} {vs ws:List Value} {e l:Bool} {es:List (Bool×Bool)}:SeqAt.EqAt A s v u e->(e=false->LtAt A s v u l)->Cmp2 A s vs ws es->Cmp2 A s (v::vs) (u::ws) ((e,l)::es)
def lexR:List (Bool×Bool)->Bool->Bool
 | [],d=>d
 | (true,_)::r,d=>lexR r d
 | (false,l)::_,_=>l
section
open PySem.SeqAt
open PySem.AutoSeq1 (wpAny_loadPart')
open PySem.MeetsSeq PySem.MeetsSeq2 PySem.MeetsSeq3
theorem tuple_lt_gen (l b:Addr) (items items2:Array Value) (n n2:Nat) (dd dd2:Option Addr) (sl sl2:Array (Option Value)) :
  Meets (Builtin.«tuple.__lt__» ⟨[.ref l,.ref b],[]⟩)
   (fun A R s=>s.heap.get? l=some { cls:=.type "tuple",dict:=dd,data:=.seq items n,slots:=sl }/\s.heap.get? b=some { cls:=.type "tuple",dict:=dd2,data:=.seq items2 n2,slots:=sl2 }/\
    ∃es,Cmp2 A.in1 s items.toList items2.toList es/\R (.ok (.ret (.bool (lexR es (decide (items.size < items2.size)))))) s):=
 .of_wp fun prog w A R s h=>by
  obtain ⟨hp,g,d,tk,os⟩:=s;obtain ⟨hl,hb,es,hes,h⟩:=h
  have f2:=AutoSeq1.sub_tuple_tuple
  wp_walk using wpAny_loadPart' hl,wpAny_loadPart' hb,wpAny_forIn_list _ (fun rest b s'=>b.1=none/\s'=⟨hp,g,d,tk,os⟩/\∃(vs ws:List Value) (es':List (Bool×Bool)),rest=vs.zip ws/\
   Cmp2 A.in1 ⟨hp,g,d,tk,os⟩ vs ws es'/\R (.ok (.ret (.bool (lexR es' (decide (items.size < items2.size)))))) ⟨hp,g,d,tk,os⟩) _
  case turn=>
   rintro ⟨y,x⟩ rest b s' ⟨hb',rfl,vs,ws,es',hz,hc,hR⟩
   cases hc with
   | left ws=>rw [List.zip_nil_left] at hz;cases hz
   | right v vs=>rw [List.zip_nil_right] at hz;cases hz
   | @cons v u vs ws e l es' he hlt hc'=>
    rw [List.zip_cons_cons] at hz
    injection hz with hyx hrest
    injection hyx with hy hx
    subst hy hx
    refine wpAny_bind (he prog w _ _ ?_)
    cases e with
    | true=>
     have hR':R (.ok (.ret (.bool (lexR es' (decide (items.size < items2.size)))))) ⟨hp,g,d,tk,os⟩:=hR
     wp_walk
     exact ⟨rfl,rfl,_,_,_,hrest,hc',hR'⟩
    | false=>
     have hR':R (.ok (.ret (.bool l))) ⟨hp,g,d,tk,os⟩:=hR
     have hri:=hlt rfl prog w
     wp_walk using hri
     exact ⟨_,rfl,by simpa using hR'⟩
  case fin=>
   rintro ⟨b1,b2⟩ s' ⟨hb',rfl,vs,ws,es',hz,hc,hR⟩
   simp only at hb'
   subst hb'
   have hR':R (.ok (.ret (.bool (decide (items.size < items2.size))))) ⟨hp,g,d,tk,os⟩:=by
    cases hc with
    | left ws=>exact hR
    | right v vs=>exact hR
    | cons _ _ _=>rw [List.zip_cons_cons] at hz;cases hz
   wp_walk
   exact ⟨_,rfl,by simpa [Builtin.Tuple.tupleCompareSizes] using hR'⟩
  case h=>
   exact ⟨rfl,rfl,items.toList,items2.toList,es,rfl,hes,h⟩
end
section
variable {prog:Program} {w:World} {A:Around} {E:Value->Shared->Prop} {s:Shared}
theorem lt_tupGen {l b:Addr} {items items2:Array Value} {es:List (Bool×Bool)} (hl:IsTup s.heap l items) (hb:IsTup s.heap b items2) (hes:Cmp2 A.in1 s items.toList items2.toList es)
  (hu:A.units < cLine):LtAt A s (.ref l) (.ref b) (lexR es (decide (items.size < items2.size))):=fun prog w E Q h=>by
 obtain ⟨⟨cls,dd,data,sl⟩,ho,hc,n,hd⟩:=id hl
 obtain ⟨⟨cls2,dd2,data2,sl2⟩,ho2,hc2,n2,hd2⟩:=id hb
 simp only at hc hd hc2 hd2
 subst hc hd hc2 hd2
 exact richCompare_meets_room (op:=.Lt) ⟨_,ho,rfl⟩ ⟨_,ho2,rfl⟩ PySem.F.slot_tuple_lt PySem.F.entry_tuple_lt (PySem.F.args_tuple_lt_2 _ _) (tuple_lt_gen l b items items2 n n2 dd dd2 sl sl2)
  ⟨ho,ho2,es,hes,show Value.bool (lexR es (decide (items.size < items2.size)))≠Value.notImplemented/\Q (.bool (lexR es (decide (items.size < items2.size)))) s from ⟨(fun x=>nomatch x),h⟩⟩ hu
def pLt (x y:Str×Bool):Bool:=if x.1=y.1 then (!x.2 && y.2) else decide (x.1.cps.toList < y.1.cps.toList)
def lexC:Cl->Cl->Bool
 | [],[]=>false
 | [],_::_=>true
 | _::_,[]=>false
 | x::xs,y::ys=>if x=y then lexC xs ys else pLt x y
theorem lt_pair {p q:Addr} {x y:Str×Bool} {t u:Tok} (hu:A.units < cLine) (hp:IsTup s.heap p #[.str x.1 t,.bool x.2]) (hq:IsTup s.heap q #[.str y.1 u,.bool y.2]):LtAt A s (.ref p) (.ref q) (pLt x y):=by
 have h:=lt_tupGen (es:=[(x.1 == y.1,decide (x.1.cps.toList < y.1.cps.toList)),(x.2 == y.2,decide (b2i x.2 < b2i y.2))]) hp hq
  (.cons (eqAt_V (y:=.str x.1) (x:=.str y.1) ⟨t,rfl⟩ ⟨u,rfl⟩ rfl rfl) (fun _ prog w E Q hq=>(lt_str hq:wpAny (model prog w) _ (compareOp .Lt _ _) Q E s))
   (.cons (eqAt_V (y:=.bl x.2) (x:=.bl y.2) rfl rfl rfl rfl) (fun _ prog w E Q hq=>(lt_bool hq:wpAny (model prog w) _ (compareOp .Lt _ _) Q E s)) (.left _))) hu
 have e:lexR [(x.1 == y.1,decide (x.1.cps.toList < y.1.cps.toList)),(x.2 == y.2,decide (b2i x.2 < b2i y.2))] (decide ((#[Value.str x.1 t,.bool x.2]).size < (#[Value.str y.1 u,.bool y.2]).size))=pLt x y:=by
  unfold pLt
  by_cases e1:x.1=y.1
  ·rw [if_pos e1,show (x.1 == y.1)=true by simpa using e1]
   cases x.2 <;> cases y.2 <;> rfl
  ·rw [if_neg e1,show (x.1 == y.1)=false by simpa using e1]
   rfl
 rw [e] at h
 exact h
theorem cmp_pairs (hu:A.units < cLine):∀{qs ps:List Addr} {cl dl:Cl},PairsH s.heap qs cl->PairsH s.heap ps dl->∃es,Cmp2 A s (qs.map Value.ref) (ps.map Value.ref) es/\∀n m:Nat,n+dl.length=m+cl.length->lexR es (decide (n < m))=lexC cl dl
 | _,_,_,_,.nil,.nil=>⟨[],.left _,fun n m e=>by show decide (n < m)=false;exact decide_eq_false (by simp at e;lia)⟩
 | _,_,_,_,.nil,.cons _ _=>⟨[],.left _,fun n m e=>by show decide (n < m)=true;exact decide_eq_true (by simp at e;lia)⟩
 | _,_,_,_,.cons _ _,.nil=>⟨[],.right _ _,fun n m e=>by show decide (n < m)=false;exact decide_eq_false (by simp at e;lia)⟩
 | _,_,_,_,.cons (x:=x) h1 r1,.cons (x:=y) h2 r2=>by
  obtain ⟨es,c,e⟩:=cmp_pairs hu r1 r2
  refine ⟨_,.cons (eq_pairH hu h1 h2) (fun _=>lt_pair hu h1 h2) c,fun n m h=>?_⟩
  unfold lexC
  by_cases hxy:x=y
  ·rw [if_pos hxy,decide_eq_true hxy]
   exact e n m (by simp at h;lia)
  ·rw [if_neg hxy,decide_eq_false hxy]
   rfl
theorem lt_cl {a b:Addr} {cl dl:Cl} (hu:A.units+2 < cLine) (ha:ClH s.heap cl a) (hb:ClH s.heap dl b):LtAt A s (.ref a) (.ref b) (lexC cl dl):=by
 obtain ⟨qs,t1,p1⟩:=ha
 obtain ⟨ps,t2,p2⟩:=hb
 obtain ⟨es,c,e⟩:=cmp_pairs (A:=A.in1) (by rw [Around.in1_units];lia) p1 p2
 have h:=lt_tupGen t1 t2 c (by lia)
 rw [e _ _ (by rw [List.size_toArray,List.size_toArray,List.length_map,List.length_map,p1.length,p2.length];lia)] at h
 exact h
end
end L2
end
section
namespace L2
open PySem PySem.Spec PySem.W PyProof.Rows Builtin
theorem pLt_iff {x y:Str×Bool}:pLt x y=true↔x.1.cps.toList < y.1.cps.toList\/(x.1=y.1/\x.2=false/\y.2=true):=by
 unfold pLt
 by_cases e:x.1=y.1
 ·rw [if_pos e]
  have:¬(x.1.cps.toList < y.1.cps.toList):=by rw [e];exact List.lt_irrefl _
  constructor
  ·intro h
   simp only [Bool.and_eq_true,Bool.not_eq_true'] at h
   exact .inr ⟨e,h.1,h.2⟩
  ·rintro (z | ⟨_,h2,h3⟩)
   ·exact absurd z this
   ·rw [h2,h3];rfl
 ·rw [if_neg e]
  simp [e]
theorem pLt_irr (x:Str×Bool):pLt x x=false:=by
 unfold pLt
 rw [if_pos rfl]
 cases x.2 <;> rfl
theorem pLt_tri {x y:Str×Bool} (h:x≠y):pLt x y=true\/pLt y x=true:=by
 rw [pLt_iff,pLt_iff]
 by_cases e:x.1=y.1
 ·have e2:x.2≠y.2:=fun z=>h (Prod.ext e z)
  cases h1:x.2 <;> cases h2:y.2 <;> simp_all
 ·refine Classical.byContradiction fun z=>?_
  rw [not_or,not_or,not_or] at z
  exact e (str_ext (List.le_antisymm (List.not_lt.mp z.2.1) (List.not_lt.mp z.1.1)))
theorem pLt_asy {x y:Str×Bool} (h:pLt x y=true):pLt y x=false:=by
 cases e:pLt y x with
 | false=>rfl
 | true=>
  rw [pLt_iff] at h e
  rcases h with h | ⟨h1,h2,h3⟩ <;> rcases e with e | ⟨e1,e2,e3⟩
  ·exact absurd (List.lt_trans h e) (List.lt_irrefl _)
  ·rw [e1] at h;exact absurd h (List.lt_irrefl _)
  ·rw [h1] at e;exact absurd e (List.lt_irrefl _)
  ·rw [h3] at e2;cases e2
theorem pLt_tr {x y z:Str×Bool} (h:pLt x y=true) (k:pLt y z=true):pLt x z=true:=by
 rw [pLt_iff] at *
 rcases h with h | ⟨h1,h2,h3⟩ <;> rcases k with k | ⟨k1,k2,k3⟩
 ·exact .inl (List.lt_trans h k)
 ·exact .inl (by rw [<-k1];exact h)
 ·exact .inl (by rw [h1];exact k)
 ·rw [h3] at k2;cases k2
theorem pLt_ne {x y:Str×Bool} (h:pLt x y=true):x≠y:=fun e=>by rw [e,pLt_irr] at h;cases h
theorem lexC_irr:∀x:Cl,lexC x x=false
 | []=>rfl
 | a::l=>by unfold lexC;rw [if_pos rfl];exact lexC_irr l
theorem lexC_tri:∀{x y:Cl},x.length=y.length->x≠y->lexC x y=true\/lexC y x=true
 | [],[],_,h=>absurd rfl h
 | a::l,b::m,hl,h=>by
  unfold lexC
  by_cases e:a=b
  ·subst e
   have:=lexC_tri (x:=l) (y:=m) (by simpa using hl) (fun z=>h (by rw [z]))
   simpa using this
  ·rw [if_neg e,if_neg (Ne.symm e)]
   exact pLt_tri e
 | [],_::_,hl,_=>by simp at hl
 | _::_,[],hl,_=>by simp at hl
theorem lexC_asy:∀{x y:Cl},lexC x y=true->lexC y x=false
 | [],[],h=>by simp [lexC] at h
 | [],b::m,_=>rfl
 | a::l,[],h=>by simp [lexC] at h
 | a::l,b::m,h=>by
  unfold lexC at h ⊢
  by_cases e:a=b
  ·subst e
   rw [if_pos rfl] at h ⊢
   exact lexC_asy h
  ·rw [if_neg e] at h
   rw [if_neg (Ne.symm e)]
   exact pLt_asy h
theorem lexC_tr:∀{x y z:Cl},lexC x y=true->lexC y z=true->lexC x z=true
 | [],[],_,h,_=>by simp [lexC] at h
 | [],b::m,[],_,h=>by simp [lexC] at h
 | [],b::m,c::n,_,_=>rfl
 | a::l,[],_,h,_=>by simp [lexC] at h
 | a::l,b::m,[],_,h=>by simp [lexC] at h
 | a::l,b::m,c::n,h1,h2=>by
  unfold lexC at h1 h2 ⊢
  by_cases e1:a=b
  ·subst e1
   by_cases e2:a=c
   ·subst e2
    rw [if_pos rfl] at h1 h2 ⊢
    exact lexC_tr h1 h2
   ·rw [if_pos rfl] at h1
    rw [if_neg e2] at h2 ⊢
    exact h2
  ·by_cases e2:b=c
   ·subst e2
    rw [if_neg e1] at h1 ⊢
    exact h1
   ·rw [if_neg e1] at h1
    rw [if_neg e2] at h2
    have:=pLt_tr h1 h2
    rw [if_neg (pLt_ne this)]
    exact this
def clLt (x y:Cl):Bool:=decide (x.length < y.length) || (decide (x.length=y.length) && lexC x y)
def clB (ss:List Cl) (i j:Nat):Bool:=clLt (ss.getD i []) (ss.getD j [])
theorem clLt_ord {ss:List Cl} (nd:ss.Nodup):Ord (clB ss) ss.length where
 tr:=fun i j k hi hj hk h1 h2=>by
  unfold clB clLt at *
  simp only [Bool.or_eq_true,Bool.and_eq_true,decide_eq_true_eq] at *
  rcases h1 with h1 | ⟨h1,l1⟩ <;> rcases h2 with h2 | ⟨h2,l2⟩
  ·exact .inl (by lia)
  ·exact .inl (by lia)
  ·exact .inl (by lia)
  ·exact .inr ⟨by lia,lexC_tr l1 l2⟩
 asy:=fun i j hi hj h=>by
  unfold clB clLt at *
  simp only [Bool.or_eq_true,Bool.and_eq_true,decide_eq_true_eq] at h
  rcases h with h | ⟨h,l⟩
  ·simp only [Bool.or_eq_false_iff,Bool.and_eq_false_imp,decide_eq_false_iff_not,decide_eq_true_eq]
   exact ⟨by lia,fun z=>by lia⟩
  ·simp only [Bool.or_eq_false_iff,Bool.and_eq_false_imp,decide_eq_false_iff_not,decide_eq_true_eq]
   exact ⟨by lia,fun _=>lexC_asy l⟩
 tot:=fun i j hi hj d=>by
  have ne:ss.getD i []≠ss.getD j []:=by
   rw [List.getD_eq_getElem?_getD,List.getD_eq_getElem?_getD,List.getElem?_eq_getElem hi,List.getElem?_eq_getElem hj]
   exact fun e=>d ((List.getElem_inj nd).mp e)
  unfold clB clLt
  simp only [Bool.or_eq_true,Bool.and_eq_true,decide_eq_true_eq]
  rcases Nat.lt_trichotomy (ss.getD i []).length (ss.getD j []).length with h | h | h
  ·exact .inl (.inl h)
  ·rcases lexC_tri h ne with z | z
   ·exact .inl (.inr ⟨h,z⟩)
   ·exact .inr (.inr ⟨h.symm,z⟩)
  ·exact .inr (.inl h)
section
variable {P:Program} {w:World} {A:Around} {E:Value->Shared->Prop} {s:Shared}
theorem cmp_keyC {p q a c:Addr} {lx ly:Int} {t u:Tok} {ns ms:Cl} {C:Bool->Shared->Prop} (hu:A.units+2 < cLine) (hp:IsTup s.heap p #[.int lx t,.ref a]) (hq:IsTup s.heap q #[.int ly u,.ref c])
  (ha:ClH s.heap ns a) (hc:ClH s.heap ms c) (hx:lx=ns.length) (hy:ly=ms.length) (h:C (clLt ns ms) s):wpAny (model P w) A (keyLt' (tuples' true) (.ref p) (.ref q)) C E s:=by
 refine hide fun gG hG=>?_
 obtain ⟨o1,e1,c1,n1,d1⟩:=id hp
 obtain ⟨o2,e2,c2,n2,d2⟩:=id hq
 refine hG ?_
 refine kat_lt e1 d1 e2 d2 ?_
 show KatLex P w A true _ C [(.int lx t,.int ly u),(.ref a,.ref c)] 0 s
 refine kat_cons ((mixKind P w).eqBool (a:=Sum.inl lx) (b:=Sum.inl ly) (by show (lx == lx)=true;simp) (by show (ly == ly)=true;simp) ?_)
 refine kat_go (fun e=>?_) fun e=>?_
 ·have el:lx=ly:=Sum.inl.inj (of_decide_eq_true e)
  refine kat_yes (kat_cons (eq_clH (by lia) ha hc P w _ _ ?_))
  refine kat_go (fun e'=>kat_yes (kat_nil ?_)) fun e'=>kat_no ?_
  ·have:ns=ms:=of_decide_eq_true e'
   subst this
   have z:clLt ns ns=false:=by unfold clLt;rw [lexC_irr];simp
   rw [z] at h
   exact h
  ·refine kat_one _ _ (lt_cl hu ha hc P w _ _ ?_)
   have z:clLt ns ms=lexC ns ms:=by
    unfold clLt
    rw [decide_eq_false (by lia:¬ns.length < ms.length),decide_eq_true (by lia:ns.length=ms.length)]
    simp
   rw [z] at h
   exact h
 ·have el:lx≠ly:=fun z=>by rw [z] at e;simp at e
  refine kat_no (oneLt_int ?_)
  have z:clLt ns ms=decide (lx < ly):=by
   unfold clLt
   rw [decide_eq_false (by lia:¬ns.length=ms.length),Bool.false_and,Bool.or_false,Bool.eq_iff_iff,decide_eq_true_eq,decide_eq_true_eq]
   lia
  rw [z] at h
  exact h
end
theorem clAt_inj {H:Hp} {x y:Cl} {a:Addr} (hx:ClAt H x a) (hy:ClAt H y a):x=y:=by
 refine hide fun gG hG=>?_
 obtain ⟨qs,e1,l1⟩:=hx
 obtain ⟨ps,e2,l2⟩:=hy
 refine hG ?_
 rw [e1] at e2
 have e3:qs=ps:=by
  injection e2 with e2
  injection e2 with e2
  exact (List.map_inj_right fun _ _ h=>V.ref.inj h).mp e2
 subst e3
 apply List.ext_getElem?
 intro i
 by_cases hi:i < qs.length
 ·have a1:=List.getElem?_eq_getElem (l:=x) (i:=i) (by rw [<-l1.1];exact hi)
  have a2:=List.getElem?_eq_getElem (l:=y) (i:=i) (by rw [<-l2.1];exact hi)
  have h1:=l1.2 i _ _ (List.getElem?_eq_getElem hi) a1
  have h2:=l2.2 i _ _ (List.getElem?_eq_getElem hi) a2
  have h:=h1.symm.trans h2
  simp only [Option.some.injEq,HO.tup.injEq,List.cons.injEq,V.str.injEq,V.bl.injEq,and_true] at h
  rw [a1,a2,Prod.ext h.1 h.2]
 ·rw [List.getElem?_eq_none (by rw [<-l1.1];lia),List.getElem?_eq_none (by rw [<-l2.1];lia)]
section
variable {X:Cx} {pins:List (Addr×Obj)} {σ:St} {H:Hp} {s:Shared}
def KeysC (H':Hp) (as:List Addr) (ss:List Cl) (n:Nat) (kA:Array Value):Prop:=kA.size=n/\∀(j:Nat) v,kA[j]? = some v->∃p a ns,v=.ref p/\as[j]? = some a/\ss[j]? = some ns/\H' p=some (.tup [.int (ns.length:Nat),.ref a])
theorem keysC_loop {D S:Addr} {e1:Nat} {H0:Hp} {s0:Shared} (I:Inv X pins σ H s) (m:Mid X H s D S e1 H0 s0 #[]) (hD:s.heap.objs.size<=D) (hS:s.heap.objs.size<=S) (hDS:D≠S) {k:Nat} {f:Addr} {fd:FuncData} {pm:Str} (F:FnOk X.prog X.w X.K X.mg X.base CX0 k f fd [pm] spOrd) (hr:Room k X.A.in1.in1)
  (hb:Binds X.K fd [pm] []) {as:List Addr} {ss:List Cl} (ls:as.length=ss.length) (h64:as.length < 100000) (hs:∀(i:Nat) a ns,as[i]? = some a->ss[i]? = some ns->ClAt H ns a) {Q:PUnit->Shared->Prop} {E:Value->Shared->Prop} {body:Value->PUnit->Sem (ForInStep PUnit)}
  (hbody:∀a R s1,wpAny (model X.prog X.w) X.A.in1.in1 (call (.ref f) [.ref a]) (fun v s2=>wpAny (model X.prog X.w) X.A.in1.in1 (Builtin.List.listUpdate (.ref S) (·.push v)) (fun _ s3=>R (.yield ⟨⟩) s3) E s2) (fun _ _=>False) s1->wpAny (model X.prog X.w) X.A.in1.in1 (body (.ref a) ⟨⟩) R E s1)
  (q:∀H' s' kA,Mid X H s D S e1 H' s' kA->KeysC H' as ss as.length kA->Q ⟨⟩ s'):wpAny (model X.prog X.w) X.A.in1.in1 (forIn (as.map Value.ref) PUnit.unit body) Q E s0:=by
 refine ksk_fold (fun i s'=>∃H' kA,Mid X H s D S e1 H' s' kA/\KeysC H' as ss i kA) (as.map Value.ref) 0 s0 ⟨H0,#[],m,rfl,fun j v e=>by simp at e⟩ (fun j x s1 hx hJ=>?_) fun s' hd=>?_
 ·refine hide fun gG hG=>?_
  obtain ⟨H',kA,m1,ks,kk⟩:=hJ
  refine hG ?_
  rw [List.getElem?_map] at hx
  cases ea:as[j]? with
  | none=>rw [ea] at hx;cases hx
  | some a=>
   rw [ea] at hx
   cases hx
   have hj:j < as.length:=(List.getElem?_eq_some_iff.mp ea).1
   have es:ss[j]? = some ss[j]:=List.getElem?_eq_getElem (by lia)
   obtain ⟨qs,hqs,lits⟩:=hs j a _ ea es
   refine hbody a _ s1 (m1.call I hD hS F hr hb hqs fun p s2 hp m2=>?_)
   obtain ⟨eS,oS⟩:=m2.oS
   have z1:kA.size<=sizeLine:=smallB (by lia)
   have z2:(kA.push (.ref p)).size<=sizeLine:=by rw [Array.size_push];exact smallB (by lia)
   refine listUpdate_at (xs:=kA) oS rfl ⟨rfl,_,kA.push (.ref p),m2.push hS hDS (·.push (.ref p)),by rw [Array.size_push,ks],fun i v ev=>?_⟩ z1 (Nat.le_succ_of_le z2)
   by_cases hi:i < kA.size
   ·rw [Array.getElem?_push_lt hi] at ev
    obtain ⟨p',a',ns',e1',e2',e3',e4'⟩:=kk i v (by rw [Array.getElem?_eq_getElem hi];exact ev)
    exact ⟨p',a',ns',e1',e2',e3',by rw [upd_ne (ne_of_none e4' hp)];exact e4'⟩
   ·have hi2:i=kA.size:=by
     have:=(Array.getElem?_eq_some_iff.mp ev).1
     rw [Array.size_push] at this
     lia
    subst hi2
    rw [Array.getElem?_push_size] at ev
    cases ev
    rw [ks,Nat.zero_add]
    exact ⟨p,a,_,rfl,ea,es,by rw [upd_same,List.length_map,lits.1]⟩
 ·refine hide fun gG hG=>?_
  obtain ⟨H',kA,m1,ks,kk⟩:=hd
  refine hG ?_
  rw [List.length_map,Nat.zero_add] at ks
  exact q H' s' kA m1 ⟨ks,kk⟩
theorem sortC_end {D S:Addr} {e1:Nat} {H':Hp} {s':Shared} {kA:Array Value} {as:List Addr} {ss:List Cl} {Pq:PySem.Fin->Shared->Prop} {E:Value->Shared->Prop} (m:Mid X H s D S e1 H' s' kA) (hu:X.A.in1.in1.units+2 < cLine) (hD:s.heap.objs.size<=D) (hS:s.heap.objs.size<=S) (hDS:D≠S)
  (kk:KeysC H' as ss as.length kA) (ls:as.length=ss.length) (h64:as.length < 100000) (nd:ss.Nodup) (hs:∀(i:Nat) a ns,as[i]? = some a->ss[i]? = some ns->ClAt H ns a)
  (q:∀s2 p,Prm p as.length->Asc (clB ss) p as.length->Fin X H s D H' s2 (p.toList.map fun i=>as.getD i 0)->Pq (.done (.ret .none)) s2):wpAny (model X.prog X.w) X.A.in1.in1 (ksk_end D false (as.map Value.ref).toArray e1 (.ref S) kA) Pq E s':=by
 obtain ⟨ks,kv⟩:=kk
 have hzs:(kA.zip (as.map Value.ref).toArray).size=as.length:=by rw [Array.size_zip,ks,List.size_toArray,List.length_map,Nat.min_self]
 have itm:∀i,i < as.length->∃p,kas_item (kA.zip (as.map Value.ref).toArray) i=(.ref p,.ref (as.getD i 0))/\∃a ns,as[i]? = some a/\ss[i]? = some ns/\H' p=some (.tup [.int (ns.length:Nat),.ref a]):=fun i hi=>by
  have hi1:i < kA.size:=by lia
  obtain ⟨p,a,ns,e1,e2,e3,e4⟩:=kv i kA[i] (Array.getElem?_eq_getElem hi1)
  refine ⟨p,?_,a,ns,e2,e3,e4⟩
  unfold kas_item
  rw [Array.getD_eq_getD_getElem?,Array.getElem?_eq_getElem (by rw [hzs];exact hi),Option.getD_some,Array.getElem_zip,e1,getD_some e2]
  congr 1
  have:(as.map Value.ref)[i]? = some (.ref a):=by rw [List.getElem?_map,e2];rfl
  have h2:=List.getElem?_eq_some_iff.mp this
  simpa using h2.2
 have outp:∀p:Array Nat,Prm p as.length->(p.map (kas_item (kA.zip (as.map Value.ref).toArray))).map (·.2)=((p.toList.map fun i=>as.getD i 0).map Value.ref).toArray:=fun p hp=>by
  apply Array.ext'
  rw [Array.toList_map,Array.toList_map,List.toList_toArray,List.map_map,List.map_map]
  refine List.map_congr_left fun i hi=>?_
  have hlt:i < as.length:=by
   have:=(hp.perm.mem_iff (a:=i)).mp (by simpa using hi)
   simpa using this
  obtain ⟨p',e,_⟩:=itm i hlt
  show (kas_item _ i).2=_
  rw [e]
  rfl
 have blen:∀p:Array Nat,Prm p as.length->(p.toList.map fun i=>as.getD i 0).length<=100000:=fun p hp=>by rw [List.length_map,Array.length_toList,hp.size];lia
 unfold ksk_end
 dsimp only
 simp only [Bool.false_eq_true,if_false]
 by_cases h2:(as.map Value.ref).toArray.size < 2
 ·rw [if_pos h2,if_pos h2]
  refine wpAny_bind (wpAny_pure ?_)
  rw [StateT.run_pure]
  refine wpAny_bind (wpAny_pure ?_)
  dsimp only
  have hp:Prm (List.toArray (List.range as.length)) as.length:=⟨Array.Perm.refl _⟩
  rw [List.size_toArray,List.length_map] at h2
  refine sort_tail (st:=SortSt.mk' general' (kA.zip (as.map Value.ref).toArray) #[] 7 none) m hD hS hDS (by lia) (blen _ hp) ?_ rfl fun s2 f=>q s2 _ hp (fun i hi=>by lia) f
  rw [<-outp _ hp]
  have:(List.toArray (List.range as.length)).map (kas_item (kA.zip (as.map Value.ref).toArray))=kA.zip (as.map Value.ref).toArray:=by
   have:=kas_range (kA.zip (as.map Value.ref).toArray)
   rwa [hzs] at this
  rw [this]
 ·rw [if_neg h2,if_neg h2]
  rw [List.size_toArray,List.length_map] at h2
  have h2':2<=as.length:=by lia
  have tups:∀v∈kA.toList,∃p a,∃k:Int,∃t,v=.ref p/\IsTup s'.heap p #[.int k t,.ref a]:=fun v hv=>by
   obtain ⟨i,hi,rfl⟩:=List.mem_iff_getElem.mp hv
   obtain ⟨p,a,ns,e1,e2,e3,e4⟩:=kv i (kA.toList[i]) (by rw [<-Array.getElem?_toList];exact List.getElem?_eq_getElem hi)
   obtain ⟨t,ht⟩:=key_obj m.hok e4
   exact ⟨p,a,_,t,e1,ht⟩
  refine hide fun gG hG=>?_
  obtain ⟨fs,kt,lf,hf⟩:=katTups_of tups
  refine hG ?_
  have kind:wpAny (model X.prog X.w) X.A.in1.in1 (keyKind' kA) (fun κ s2=>κ=tuples' true/\s2=s') E s':=by
   have:=kat_kind (M:=model X.prog X.w) (A:=X.A.in1.in1) (E:=E) (s:=s') (T:=Value.type "int") (Q:=fun κ s2=>κ=tuples' true/\s2=s') kt (by rw [lf,Array.length_toList];lia) (fun v hv=>by
    obtain ⟨k,t,rfl⟩:=hf v hv
    exact .now) (by decide) ⟨by congr 1,rfl⟩
   rwa [Array.toArray_toList] at this
  refine wpAny_bind (wpAny_mono kind (fun κ s2 ⟨e1,e2⟩=>?_) fun _ _ x=>x)
  subst e1 e2
  have hn:0 < as.length:=by lia
  have obj:∀i,i < as.length->∃p a t,∃k:Int,(kas_item (kA.zip (as.map Value.ref).toArray) i).1=.ref p/\IsTup s2.heap p #[.int k t,.ref a]/\ClH s2.heap (ss.getD i []) a/\k=(ss.getD i []).length:=fun i hi=>by
   refine hide fun gG hG=>?_
   obtain ⟨p,e,a,ns,e2,e3,e4⟩:=itm i hi
   obtain ⟨t,ht⟩:=key_obj m.hok e4
   refine hG ?_
   have hca:=clH_of m.hok ((hs i a ns e2 e3).mono fun q xs z=>m.same _ _ z)
   exact ⟨p,a,t,_,by rw [e],ht,by rw [getD_some e3];exact hca,by rw [getD_some e3]⟩
  have ssD:∀i,i < as.length->ss[i]? = some (ss.getD i []):=fun i hi=>by
   rw [List.getD_eq_getElem?_getD,List.getElem?_eq_getElem (by lia)];rfl
  have inj:∀i j,i < as.length->j < as.length->kas_item (kA.zip (as.map Value.ref).toArray) i=kas_item (kA.zip (as.map Value.ref).toArray) j->i=j:=fun i j hi hj e=>by
   refine hide fun gG hG=>?_
   obtain ⟨p,e1,a,ns,f1,f2,_⟩:=itm i hi
   obtain ⟨p',e1',a',ns',f1',f2',_⟩:=itm j hj
   refine hG ?_
   rw [e1,e1'] at e
   injection e with _ e2
   injection e2 with e2
   rw [getD_some f1,getD_some f1'] at e2
   subst e2
   have g1:=hs i a ns f1 f2
   have g2:=hs j a ns' f1' f2'
   have e3:ns=ns':=clAt_inj g1 g2
   subst e3
   have h1:=(List.getElem?_eq_some_iff.mp f2)
   have h2:=(List.getElem?_eq_some_iff.mp f2')
   exact (List.getElem_inj nd).mp (h1.2.trans h2.2.symm)
  have run:=s_sorted (prog:=X.prog) (w:=X.w) (A:=X.A.in1.in1) (E:=E) (κ:=tuples' true) (item:=kas_item (kA.zip (as.map Value.ref).toArray)) (n:=as.length) (b:=clB ss) (s:=s2) (it:=kA.zip (as.map Value.ref).toArray) inj
   (by have:=clLt_ord nd;rw [<-ls] at this;exact this) h2' (fun i j C hi hj hC=>by
    refine hide fun gG hG=>?_
    obtain ⟨p,a,t,k,e1,t1,t2,t4⟩:=obj i hi
    obtain ⟨p',a',t',k',e1',t1',t2',t4'⟩:=obj j hj
    refine hG ?_
    rw [e1,e1']
    exact cmp_keyC hu t1 t1' t2 t2' t4 t4' hC) (by
    have:=kas_range (kA.zip (as.map Value.ref).toArray)
    rw [hzs] at this
    have e:=congrArg Array.toList this
    rw [Array.toList_map,List.toList_toArray] at e
    exact e.symm)
  refine wpAny_bind (wpAny_mono run (fun r s3 ⟨e,p,hp,ha,e1,e2⟩=>?_) fun _ _ x=>x)
  obtain ⟨⟨⟩,st'⟩:=r
  subst e
  dsimp only
  exact sort_tail m hD hS hDS (by lia) (blen _ hp) (by rw [e1];exact outp p hp) e2 fun s4 f=>q s4 p hp ha f
theorem sorted_keyC {k:Nat} {f:Addr} {fd:FuncData} {pm:Str} {x:Value} {as:List Addr} {ss:List Cl} {Q:VK} (I:Inv X pins σ H s) (F:FnOk X.prog X.w X.K X.mg X.base CX0 k f fd [pm] spOrd) (hr:Room k X.A.in1.in1) (hb:Binds X.K fd [pm] [])
  (ls:as.length=ss.length) (h64:as.length < 100000) (nd:ss.Nodup) (hs:∀(i:Nat) a ns,as[i]? = some a->ss[i]? = some ns->ClAt H ns a)
  (hc:∀(Q':List Value->Shared->Prop),(∀s',(∀b o,s.heap.get? b=some o->s'.heap.get? b=some o)->s.heap.objs.size<=s'.heap.objs.size->s'.gens=s.gens->s'.os=s.os->Q' (as.map Value.ref) s')->wpAny (model X.prog X.w) X.A.in1 (collect x) Q' X.xe s)
  (q:∀D H' p,Same H H'->H D=none->Prm p as.length->Asc (clB ss) p as.length->H' D=some (.lst (List.map V.ref (p.toList.map fun i=>as.getD i 0)))->Q (.ref D) H') :
  wpAny (model X.prog X.w) X.A (PySem.call (.builtin "sorted") [x] [(Str.ofString "key",.ref f)]) (EP X pins σ Q) X.xe s:=by
 refine call_function_entry_kw kind_sorted plain_sorted entry_sorted (ksk_s1 _ _) ?_
 unfold Builtin.«sorted»
 refine wpAny_bind (m:=checkCount "sorted" 1 1 _) (wpAny_pure ?_)
 refine wpAny_bind (hc _ fun s1 k1 z1 g1 o1=>?_)
 refine wpAny_bind (wpAny_newList ?_ (by rw [List.length_map];exact smallB (by lia)))
 have hoL:(s1.heap.push (seqObj "list" (as.map Value.ref).toArray 0)).get? s1.heap.objs.size=some (seqObj "list" (as.map Value.ref).toArray 0):=Heap.get?_push_size _ rfl
 refine wpAny_bind (wpAny_holding (wpAny_call_entry_kw slot_list_sort ⟨_,hoL,rfl⟩ entry_list_sort ?body (ksk_l1 _ _)))
 case body=>
  show wpAny (model X.prog X.w) X.A.in1.in1 (Builtin.«list.sort» ⟨[.ref s1.heap.objs.size],[(Str.ofString "key",.ref f)]⟩) _ _ _
  rw [ksk_t1]
  unfold ksk_tree
  have lv:(as.map Value.ref).toArray.size<=sizeLine:=by rw [List.size_toArray,List.length_map];exact smallB (by lia)
  obtain ⟨e1,hoD1⟩:∃e1,((s1.heap.push (seqObj "list" (as.map Value.ref).toArray 0)).update s1.heap.objs.size (Obj.mapSeq fun _=>(#[]:Array Value))).get? s1.heap.objs.size=some (seqObj "list" #[] e1):=⟨_,get?_update_seq hoL fun _=>#[]⟩
  have sb:=Heap.SameBut.update (s1.heap.push (seqObj "list" (as.map Value.ref).toArray 0)) s1.heap.objs.size (Obj.mapSeq fun _=>(#[]:Array Value))
  have size1:((s1.heap.push (seqObj "list" (as.map Value.ref).toArray 0)).update s1.heap.objs.size (Obj.mapSeq fun _=>(#[]:Array Value))).objs.size=s1.heap.objs.size+1:=by rw [Heap.size_update,size_push']
  refine wpAny_bind (listItems_at hoL rfl ?_)
  refine wpAny_bind (listUpdate_at hoL rfl ?_ lv (Nat.zero_le _))
  refine wpAny_bind (seqEpoch_at hoD1 rfl ?_)
  refine wpAny_bind (wpAny_newTuple ?_ (by rw [List.toList_toArray,List.length_map];exact smallB (by lia)))
  refine wpAny_bind (wpAny_newList ?_ (Nat.zero_le _))
  refine wpAny_holding ?_
  have size2:(((s1.heap.push (seqObj "list" (as.map Value.ref).toArray 0)).update s1.heap.objs.size (Obj.mapSeq fun _=>(#[]:Array Value))).push (seqObj "tuple" (as.map Value.ref).toArray 0)).objs.size=s1.heap.objs.size+2:=by rw [size_push',size1]
  have keep:∀b o,s.heap.get? b=some o->((((s1.heap.push (seqObj "list" (as.map Value.ref).toArray 0)).update s1.heap.objs.size (Obj.mapSeq fun _=>(#[]:Array Value))).push (seqObj "tuple" (as.map Value.ref).toArray 0)).push (seqObj "list" #[] 0)).get? b=some o:=fun b o e=>by
   have lb:b < s1.heap.objs.size:=Nat.lt_of_lt_of_le (Heap.lt_size e) z1
   exact Heap.get?_push_of_some _ (Heap.get?_push_of_some _ ((sb.2 b (Nat.ne_of_lt lb)).trans (Heap.get?_push_of_some _ (k1 b o e))))
  have m0:Mid X H s s1.heap.objs.size (s1.heap.objs.size+2) e1 H { s1 with heap:=(((s1.heap.push (seqObj "list" (as.map Value.ref).toArray 0)).update s1.heap.objs.size (Obj.mapSeq fun _=>(#[]:Array Value))).push (seqObj "tuple" (as.map Value.ref).toArray 0)).push (seqObj "list" #[] 0) } #[]:=
   ⟨o1,by show AllBare s1.gens;rw [g1];exact I.bare,Un.kept keep,I.hok.kept keep,Same.refl H,I.hok.fresh z1,I.hok.fresh (by lia),Heap.get?_push_of_some _ (Heap.get?_push_of_some _ hoD1),0,by rw [<-size2];exact Heap.get?_push_size _ rfl⟩
  unfold ksk_rest
  refine wpAny_bind (wpAny_rule ?_)
  rw [<-Array.forIn_toList,List.toList_toArray]
  show wpAny (model X.prog X.w) X.A.in1.in1 _ _ X.xe { s1 with heap:=(((s1.heap.push (seqObj "list" (as.map Value.ref).toArray 0)).update s1.heap.objs.size (Obj.mapSeq fun _=>(#[]:Array Value))).push (seqObj "tuple" (as.map Value.ref).toArray 0)).push (seqObj "list" #[] 0) }
  rw [size2]
  refine wpAny_bind (keysC_loop I m0 z1 (by lia:s.heap.objs.size<=s1.heap.objs.size+2) (by lia:s1.heap.objs.size≠s1.heap.objs.size+2) F hr hb ls h64 hs (fun a R s2 hw=>?_) fun H' s' kA m kk=>?_)
  ·refine wpAny_bind (wpAny_attempt (wpAny_mono hw (fun v s3 h3=>?_) fun _ _ hF=>hF.elim))
   dsimp only
   exact wpAny_bind (wpAny_mono h3 (fun _ s4 h4=>wpAny_pure h4) fun _ _ x=>x)
  ·obtain ⟨eS,oS⟩:=m.oS
   refine wpAny_bind (listItems_at oS rfl ?_)
   refine sortC_end m (by have:=hr.units;lia) z1 (by lia:s.heap.objs.size<=s1.heap.objs.size+2) (by lia:s1.heap.objs.size≠s1.heap.objs.size+2) kk ls h64 nd hs fun s2 p hp ha fin=>⟨_,rfl,?_⟩
   obtain ⟨c,oD⟩:=fin.oD
   have hn:H s1.heap.objs.size=none:=I.hok.fresh z1
   have bl:(List.map V.ref (p.toList.map fun i=>as.getD i 0)).length<=sizeLine:=by rw [List.length_map,List.length_map,Array.length_toList,hp.size];exact smallB (by lia)
   have I2:Inv X pins σ (upd H' s1.heap.objs.size (.lst (List.map V.ref (p.toList.map fun i=>as.getD i 0)))) s2:=I.call' (ch:=[]) fin.os (un_lay fin.un z1 hn) (hok_lay fin.hok fin.nD ⟨bl,_,c,valsRefs _,oD⟩) fin.bare (fun b z=>absurd z (by simp))
   exact wpAny_pure ⟨_,rfl,.ref s1.heap.objs.size,_,I2,rfl,q _ _ p (fin.same.trans fun b u eb=>by rw [upd_ne (ne_of_none eb fin.nD)];exact eb) hn hp ha upd_same⟩
end
def ClsAt (H:Hp) (bs:List Addr) (ts:List Cl):Prop:=bs.length=ts.length/\∀(i:Nat) b t,bs[i]? = some b->ts[i]? = some t->ClAt H t b
def qSortC (P:Program) (w:World) (x:V) (H:Hp) (Q:VK):Prop:=∃d,x=.ref d/\∃ks,H d=some (DCl P w d ks)/\(∀k∈ks,ClAt H k.1 k.2)/\(ks.map (·.1)).Nodup/\ks.length < 100000/\
 ∀D H' bs ts,Same H H'->H D=none->H' D=some (.lst (List.map V.ref bs))->ClsAt H' bs ts->ts.Perm (ks.map (·.1))->ts.Pairwise (fun x y=>clLt x y=true)->Q (.ref D) H'
def tSortC (P:Program) (w:World) (te:TE):TE:=fun σ H Q=>te σ H fun x H1=>qSortC P w x H1 Q
section
variable {X:Cx} {k:Nat} {f:Addr} {fd:FuncData} {pm g:Str} {e:Expr} {te:TE} {p kp kpos pos:Pos}
theorem pe_sortC (F:FnOk X.prog X.w X.K X.mg X.base CX0 k f fd [pm] spOrd) (hr:Room (k+2) X.A) (hg:Gl X "sorted") (hm:X.mg "sorted" = none) (hv:bootBuiltins "sorted" = some (.builtin "sorted")) (hgf:Gl X g) (hmf:X.mg g=some (.ref f)) (hb:Binds X.K fd [pm] []) (ha:PE X e te)
  (hdb:(g == ("__debug__" : Str))=false:=by decide) (he:starEach [e] X.env=[(false,eval e X.env)]:=by rfl) :
  PE X (.Call (.Name "sorted" p) [e] [⟨some "key",.Name g kp,kpos⟩] pos) (tSortC X.prog X.w te):=by
 intro pins s σ H Q I h
 refine wpAny_Call_Name_kw (ld_blt I hg hm hv ?_)
 refine callWith_kw (thn ((pa_cons ha pa_nil he) pos pins s σ H (fun vs H1=>match vs with | [x]=>qSortC X.prog X.w x H1 Q | _=>False) I h) fun us s1 ⟨vs,H1,I1,r1,q1⟩=>?_) (by rw [he];rfl) (by rw [he];rfl)
 match vs,r1,q1 with
 | [x],r1,q1=>
  obtain ⟨u,rfl,ru⟩:=vals1 r1
  refine thn ((pk_cons (nm:=some (Str.ofString "key")) (kpos:=kpos) (pe_fnref (kp:=kp) hgf hmf hdb) pk_nil) pos pins s1 σ H1 (fun zs H2=>zs=[.ref f]/\H2=H1) I1 ⟨rfl,rfl⟩) fun ws s2 ⟨zs,H2,I2,r2,ez,eh⟩=>?_
  subst ez eh
  obtain ⟨u2,rfl,ru2⟩:=vals1 r2
  cases ru2
  refine hide fun gG hG=>?_
  obtain ⟨d,rfl,ks,hd,all,nds,few,q⟩:=q1
  refine hG ?_
  cases ru
  refine hide fun gG hG=>?_
  obtain ⟨lo,o,es,ep,ho,hx,hdat,hes⟩:=DCl.of (I2.hok d _ hd)
  refine hG ?_
  have sz:es.size=ks.length:=by rw [<-Array.length_toList,hes,List.length_map];unfold keyT;rw [List.length_map]
  have at':∀(i:Nat) a ns,(ks.map (·.2))[i]? = some a->(ks.map (·.1))[i]? = some ns->ClAt H2 ns a:=fun i a ns ha hns=>by
   rw [List.getElem?_map] at ha hns
   cases ex:ks[i]? with
   | none=>rw [ex] at ha;cases ha
   | some x=>
    rw [ex] at ha hns
    cases ha
    cases hns
    exact all x (List.mem_of_getElem? ex)
  have lss:(ks.map (·.2)).length=(ks.map (·.1)).length:=by rw [List.length_map,List.length_map]
  refine sorted_keyC (as:=ks.map (·.2)) (ss:=ks.map (·.1)) I2 F hr.in1.in1 hb lss (by rw [List.length_map];exact few) nds at' (fun Q' hQ'=>?_) fun D H' p sm hD hp ha hl=>?_
  ·refine collect_src (A:=X.A.in1) (raw_src (es:=es) (ep:=ep) lo) hr.hd ⟨o,ho,hx,hdat⟩ (by rw [sz];exact smallB (by lia)) fun s' vs k1 k2 k3 k4 k5 k6=>?_
   have e6:vs=(ks.map (·.2)).map Value.ref:=by
    apply List.ext_getElem?
    intro i
    cases ev:vs[i]? with
    | none=>
     have:=List.getElem?_eq_none_iff.mp ev
     rw [List.getElem?_eq_none]
     rw [List.length_map,List.length_map]
     lia
    | some v=>
     have h1:=k6 i v ev
     rw [<-Array.getElem?_toList,hes,List.getElem?_map] at h1
     unfold keyT at h1
     rw [List.getElem?_map] at h1
     rw [List.getElem?_map,List.getElem?_map]
     cases ex:ks[i]? with
     | none=>rw [ex] at h1;cases h1
     | some x=>rw [ex] at h1;exact h1.symm
   rw [e6] at *
   exact hQ' s' k1 k2 k3 k4
  ·have hpS:Prm p (ks.map (·.1)).length:=by rw [<-lss];exact hp
   have haS:Asc (clB (ks.map (·.1))) p (ks.map (·.1)).length:=by rw [<-lss];exact ha
   refine q D H' (p.toList.map fun i=>(ks.map (·.2)).getD i 0) (p.toList.map fun i=>(ks.map (·.1)).getD i []) sm hD hl ⟨by simp,fun i b t hb ht=>?_⟩ (prm_map hpS) ?_
   ·rw [List.getElem?_map] at hb ht
    cases ei:p.toList[i]? with
    | none=>rw [ei] at hb;cases hb
    | some j=>
     rw [ei] at hb ht
     have hj:j < (ks.map (·.1)).length:=by
      have:=(hpS.perm.mem_iff (a:=j)).mp (by simpa using List.mem_of_getElem? ei)
      simpa using this
     have hb':(ks.map (·.2)).getD j 0=b:=Option.some.inj hb
     have ht':(ks.map (·.1)).getD j []=t:=Option.some.inj ht
     refine (at' j b t ?_ ?_).mono fun q xs z=>sm _ _ z
     ·rw [<-hb',List.getD_eq_getElem?_getD,List.getElem?_eq_getElem (by rw [lss];exact hj)];rfl
     ·rw [<-ht',List.getD_eq_getElem?_getD,List.getElem?_eq_getElem hj];rfl
   ·exact asc_pick (l:=ks.map (fun k:Cl×Addr=>k.1)) (d:=([]:Cl)) (R:=clLt) hpS (clLt_ord nds) haS
theorem zpe_sortC (F:FnOk X.prog X.w X.K X.mg X.base CX0 k f fd [pm] spOrd) (hr:Room (k+2) X.A) (hg:Gl X "sorted") (hm:X.mg "sorted" = none) (hv:bootBuiltins "sorted" = some (.builtin "sorted")) (hgf:Gl X g) (hmf:X.mg g=some (.ref f)) (hb:Binds X.K fd [pm] []) (ha:ZE X e te)
  (hdb:(g == ("__debug__" : Str))=false:=by decide) (he:starEach [e] X.env=[(false,eval e X.env)]:=by rfl) :
  ZE X (.Call (.Name "sorted" p) [e] [⟨some "key",.Name g kp,kpos⟩] pos) (tSortC X.prog X.w te):=⟨pe_sortC F hr hg hm hv hgf hmf hb ha.to hdb he⟩
theorem zpe_dnewC {X:Cx} {pos:Pos}:ZE X (.Dict [] [] pos) (tDNewC X.prog X.w):=⟨pe_dnewC⟩
theorem zps_dputC {X:Cx} {o i value:Expr} {pos pos':Pos} {td ty tv:TE} (h1:X.A.units+64 < cLine) (h2:ZE X o td) (h3:ZE X i ty) (h4:ZE X value tv) (h5:swapsWith value (some (Expr.Subscript o i pos')) (Pos.line pos) (Cx.env X)=pure false):ZS X (Stmt.Assign [Expr.Subscript o i pos'] value pos) (sDPutC X.prog X.w td ty tv):=⟨ps_dputC h1 h2.to h3.to h4.to h5⟩
end
end L2
end
section
namespace L2
open PySem PySem.Spec PySem.W PyProof.Rows Builtin
theorem ClsAt.mono {H H':Hp} {bs:List Addr} {ts:List Cl} (h:ClsAt H bs ts) (k:∀q xs,H q=some (.tup xs)->H' q=some (.tup xs)):ClsAt H' bs ts:=⟨h.1,fun i b t e f=>(h.2 i b t e f).mono k⟩
theorem all_cls {cl dl:List Cl}:((List.range (min cl.length dl.length)).all (fun j=>decide (cl[j]? = dl[j]?)) && cl.length == dl.length)=decide (cl=dl):=by
 rw [Bool.eq_iff_iff,Bool.and_eq_true,List.all_eq_true,decide_eq_true_iff,beq_iff_eq]
 constructor
 ·rintro ⟨h,l⟩
  apply List.ext_getElem?
  intro i
  by_cases hi:i < cl.length
  ·exact of_decide_eq_true (h i (List.mem_range.mpr (by lia)))
  ·rw [List.getElem?_eq_none (by lia),List.getElem?_eq_none (by lia)]
 ·rintro rfl
  exact ⟨fun j _=>decide_eq_true rfl,rfl⟩
section
variable {X:Cx} {pins:List (Addr×Obj)} {s:Shared} {σ:St} {H:Hp} {A:Around}
theorem eq_cls_items {ps qs:List Addr} {cl dl:List Cl} (I:Inv X pins σ H s) (a:ClsAt H ps cl) (b:ClsAt H qs dl) (hu:A.units+1 < cLine) (j:Nat) (h1:j < (ps.map Value.ref).toArray.size) (h2:j < (qs.map Value.ref).toArray.size) :
  SeqAt.EqAt A s (ps.map Value.ref).toArray[j] (qs.map Value.ref).toArray[j] (decide (cl[j]? = dl[j]?)):=by
 have j1:j < ps.length:=by simpa using h1
 have j2:j < qs.length:=by simpa using h2
 have k1:j < cl.length:=by rw [<-a.1];exact j1
 have k2:j < dl.length:=by rw [<-b.1];exact j2
 have c1:cl[j]? = some cl[j]:=List.getElem?_eq_getElem k1
 have c2:dl[j]? = some dl[j]:=List.getElem?_eq_getElem k2
 have v1:(ps.map Value.ref).toArray[j]=.ref ps[j]:=by simp
 have v2:(qs.map Value.ref).toArray[j]=.ref qs[j]:=by simp
 have:=eq_clH (A:=A) hu (clH_of I.hok (a.2 j _ _ (List.getElem?_eq_getElem j1) c1)) (clH_of I.hok (b.2 j _ _ (List.getElem?_eq_getElem j2) c2))
 rw [v1,v2,c1,c2]
 have e3:decide ((some cl[j]:Option Cl)=some dl[j])=decide (cl[j]=dl[j]):=by simp only [Option.some.injEq]
 rw [e3];exact this
def qEqLC (neg:Bool):R2:=fun x y H Q=>∃a b,x=.ref a/\y=.ref b/\∃ps qs cl dl,H a=some (.lst (List.map V.ref ps))/\H b=some (.lst (List.map V.ref qs))/\ClsAt H ps cl/\ClsAt H qs dl/\Q (.bl (if neg then !decide (cl=dl) else decide (cl=dl))) H
theorem op_neLC (hu:X.A.units+64 < cLine):OpR X (compareOp .NotEq) (qEqLC true):=by
 intro pins s σ H x y v u Q I rx ry h
 obtain ⟨a,b,rfl,rfl,ps,qs,cl,dl,h1,h2,a1,a2,q⟩:=h
 cases rx;cases ry
 obtain ⟨us,r1,t1,_⟩:=I.list (sqL_of h1)
 obtain ⟨ws,r2,t2,_⟩:=I.list (sqL_of h2)
 have e1:=refs_vals r1
 have e2:=refs_vals r2
 subst e1 e2
 have l1:(ps.map Value.ref).toArray.size=cl.length:=by rw [List.size_toArray,List.length_map,a1.1]
 have l2:(qs.map Value.ref).toArray.size=dl.length:=by rw [List.size_toArray,List.length_map,a2.1]
 by_cases hl:cl.length=dl.length
 ·refine SeqAt.RcNeAt.lists (e:=fun j=>decide (cl[j]? = dl[j]?)) t1.isList t2.isList (by rw [l1,l2,hl]) (by lia) (fun j h1 h2=>eq_cls_items I a1 a2 (by rw [Around.in1_units];lia) j h1 h2) _ _ _ _ ⟨.bl _,H,I,rfl,?_⟩
  have e:=all_cls (cl:=cl) (dl:=dl)
  rw [hl,Nat.min_self,beq_self_eq_true,Bool.and_true] at e
  rw [l1,hl,e]
  exact q
 ·refine SeqAt.RcNeAt.lists_lengths t1.isList t2.isList (by rw [l1,l2];simpa using hl) (by lia) _ _ _ _ ⟨.bl _,H,I,rfl,?_⟩
  have e:decide (cl=dl)=false:=decide_eq_false fun z=>hl (by rw [z])
  have q':Q (.bl (!decide (cl=dl))) H:=q
  rw [e] at q'
  exact q'
end
end L2
end
section
namespace L2
open PySem PySem.Spec PySem.W PyProof.Rows Builtin
section
variable {X:Cx}
theorem op_eqLC (hu:X.A.units+64 < cLine):OpR X (compareOp .Eq) (qEqLC false):=by
 intro pins s σ H x y v u Q I rx ry h
 obtain ⟨a,b,rfl,rfl,ps,qs,cl,dl,h1,h2,a1,a2,q⟩:=h
 cases rx;cases ry
 obtain ⟨us,r1,t1,_⟩:=I.list (sqL_of h1)
 obtain ⟨ws,r2,t2,_⟩:=I.list (sqL_of h2)
 have e1:=refs_vals r1
 have e2:=refs_vals r2
 subst e1 e2
 have l1:(ps.map Value.ref).toArray.size=cl.length:=by rw [List.size_toArray,List.length_map,a1.1]
 have l2:(qs.map Value.ref).toArray.size=dl.length:=by rw [List.size_toArray,List.length_map,a2.1]
 by_cases hl:cl.length=dl.length
 ·refine SeqAt.eq_listAt (e:=fun j=>decide (cl[j]? = dl[j]?)) t1.isList t2.isList (by rw [l1,l2,hl]) (by lia) (fun j h1 h2=>eq_cls_items I a1 a2 (by rw [Around.in1_units];lia) j h1 h2) ⟨.bl _,H,I,rfl,?_⟩
  have e:=all_cls (cl:=cl) (dl:=dl)
  rw [hl,Nat.min_self,beq_self_eq_true,Bool.and_true] at e
  rw [l1,hl,e]
  exact q
 ·refine SeqAt.eq_list_lengthsAt t1.isList t2.isList (by rw [l1,l2];simpa using hl) (by lia) ⟨.bl _,H,I,rfl,?_⟩
  have e:decide (cl=dl)=false:=decide_eq_false fun z=>hl (by rw [z])
  have q':Q (.bl (decide (cl=dl))) H:=q
  rw [e] at q'
  exact q'
end
end L2
end
section
namespace L2
open PySem PySem.Spec PySem.W PyProof.Rows Builtin
section
variable {X:Cx} {pins:List (Addr×Obj)} {σ:St} {H:Hp} {s:Shared} {d:Addr} {o:Obj} {ks:List (Cl×Addr)}
theorem inv_freezeC (I:Inv X pins σ H s) (hd:H d=some (DCl X.prog X.w d ks)) (ho:s.heap.get? d=some o):Inv X pins σ (upd H d (.frz o (DCl X.prog X.w d ks))) s:=by
 have ok:HOk X.prog X.w (upd H d (.frz o (DCl X.prog X.w d ks))) s.heap:=hok_swap I.hok hd (fun y z=>by cases z) (fun xs z=>by cases z) fun H' h1 h2=>⟨ho,(I.hok d _ hd).stay (fun _ _ _ q=>q) (fun c q=>h1 c _ q) h2⟩
 have ne:∀{b:Addr} {u:HO},H b=some u->(DCl X.prog X.w d ks≠u)->b≠d:=fun e n=>(ne_of hd e n).symm
 exact I.step (g':=s.gens) (t':=s.toks) (d':=s.drawn) (ch:=[]) (fun _ z=>nomatch z) (fun _ _ _ _ _ e _=>e) (fun b o _ _ _ e _=>⟨o.slots,e⟩) (fun b o _ e n=>by rw [upd_ne (ne_of_none hd n).symm];exact n) (fun b o _ e=>⟨o,e⟩)
  (fun b xs e=>by rw [upd_ne (ne e (by intro z;cases z))];exact e) (fun b o u e=>by rw [upd_ne (ne e (by intro z;cases z))];exact e) (fun b ps e=>⟨#[],by rw [upd_ne (ne e (by intro z;cases z)),e];simp⟩) (fun m h=>h) ok I.bare
end
def Itc (P:Program) (w:World) (d:Addr) (o:Obj) (ks:List (Cl×Addr)):It:=
 ⟨fun i H=>i < ks.length/\H d=some (.frz o (DCl P w d ks)),fun i H x H'=>H'=H/\∃k,ks[i]? = some k/\x=.ref k.2,fun i H=>ks.length<=i/\H d=some (.frz o (DCl P w d ks))⟩
theorem keyT_at {P:Program} {w:World} {ks:List (Cl×Addr)} {es:Array DictEntry} (h:es.toList=(keyT ks).map (entryOfKey (clKind P w))):es.size=ks.length/\∀i (hi:i < es.size) k,ks[i]? = some k->es[i].key=.ref k.2:=by
 have sz:es.size=ks.length:=by rw [<-Array.length_toList,h,List.length_map];unfold keyT;rw [List.length_map]
 refine ⟨sz,fun i hi k hk=>?_⟩
 have e:es.toList[i]? = some es[i]:=by simp [hi]
 rw [h] at e
 unfold keyT at e
 rw [List.getElem?_map,List.getElem?_map,hk] at e
 rw [<-Option.some.inj e]
 rfl
theorem turn_dictC {P:Program} {w:World} {K:PySem.W.Frag} {tg:Expr} (d it:Addr) (o:Obj) (ks:List (Cl×Addr)) (es:Array DictEntry) (ep:Nat) (ne:d≠it) (ox:o.ExactDict) (od:o.data=.dict es ep):Turn P w K tg (Itc P w d o ks) [it] it (fun i h=>h.IsKeyIter it d i es.size ep) where
 mem:=by simp
 obj:=fun i h st b hb=>by
  have e:b=it:=by simpa using hb
  subst e
  refine hide fun gG hG=>?_
  obtain ⟨o,e,c,d⟩:=st
  refine hG ?_
  exact ⟨o,e,fun v z=>by rw [d] at z;cases z⟩
 keep:=fun i h h' st k=>st.at fun o e=>k it (by simp) o e
 item:=by
  intro X hP hw hK hc i pins s σ H E I hf st hg
  subst hP hw hK
  refine hide fun gG hG=>?_
  obtain ⟨hi,hd⟩:=hg
  obtain ⟨ho,q⟩:=(show ObjOk X.prog X.w H s.heap d (.frz o (DCl X.prog X.w d ks)) from I.hok d _ hd)
  obtain ⟨_,o',es',ep',ho',ox',od',hes⟩:=DCl.of q
  refine hG ?_
  rw [ho] at ho'
  cases ho'
  rw [od] at od'
  cases od'
  refine hide fun gG hG=>?_
  obtain ⟨f0,f1,f2,f3,f4,f5⟩:=hf it (by simp)
  obtain ⟨zl,at'⟩:=keyT_at hes
  refine hG ?_
  have hi':i < es.size:=by lia
  have ek:ks[i]? = some ks[i]:=List.getElem?_eq_getElem hi
  refine raw_item st ⟨o,ho,ox,od⟩ hi' fun h' st' sb=>?_
  have I1:Inv X pins σ H { s with heap:=h' }:=I.turned (t':=s.toks) (fun b o hb e=>(sb.2 b hb).trans e) f0 f1 f3 f4 f5
  refine hide fun gG hG=>?_
  obtain ⟨oi,e,c,dd⟩:=id st'
  refine hG ?_
  exact ⟨_,rfl,go_of (s:={ s with heap:=h' }) e c dd (by decide) ⟨.ref (ks[i]).2,H,I1,at' i hi' _ ek,⟨rfl,_,ek,rfl⟩,st',fun b hb=>(hf b hb).1⟩⟩
 done:=by
  intro X hP hw hK hc i pins s σ H E I hf st hg
  subst hP hw hK
  refine hide fun gG hG=>?_
  obtain ⟨hi,hd⟩:=hg
  obtain ⟨ho,q⟩:=(show ObjOk X.prog X.w H s.heap d (.frz o (DCl X.prog X.w d ks)) from I.hok d _ hd)
  obtain ⟨_,o',es',ep',ho',ox',od',hes⟩:=DCl.of q
  refine hG ?_
  rw [ho] at ho'
  cases ho'
  rw [od] at od'
  cases od'
  refine hide fun gG hG=>?_
  obtain ⟨f0,f1,f2,f3,f4,f5⟩:=hf it (by simp)
  obtain ⟨zl,_⟩:=keyT_at hes
  refine hG ?_
  exact raw_end (I.ok.hd hc) st ⟨o,ho,ox,od⟩ (by lia) fun h' eb=>⟨rfl,I.turned (t':=s.toks) (fun b o hb e=>eb b o hb e) f0 f1 f3 f4 f5⟩
 self:=fun _ _ _ _ _ st h=>wpAny_pyIter_keyiter st h
section
variable {X:Cx} {tg:Expr}
def iDictC (P:Program) (w:World) (te:TE):TI:=fun σ H R=>te σ H fun v H1=>∃a,v=.ref a/\∃ks,H1 a=some (DCl P w a ks)/\∀o,R (Itc P w a o ks) (upd H1 a (.frz o (DCl P w a ks)))
theorem pi_dictC {l:Expr} {tl:TE} (hl:PE X l tl):PI X tg l (iDictC X.prog X.w tl):=by
 intro pins s σ H R I h
 refine thn (hl pins s σ H _ I h) fun v s1 q1=>?_
 refine hide fun gG hG=>?_
 obtain ⟨x,H1,I1,r1,a,rfl,ks,hd,q⟩:=q1
 refine hG ?_
 cases r1
 refine hide fun gG hG=>?_
 obtain ⟨lo,o,es,ep,ho,ox,od,c⟩:=DCl.of (I1.hok a _ hd)
 refine hG ?_
 refine raw_iter lo ⟨o,ho,ox,od⟩ ?_
 have I0:=inv_freezeC I1 hd ho
 have I2:Inv X pins σ (upd H1 a (.frz o (DCl X.prog X.w a ks))) { s1 with heap:=s1.heap.push { cls:=.type "dict_keyiterator",data:=.fields #[.ref a,.int 0 0,.int es.size 0,.int ep 0] } }:=I0.kept (t':=s1.toks) fun b o e=>Heap.get?_push_of_some _ e
 refine ⟨s1.heap.objs.size,[s1.heap.objs.size],_,_,_,rfl,I2,turn_dictC a _ o ks es ep (Nat.ne_of_lt (Heap.lt_size ho)) ox od,⟨_,Heap.get?_push_size _ rfl,rfl,rfl⟩,fun b hb=>?_,q o⟩
 have e:b=s1.heap.objs.size:=by simpa using hb
 subst e
 exact I0.fpOk (Nat.le_refl _) (I0.hok.fresh (Nat.le_refl _))
theorem zpi_dictC {l:Expr} {tl:TE} (h1:ZE X l tl):ZI X tg l (iDictC X.prog X.w tl):=⟨pi_dictC h1.to⟩
theorem compAll_dictC {P:Program} {w:World} {a:Addr} {o:Obj} {ks:List (Cl×Addr)} {idx:List Nat} {tt:CB->TT} {te:CB->TE} {σ:St} {Q:VK} {H1:Hp} (Pv:Addr->Nat->List V->Hp->Prop) (h0:∀D,H1 D=none->Pv D 0 [] (upd H1 D (.lst [])))
  (hl:∀D,H1 D=none->∀i ys H,i<=ks.length->Pv D i ys H->H a=some (.frz o (DCl P w a ks)))
  (hs:∀D,H1 D=none->∀i k ys H,ks[i]? = some k->Pv D i ys H->∀(c:CB),tt c (some (.ref k.2)::subS σ idx) H fun b H4=>if b=true then te c (some (.ref k.2)::subS σ idx) H4 fun y H5=>H5 D=some (.lst ys)/\ys.length < sizeLine/\Pv D (i+1) (ys++[y]) (upd H5 D (.lst (ys++[y]))) else Pv D (i+1) ys H4)
  (hd:∀D,H1 D=none->∀ys H,Pv D ks.length ys H->Q (.ref D) H):CompAll (Itc P w a o ks) 1 idx (fun _=>gName 0) tt te σ Q H1:=by
 intro D hD
 refine ⟨fun i m ys H=>m=ks.length - i/\i<=ks.length/\Pv D i ys H,⟨ks.length,by simp,Nat.zero_le _,h0 D hD⟩,?_⟩
 rintro i m ys H ⟨rfl,hi,p⟩
 by_cases hlt:i < ks.length
 ·refine .inr ⟨⟨hlt,hl D hD i ys H hi p⟩,Pv D (i+1),fun ys' H' p'=>⟨ks.length - (i+1),by lia,rfl,hlt,p'⟩,fun c own ho y H' yl=>?_⟩
  refine hide fun gG hG=>?_
  obtain ⟨rfl,k,hk,rfl⟩:=yl
  refine hG ?_
  show (∃own',own'.length=1/\(own++subS σ idx).set 0 _=own'++subS σ idx)/\tt c ((own++subS σ idx).set 0 _) _ _
  rw [own1 ho]
  exact ⟨⟨[_],rfl,rfl⟩,hs D hD i k ys _ hk p c⟩
 ·have e:i=ks.length:=by lia
  subst e
  exact .inl ⟨⟨Nat.le_refl _,hl D hD _ ys H hi p⟩,hd D hD ys H p⟩
def tDInC (P:Program) (w:World) (ty td:TE):TE:=fun σ H Q=>ty σ H fun y H1=>td σ H1 fun x H2=>∃d,x=.ref d/\∃a,y=.ref a/\∃ks cl,(H2 d=some (DCl P w d ks)\/∃o,H2 d=some (.frz o (DCl P w d ks)))/\(∀k∈ks,ClAt H2 k.1 k.2)/\ClAt H2 cl a/\(ks.map (·.1)).Nodup/\Q (.bl (decide (cl∈ks.map (·.1)))) H2
theorem pc_dinC {i o:Expr} {ty td:TE} (hu:X.A.units+64 < cLine) (hi:PE X i ty) (ho:PE X o td):PC X .In i o (tDInC X.prog X.w ty td):=by
 intro pins s σ H Q I h
 refine thn (hi pins s σ H _ I h) fun iv s1 ⟨y,H1,I1,ry,q1⟩=>thn (ho pins s1 σ H1 _ I1 q1) fun u s2 ⟨x,H2,I2,rx,d,ex,a,ey,ks,cl,hd,all,hc,nd,q2⟩=>?_
 subst ex ey
 cases rx
 cases ry
 have obj:ObjOk X.prog X.w H2 s2.heap d (DCl X.prog X.w d ks):=by
  rcases hd with hd | ⟨ob,hd⟩
  ·exact I2.hok d _ hd
  ·exact (show ObjOk X.prog X.w H2 s2.heap d (.frz ob (DCl X.prog X.w d ks)) from I2.hok d _ hd).2
 refine hide fun gG hG=>?_
 obtain ⟨lo,ob,es,ep,e1,e2,e3,e4⟩:=DCl.of obj
 refine hG ?_
 have dd:s2.heap.DictOfH (clKind X.prog X.w) d (keyT ks):=⟨ob,es,ep,e1,e2,e3,e4,fun x hx=>by
  obtain ⟨k,hk,rfl⟩:=List.mem_map.mp hx
  exact clH_of I2.hok (all k hk),by rw [keyT_fst];exact nd⟩
 refine wpAny_in_heap (knd:=clKind X.prog X.w) (show X.A.in1.units+1 < cLine by rw [Around.in1_units];lia) (clH_of I2.hok hc) lo dd ⟨.bl (decide (cl∈ks.map (·.1))),H2,I2.tok _,?_,q2⟩
 show Value.bool _=Value.bool _
 congr 1
 rw [Bool.eq_iff_iff,decide_eq_true_eq]
 unfold atKey
 rw [Option.isSome_map,List.find?_isSome]
 constructor
 ·rintro ⟨x,hx,ex⟩
  obtain ⟨k,hk,rfl⟩:=List.mem_map.mp hx
  exact List.mem_map.mpr ⟨k,hk,by simpa using ex⟩
 ·intro h
  obtain ⟨k,hk,e⟩:=List.mem_map.mp h
  exact ⟨(k.1,k.2,.bool true),List.mem_map.mpr ⟨k,hk,rfl⟩,by simpa using e⟩
def qEqNil:R2:=fun x y H Q=>∃a b,x=.ref a/\y=.ref b/\∃xs,H a=some (.lst xs)/\H b=some (.lst [])/\Q (.bl (decide (xs=[]))) H
theorem op_eqNil (hu:X.A.units+1 < cLine):OpR X (compareOp .Eq) qEqNil:=by
 intro pins s σ H x y v u Q I rx ry h
 refine hide fun gG hG=>?_
 obtain ⟨a,b,rfl,rfl,xs,h1,h2,q⟩:=h
 refine hG ?_
 cases rx;cases ry
 refine hide fun gG hG=>?_
 obtain ⟨us,r1,t1,_⟩:=I.list (sqL_of h1)
 obtain ⟨ws,r2,t2,_⟩:=I.list (sqL_of h2)
 refine hG ?_
 cases r2
 have l1:=r1.length
 cases xs with
 | nil=>
  cases r1
  exact SeqAt.eq_listAt (e:=fun _=>true) t1.isList t2.isList rfl (by lia) (fun j h1 h2=>absurd h1 (Nat.not_lt_zero _)) ⟨.bl true,H,I,rfl,q⟩
 | cons z zs=>exact SeqAt.RcAt.lists_lengths t1.isList t2.isList (by rw [List.size_toArray,<-l1];rfl) (by lia) _ _ _ _ ⟨.bl false,H,I,rfl,q⟩
theorem zpc_dinC {i o:Expr} {ty td:TE} (hu:X.A.units+64 < cLine) (hi:ZE X i ty) (ho:ZE X o td):ZC X .In i o (tDInC X.prog X.w ty td):=⟨pc_dinC hu hi.to ho.to⟩
end
end L2
end
namespace My
open PySem L2
def top (i:Nat):Stmt:=PySem.Challenge.pw_truceroll_k26_shortest_clauses.main.body.getD i (.Pass ⟨0,0,0,0⟩)
abbrev s_names_of:Stmt:=top 1
abbrev s_names_within:Stmt:=top 2
abbrev s_each_once_in_order:Stmt:=top 4
abbrev s_order_of:Stmt:=top 5
abbrev s_clauses_in_order:Stmt:=top 7
abbrev s_truth_of:Stmt:=top 9
abbrev s_truth_of_two:Stmt:=top 10
abbrev s_all_facts:Stmt:=top 11
abbrev s_with_fact:Stmt:=top 12
abbrev s_facts_for:Stmt:=top 14
abbrev s_shortest_of:Stmt:=top 15
abbrev s_following_over:Stmt:=top 16
abbrev s_has_shorter:Stmt:=top 17
abbrev s__law_hand:Stmt:=top 19
abbrev s__law_next:Stmt:=top 20
abbrev s__law_take:Stmt:=top 21
abbrev s__law_draw:Stmt:=top 22
abbrev s__law_names:Stmt:=top 23
abbrev s__law_rule:Stmt:=top 24
abbrev s__law_holds:Stmt:=top 25
abbrev s__law_names_of:Stmt:=top 26
abbrev s__law_all_facts:Stmt:=top 27
abbrev s__law_is_clause:Stmt:=top 28
abbrev s__law_stands:Stmt:=top 29
abbrev s__law_before:Stmt:=top 30
abbrev s__law_all_clauses:Stmt:=top 31
abbrev s__law_sits:Stmt:=top 32
abbrev s__law_shortest:Stmt:=top 33
abbrev s_law:Stmt:=top 34
abbrev nm_names_of:List Str:=["rule"]
abbrev nm_names_within:List Str:=["rule","names","part"]
abbrev nm_each_once_in_order:List Str:=["tuples","each","one"]
abbrev nm_order_of:List Str:=["one"]
abbrev nm_clauses_in_order:List Str:=["clauses"]
abbrev nm_truth_of:List Str:=["rule","facts","word"]
abbrev nm_truth_of_two:List Str:=["word","one","other"]
abbrev nm_all_facts:List Str:=["names","rows","name","longer","facts"]
abbrev nm_with_fact:List Str:=["facts","name","truth","more"]
abbrev nm_facts_for:List Str:=["rule"]
abbrev nm_shortest_of:List Str:=["rule","following"]
abbrev nm_following_over:List Str:=["names","rows","pairs","name","longer","clause","unmet","following"]
abbrev nm_has_shorter:List Str:=["clause","following","place"]
abbrev nm__law_hand:List Str:=["_law_script"]
abbrev nm__law_next:List Str:=["_law_hand_here"]
abbrev nm__law_take:List Str:=["_law_hand_here","_law_cell"]
abbrev nm__law_draw:List Str:=["_law_hand_here","_law_many","_law_got","_law_value","_law_size"]
abbrev nm__law_names:List Str:=["_law_hand_here","_law_many","_law_letters","_law_way","_law_some","_law_at","_law_word","_law_spot","_law_start","_law_names_here","_law_k","_law_sign","_law_name"]
abbrev nm__law_rule:List Str:=["_law_hand_here","_law_names_here","_law_deep","_law_way","_law_one"]
abbrev nm__law_holds:List Str:=["_law_rule_here","_law_facts","_law_word","_law_one","_law_other"]
abbrev nm__law_names_of:List Str:=["_law_rule_here","_law_names_here","_law_part"]
abbrev nm__law_all_facts:List Str:=["_law_names_here","_law_rows","_law_name","_law_more","_law_row","_law_truth","_law_one"]
abbrev nm__law_is_clause:List Str:=["_law_thing","_law_one"]
abbrev nm__law_stands:List Str:=["_law_clause","_law_facts","_law_name","_law_truth"]
abbrev nm__law_before:List Str:=["_law_one","_law_other","_law_k"]
abbrev nm__law_all_clauses:List Str:=["_law_names_here","_law_rows","_law_name","_law_more","_law_truth"]
abbrev nm__law_sits:List Str:=["_law_rows","_law_clause","_law_facts"]
abbrev nm__law_shortest:List Str:=["_law_rule_here","_law_names_here","_law_rows","_law_some","_law_told","_law_clause","_law_less","_law_at"]
abbrev nm_law:List Str:=["_law_script","_law_hand_here","_law_names_here","_law_rule_here","_law_due","_law_k","_law_told"]
structure Adr where
 a_names_of:Addr
 d_names_of:FuncData
 a_names_within:Addr
 d_names_within:FuncData
 a_each_once_in_order:Addr
 d_each_once_in_order:FuncData
 a_order_of:Addr
 d_order_of:FuncData
 a_clauses_in_order:Addr
 d_clauses_in_order:FuncData
 a_truth_of:Addr
 d_truth_of:FuncData
 a_truth_of_two:Addr
 d_truth_of_two:FuncData
 a_all_facts:Addr
 d_all_facts:FuncData
 a_with_fact:Addr
 d_with_fact:FuncData
 a_facts_for:Addr
 d_facts_for:FuncData
 a_shortest_of:Addr
 d_shortest_of:FuncData
 a_following_over:Addr
 d_following_over:FuncData
 a_has_shorter:Addr
 d_has_shorter:FuncData
 a__law_hand:Addr
 d__law_hand:FuncData
 a__law_next:Addr
 d__law_next:FuncData
 a__law_take:Addr
 d__law_take:FuncData
 a__law_draw:Addr
 d__law_draw:FuncData
 a__law_names:Addr
 d__law_names:FuncData
 a__law_rule:Addr
 d__law_rule:FuncData
 a__law_holds:Addr
 d__law_holds:FuncData
 a__law_names_of:Addr
 d__law_names_of:FuncData
 a__law_all_facts:Addr
 d__law_all_facts:FuncData
 a__law_is_clause:Addr
 d__law_is_clause:FuncData
 a__law_stands:Addr
 d__law_stands:FuncData
 a__law_before:Addr
 d__law_before:FuncData
 a__law_all_clauses:Addr
 d__law_all_clauses:FuncData
 a__law_sits:Addr
 d__law_sits:FuncData
 a__law_shortest:Addr
 d__law_shortest:FuncData
 a_law:Addr
 d_law:FuncData
structure Txt (K:PySem.W.Frag) (mg:Str->Option Value) (t:Adr):Prop where
 F_names_of:Fun K "names_of" "names_of" s_names_of t.a_names_of t.d_names_of
 b_names_of:Binds K t.d_names_of ["rule"] []
 m_names_of:mg "names_of" = some (.ref t.a_names_of)
 F_names_within:Fun K "names_within" "names_within" s_names_within t.a_names_within t.d_names_within
 b_names_within:Binds K t.d_names_within ["rule"] []
 m_names_within:mg "names_within" = some (.ref t.a_names_within)
 F_each_once_in_order:Fun K "each_once_in_order" "each_once_in_order" s_each_once_in_order t.a_each_once_in_order t.d_each_once_in_order
 b_each_once_in_order:Binds K t.d_each_once_in_order ["tuples"] []
 m_each_once_in_order:mg "each_once_in_order" = some (.ref t.a_each_once_in_order)
 F_order_of:Fun K "order_of" "order_of" s_order_of t.a_order_of t.d_order_of
 b_order_of:Binds K t.d_order_of ["one"] []
 m_order_of:mg "order_of" = some (.ref t.a_order_of)
 F_clauses_in_order:Fun K "clauses_in_order" "clauses_in_order" s_clauses_in_order t.a_clauses_in_order t.d_clauses_in_order
 b_clauses_in_order:Binds K t.d_clauses_in_order ["clauses"] []
 m_clauses_in_order:mg "clauses_in_order" = some (.ref t.a_clauses_in_order)
 F_truth_of:Fun K "truth_of" "truth_of" s_truth_of t.a_truth_of t.d_truth_of
 b_truth_of:Binds K t.d_truth_of ["rule","facts"] []
 m_truth_of:mg "truth_of" = some (.ref t.a_truth_of)
 F_truth_of_two:Fun K "truth_of_two" "truth_of_two" s_truth_of_two t.a_truth_of_two t.d_truth_of_two
 b_truth_of_two:Binds K t.d_truth_of_two ["word","one","other"] []
 m_truth_of_two:mg "truth_of_two" = some (.ref t.a_truth_of_two)
 F_all_facts:Fun K "all_facts" "all_facts" s_all_facts t.a_all_facts t.d_all_facts
 b_all_facts:Binds K t.d_all_facts ["names"] []
 m_all_facts:mg "all_facts" = some (.ref t.a_all_facts)
 F_with_fact:Fun K "with_fact" "with_fact" s_with_fact t.a_with_fact t.d_with_fact
 b_with_fact:Binds K t.d_with_fact ["facts","name","truth"] []
 m_with_fact:mg "with_fact" = some (.ref t.a_with_fact)
 F_facts_for:Fun K "facts_for" "facts_for" s_facts_for t.a_facts_for t.d_facts_for
 b_facts_for:Binds K t.d_facts_for ["rule"] []
 m_facts_for:mg "facts_for" = some (.ref t.a_facts_for)
 F_shortest_of:Fun K "shortest_of" "shortest_of" s_shortest_of t.a_shortest_of t.d_shortest_of
 b_shortest_of:Binds K t.d_shortest_of ["rule"] []
 m_shortest_of:mg "shortest_of" = some (.ref t.a_shortest_of)
 F_following_over:Fun K "following_over" "following_over" s_following_over t.a_following_over t.d_following_over
 b_following_over:Binds K t.d_following_over ["names","rows"] []
 m_following_over:mg "following_over" = some (.ref t.a_following_over)
 F_has_shorter:Fun K "has_shorter" "has_shorter" s_has_shorter t.a_has_shorter t.d_has_shorter
 b_has_shorter:Binds K t.d_has_shorter ["clause","following"] []
 m_has_shorter:mg "has_shorter" = some (.ref t.a_has_shorter)
 F__law_hand:Fun K "_law_hand" "_law_hand" s__law_hand t.a__law_hand t.d__law_hand
 b__law_hand:Binds K t.d__law_hand ["_law_script"] []
 m__law_hand:mg "_law_hand" = some (.ref t.a__law_hand)
 F__law_next:Fun K "_law_next" "_law_next" s__law_next t.a__law_next t.d__law_next
 b__law_next:Binds K t.d__law_next ["_law_hand_here"] []
 m__law_next:mg "_law_next" = some (.ref t.a__law_next)
 F__law_take:Fun K "_law_take" "_law_take" s__law_take t.a__law_take t.d__law_take
 b__law_take:Binds K t.d__law_take ["_law_hand_here"] []
 m__law_take:mg "_law_take" = some (.ref t.a__law_take)
 F__law_draw:Fun K "_law_draw" "_law_draw" s__law_draw t.a__law_draw t.d__law_draw
 b__law_draw:Binds K t.d__law_draw ["_law_hand_here","_law_many"] []
 m__law_draw:mg "_law_draw" = some (.ref t.a__law_draw)
 F__law_names:Fun K "_law_names" "_law_names" s__law_names t.a__law_names t.d__law_names
 b__law_names:Binds K t.d__law_names ["_law_hand_here","_law_many"] []
 m__law_names:mg "_law_names" = some (.ref t.a__law_names)
 F__law_rule:Fun K "_law_rule" "_law_rule" s__law_rule t.a__law_rule t.d__law_rule
 b__law_rule:Binds K t.d__law_rule ["_law_hand_here","_law_names_here","_law_deep"] []
 m__law_rule:mg "_law_rule" = some (.ref t.a__law_rule)
 F__law_holds:Fun K "_law_holds" "_law_holds" s__law_holds t.a__law_holds t.d__law_holds
 b__law_holds:Binds K t.d__law_holds ["_law_rule_here","_law_facts"] []
 m__law_holds:mg "_law_holds" = some (.ref t.a__law_holds)
 F__law_names_of:Fun K "_law_names_of" "_law_names_of" s__law_names_of t.a__law_names_of t.d__law_names_of
 b__law_names_of:Binds K t.d__law_names_of ["_law_rule_here"] []
 m__law_names_of:mg "_law_names_of" = some (.ref t.a__law_names_of)
 F__law_all_facts:Fun K "_law_all_facts" "_law_all_facts" s__law_all_facts t.a__law_all_facts t.d__law_all_facts
 b__law_all_facts:Binds K t.d__law_all_facts ["_law_names_here"] []
 m__law_all_facts:mg "_law_all_facts" = some (.ref t.a__law_all_facts)
 F__law_is_clause:Fun K "_law_is_clause" "_law_is_clause" s__law_is_clause t.a__law_is_clause t.d__law_is_clause
 b__law_is_clause:Binds K t.d__law_is_clause ["_law_thing"] []
 m__law_is_clause:mg "_law_is_clause" = some (.ref t.a__law_is_clause)
 F__law_stands:Fun K "_law_stands" "_law_stands" s__law_stands t.a__law_stands t.d__law_stands
 b__law_stands:Binds K t.d__law_stands ["_law_clause","_law_facts"] []
 m__law_stands:mg "_law_stands" = some (.ref t.a__law_stands)
 F__law_before:Fun K "_law_before" "_law_before" s__law_before t.a__law_before t.d__law_before
 b__law_before:Binds K t.d__law_before ["_law_one","_law_other"] []
 m__law_before:mg "_law_before" = some (.ref t.a__law_before)
 F__law_all_clauses:Fun K "_law_all_clauses" "_law_all_clauses" s__law_all_clauses t.a__law_all_clauses t.d__law_all_clauses
 b__law_all_clauses:Binds K t.d__law_all_clauses ["_law_names_here"] []
 m__law_all_clauses:mg "_law_all_clauses" = some (.ref t.a__law_all_clauses)
 F__law_sits:Fun K "_law_sits" "_law_sits" s__law_sits t.a__law_sits t.d__law_sits
 b__law_sits:Binds K t.d__law_sits ["_law_rows","_law_clause"] []
 m__law_sits:mg "_law_sits" = some (.ref t.a__law_sits)
 F__law_shortest:Fun K "_law_shortest" "_law_shortest" s__law_shortest t.a__law_shortest t.d__law_shortest
 b__law_shortest:Binds K t.d__law_shortest ["_law_rule_here"] []
 m__law_shortest:mg "_law_shortest" = some (.ref t.a__law_shortest)
 F_law:Fun K "law" "law" s_law t.a_law t.d_law
 b_law:Binds K t.d_law ["_law_script"] []
 m_law:mg "law" = some (.ref t.a_law)
 z_abs:mg "abs" = none
 z_all:mg "all" = none
 z_any:mg "any" = none
 z_bool:mg "bool" = none
 z_dict:mg "dict" = none
 z_isinstance:mg "isinstance" = none
 z_len:mg "len" = none
 z_list:mg "list" = none
 z_range:mg "range" = none
 z_set:mg "set" = none
 z_sorted:mg "sorted" = none
 z_str:mg "str" = none
 z_tuple:mg "tuple" = none
theorem sc_names_of:FnScope nm_names_of ["rule"] (defScope s_names_of):=⟨rfl,rfl,rfl,by decide +kernel,rfl,by decide +kernel,by decide +kernel⟩
theorem sc_names_within:FnScope nm_names_within ["rule"] (defScope s_names_within):=⟨rfl,rfl,rfl,by decide +kernel,rfl,by decide +kernel,by decide +kernel⟩
theorem sc_each_once_in_order:FnScope nm_each_once_in_order ["tuples"] (defScope s_each_once_in_order):=⟨rfl,rfl,rfl,by decide +kernel,rfl,by decide +kernel,by decide +kernel⟩
theorem sc_order_of:FnScope nm_order_of ["one"] (defScope s_order_of):=⟨rfl,rfl,rfl,by decide +kernel,rfl,by decide +kernel,by decide +kernel⟩
theorem sc_clauses_in_order:FnScope nm_clauses_in_order ["clauses"] (defScope s_clauses_in_order):=⟨rfl,rfl,rfl,by decide +kernel,rfl,by decide +kernel,by decide +kernel⟩
theorem sc_truth_of:FnScope nm_truth_of ["rule","facts"] (defScope s_truth_of):=⟨rfl,rfl,rfl,by decide +kernel,rfl,by decide +kernel,by decide +kernel⟩
theorem sc_truth_of_two:FnScope nm_truth_of_two ["word","one","other"] (defScope s_truth_of_two):=⟨rfl,rfl,rfl,by decide +kernel,rfl,by decide +kernel,by decide +kernel⟩
theorem sc_all_facts:FnScope nm_all_facts ["names"] (defScope s_all_facts):=⟨rfl,rfl,rfl,by decide +kernel,rfl,by decide +kernel,by decide +kernel⟩
theorem sc_with_fact:FnScope nm_with_fact ["facts","name","truth"] (defScope s_with_fact):=⟨rfl,rfl,rfl,by decide +kernel,rfl,by decide +kernel,by decide +kernel⟩
theorem sc_facts_for:FnScope nm_facts_for ["rule"] (defScope s_facts_for):=⟨rfl,rfl,rfl,by decide +kernel,rfl,by decide +kernel,by decide +kernel⟩
theorem sc_shortest_of:FnScope nm_shortest_of ["rule"] (defScope s_shortest_of):=⟨rfl,rfl,rfl,by decide +kernel,rfl,by decide +kernel,by decide +kernel⟩
theorem sc_following_over:FnScope nm_following_over ["names","rows"] (defScope s_following_over):=⟨rfl,rfl,rfl,by decide +kernel,rfl,by decide +kernel,by decide +kernel⟩
theorem sc_has_shorter:FnScope nm_has_shorter ["clause","following"] (defScope s_has_shorter):=⟨rfl,rfl,rfl,by decide +kernel,rfl,by decide +kernel,by decide +kernel⟩
theorem sc__law_hand:FnScope nm__law_hand ["_law_script"] (defScope s__law_hand):=⟨rfl,rfl,rfl,by decide +kernel,rfl,by decide +kernel,by decide +kernel⟩
theorem sc__law_next:FnScope nm__law_next ["_law_hand_here"] (defScope s__law_next):=⟨rfl,rfl,rfl,by decide +kernel,rfl,by decide +kernel,by decide +kernel⟩
theorem sc__law_take:FnScope nm__law_take ["_law_hand_here"] (defScope s__law_take):=⟨rfl,rfl,rfl,by decide +kernel,rfl,by decide +kernel,by decide +kernel⟩
theorem sc__law_draw:FnScope nm__law_draw ["_law_hand_here","_law_many"] (defScope s__law_draw):=⟨rfl,rfl,rfl,by decide +kernel,rfl,by decide +kernel,by decide +kernel⟩
theorem sc__law_names:FnScope nm__law_names ["_law_hand_here","_law_many"] (defScope s__law_names):=⟨rfl,rfl,rfl,by decide +kernel,rfl,by decide +kernel,by decide +kernel⟩
theorem sc__law_rule:FnScope nm__law_rule ["_law_hand_here","_law_names_here","_law_deep"] (defScope s__law_rule):=⟨rfl,rfl,rfl,by decide +kernel,rfl,by decide +kernel,by decide +kernel⟩
theorem sc__law_holds:FnScope nm__law_holds ["_law_rule_here","_law_facts"] (defScope s__law_holds):=⟨rfl,rfl,rfl,by decide +kernel,rfl,by decide +kernel,by decide +kernel⟩
theorem sc__law_names_of:FnScope nm__law_names_of ["_law_rule_here"] (defScope s__law_names_of):=⟨rfl,rfl,rfl,by decide +kernel,rfl,by decide +kernel,by decide +kernel⟩
theorem sc__law_all_facts:FnScope nm__law_all_facts ["_law_names_here"] (defScope s__law_all_facts):=⟨rfl,rfl,rfl,by decide +kernel,rfl,by decide +kernel,by decide +kernel⟩
theorem sc__law_is_clause:FnScope nm__law_is_clause ["_law_thing"] (defScope s__law_is_clause):=⟨rfl,rfl,rfl,by decide +kernel,rfl,by decide +kernel,by decide +kernel⟩
theorem sc__law_stands:FnScope nm__law_stands ["_law_clause","_law_facts"] (defScope s__law_stands):=⟨rfl,rfl,rfl,by decide +kernel,rfl,by decide +kernel,by decide +kernel⟩
theorem sc__law_before:FnScope nm__law_before ["_law_one","_law_other"] (defScope s__law_before):=⟨rfl,rfl,rfl,by decide +kernel,rfl,by decide +kernel,by decide +kernel⟩
theorem sc__law_all_clauses:FnScope nm__law_all_clauses ["_law_names_here"] (defScope s__law_all_clauses):=⟨rfl,rfl,rfl,by decide +kernel,rfl,by decide +kernel,by decide +kernel⟩
theorem sc__law_sits:FnScope nm__law_sits ["_law_rows","_law_clause"] (defScope s__law_sits):=⟨rfl,rfl,rfl,by decide +kernel,rfl,by decide +kernel,by decide +kernel⟩
theorem sc__law_shortest:FnScope nm__law_shortest ["_law_rule_here"] (defScope s__law_shortest):=⟨rfl,rfl,rfl,by decide +kernel,rfl,by decide +kernel,by decide +kernel⟩
theorem sc_law:FnScope nm_law ["_law_script"] (defScope s_law):=⟨rfl,rfl,rfl,by decide +kernel,rfl,by decide +kernel,by decide +kernel⟩
def dsp__law_names_0:List Str:=[Str.ofString "is",Str.ofString "not",Str.ofString "and",Str.ofString "or",Str.ofString "then",Str.ofString "same",Str.ofString "yes",Str.ofString "no",Str.ofString "say",Str.ofString "fix",Str.ofString "isa",Str.ofString "nota",Str.ofString "a"]
theorem b_abs:bootBuiltins "abs" = some (.builtin "abs"):=by decide +kernel
theorem b_all:bootBuiltins "all" = some (.builtin "all"):=by decide +kernel
theorem b_any:bootBuiltins "any" = some (.builtin "any"):=by decide +kernel
theorem b_bool:bootBuiltins "bool" = some (.type "bool"):=by decide +kernel
theorem b_dict:bootBuiltins "dict" = some (.type "dict"):=by decide +kernel
theorem b_isinstance:bootBuiltins "isinstance" = some (.builtin "isinstance"):=by decide +kernel
theorem b_len:bootBuiltins "len" = some (.builtin "len"):=by decide +kernel
theorem b_list:bootBuiltins "list" = some (.type "list"):=by decide +kernel
theorem b_set:bootBuiltins "set" = some (.type "set"):=by decide +kernel
theorem b_sorted:bootBuiltins "sorted" = some (.builtin "sorted"):=by decide +kernel
theorem b_str:bootBuiltins "str" = some (.type "str"):=by decide +kernel
theorem b_tuple:bootBuiltins "tuple" = some (.type "tuple"):=by decide +kernel
def hv (l:Addr) (a b c d e:Int):HO:=.lst [.ref l,.int a,.int b,.int c,.int d,.int e]
def HdO (l:Addr) (o:HO):Prop:=∃a b c d e,o=hv l a b c d e/\0<=a
def spNext:Sp:=fun vs H Q _=>∃h,vs=[.ref h]/\∃l a b c d e,H h=some (hv l a b c d e)/\Q (.int (d * 48271 % 2147483647+e * 40693 % 2147483399)) (upd H h (hv l a b c (d * 48271 % 2147483647) (e * 40693 % 2147483399)))
def spTake:Sp:=fun vs H Q _=>∃h,vs=[.ref h]/\∃l ns o,H h=some o/\HdO l o/\H l=some (.lst (List.map V.int ns))/\∀o',HdO l o'->Q .non (upd H h o')
def spDraw:Sp:=fun vs H Q _=>∃h m,vs=[.ref h,.int m]/\1<=m/\m < 1073741824/\∃l ns o,H h=some o/\HdO l o/\H l=some (.lst (List.map V.int ns))/\∀r o',0<=r->r < m->HdO l o'->Q (.int r) (upd H h o')
local macro_rules | `(tactic| walk_at "rd") => `(tactic| walk_at "rc")
local macro_rules | `(tactic| walk_at "rl") => `(tactic| first | (refine seq_op fun R hR => ?_) | walk_at "ry" | (refine Nx.to (by assumption) _ _ ?_))
local macro_rules | `(tactic| walk_at "rc") => do
  let ids := ("L2.start tSeq tNext tIfS tTest tB tOp tUn tVar tC tAsg gName gSub tRet tRetN tDrop tCall tCons tNil tCB tTxtsL tDNewK tLst tTup rI0 rI rU rEq rNe scal tAugS ipI qIxL qIxT qIxS qSlL qSlT qLenL qLenT qListL qListT qTupleL qListD qDictD qSorted qSetS qSortSet qAllB qEqD qJoin qInL qInT qEqL qIsi qSet tSl tPart tNoPart rSlS tBM tBM0 rAppend rExtend rCat tAnd tOr tNot tAndV tOrV tNotV tIf List.map_cons List.map_nil List.cons_append List.nil_append List.append_nil List.length_cons List.length_nil List.replicate List.getElem?_cons_zero List.getElem?_cons_succ List.set_cons_zero List.set_cons_succ Nat.reduceAdd Nat.reduceSub Nat.reduceLeDiff Option.some.injEq V.int.injEq V.ref.injEq V.str.injEq V.bl.injEq V.ty.injEq List.cons.injEq HO.lst.injEq HO.tup.injEq HO.dK.injEq exists_eq_left exists_eq_left' exists_and_left and_true true_and and_assoc exists_const reduceCtorEq upd_same upd_upd decide_eq_true_eq List.length_map ite_true ite_false Bool.false_eq_true Bool.true_and Bool.and_true atI_0 atI_1 atI_2 atI_3 atI_4 atI_5 ixN6_1 ixN6_2 ixN6_3 ixN6_4 ixN6_5 cmul1 cmul2 cmul3 cmul4 cmul5a cmul5b cmul5c cmul5d cpow18 subS Option.join_some Option.join_none tComp_eq tFor_eq iRng1 iRng2 iRng3 qCatT iList iTup tyV_str tYes Int.zero_add Int.reduceMul Int.reduceAdd Int.reduceSub Int.reduceLT Int.reduceLE Int.reducePow Int.reduceToNat Int.reduceNeg gt_iff_lt ge_iff_le spNext hv tPar qInP tDNewC sDPutC tSortC iDictC tDInC qEqNil HO.ext.injEq qAnyB rInsert rClear qEqLC tAug".splitOn " ").toArray.map fun x => Lean.mkIdent x.toName
  `(tactic| simp only [$[$ids:ident],*])
local macro_rules | `(tactic| walk_at "ry") => do
  let ids := ("L2.start tNext tIfS tTest tB tOp tUn tVar tC tAsg gName gSub tRet tRetN tDrop tCall tCons tNil tCB tTxtsL tDNewK tLst tTup rI0 rI rU rEq rNe scal tAugS ipI qIxL qIxT qIxS qSlL qSlT qLenL qLenT qListL qListT qTupleL qListD qDictD qSorted qSetS qSortSet qAllB qEqD qJoin qInL qInT qEqL qIsi qSet tSl tPart tNoPart rSlS tBM tBM0 rAppend rExtend rCat tAnd tOr tNot tAndV tOrV tNotV tIf List.map_cons List.map_nil List.cons_append List.nil_append List.append_nil List.length_cons List.length_nil List.replicate List.getElem?_cons_zero List.getElem?_cons_succ List.set_cons_zero List.set_cons_succ Nat.reduceAdd Nat.reduceSub Nat.reduceLeDiff Option.some.injEq V.int.injEq V.ref.injEq V.str.injEq V.bl.injEq V.ty.injEq List.cons.injEq HO.lst.injEq HO.tup.injEq HO.dK.injEq exists_eq_left exists_eq_left' exists_and_left and_true true_and and_assoc exists_const reduceCtorEq upd_same upd_upd decide_eq_true_eq List.length_map ite_true ite_false Bool.false_eq_true Bool.true_and Bool.and_true atI_0 atI_1 atI_2 atI_3 atI_4 atI_5 ixN6_1 ixN6_2 ixN6_3 ixN6_4 ixN6_5 cmul1 cmul2 cmul3 cmul4 cmul5a cmul5b cmul5c cmul5d cpow18 subS Option.join_some Option.join_none tComp_eq tFor_eq iRng1 iRng2 iRng3 qCatT iList iTup tyV_str tYes Int.zero_add Int.reduceMul Int.reduceAdd Int.reduceSub Int.reduceLT Int.reduceLE Int.reducePow Int.reduceToNat Int.reduceNeg gt_iff_lt ge_iff_le spNext hv tPar qInP tDNewC sDPutC tSortC iDictC tDInC qEqNil HO.ext.injEq qAnyB rInsert rClear qEqLC tAug".splitOn " ").toArray.map fun x => Lean.mkIdent x.toName
  `(tactic| simp only [$[$ids:ident],*])
section
variable {P:Program} {w:World} {K:PySem.W.Frag} {mg:Str->Option Value} {base:Heap} {t:Adr}
theorem ok_next (T:Txt K mg t):FnOk P w K mg base CX0 1 t.a__law_next t.d__law_next ["_law_hand_here"] spNext:=by
 refine T.F__law_next.okZ sc__law_next (fun vs H Q E h=>?_) (fun cdv A outer s H vs Q E hr h hc hf=>?_)
 ·obtain ⟨h,rfl,_⟩:=h;rfl
 obtain ⟨h,rfl,l,a,b,c,d,e,hh,q⟩:=h
 refine ⟨_,(by apply zqss_cons;exact (zps_asg (zpe_op op_mod (zpe_op op_mul (zpe_ix ix_l (zpvk hc 0 (by decide +kernel)) zpe_int (fun _ _=>rfl)) zpe_int) zpe_int) (zpg_sub (zpvk hc 0 (by decide +kernel)) zpe_int set_l));apply zqss_cons;exact (zps_asg (zpe_op op_mod (zpe_op op_mul (zpe_ix ix_l (zpvk hc 0 (by decide +kernel)) zpe_int (fun _ _=>rfl)) zpe_int) zpe_int) (zpg_sub (zpvk hc 0 (by decide +kernel)) zpe_int set_l));exact zqss_one (zps_ret (zpe_op op_add (zpe_ix ix_l (zpvk hc 0 (by decide +kernel)) zpe_int (fun _ _=>rfl)) (zpe_ix ix_l (zpvk hc 0 (by decide +kernel)) zpe_int (fun _ _=>rfl))))),?_⟩
 unfold hv at *
 walk_at "rd"
 simp only [hh]
 walk_at "rd"
 exact q
theorem ok_take (T:Txt K mg t):FnOk P w K mg base CX0 2 t.a__law_take t.d__law_take ["_law_hand_here"] spTake:=by
 have G__law_next:=ok_next (P:=P) (w:=w) (base:=base) T
 refine T.F__law_take.okZ sc__law_take (fun vs H Q E h=>?_) (fun cdv A outer s H vs Q E hr h hc hf=>?_)
 ·obtain ⟨h,rfl,_⟩:=h;rfl
 obtain ⟨h,rfl,l,ns,o,hh,⟨a,b,c,d,e,rfl,ha⟩,hl,q⟩:=h
 refine ⟨_,(by apply zqss_cons;exact (zpsk_set hc sc__law_take.nd hf 1 (by decide +kernel) zpe_int);apply zqss_cut;exact (zqs_if (zpt_cmpR op_lt (zpe_ix ix_l (zpvk hc 0 (by decide +kernel)) zpe_int (fun _ _=>rfl)) (zpe_callB call_lenL (glk hc (by decide +kernel)) T.z_len b_len (zpa_cons (zpe_ix ix_l (zpvk hc 0 (by decide +kernel)) zpe_int (fun _ _=>rfl)) zpa_nil)) (nomark _)) (by exact zqss_one (zpsk_set hc sc__law_take.nd hf 1 (by decide +kernel) (zpe_callB call_abs (glk hc (by decide +kernel)) T.z_abs b_abs (zpa_cons (zpe_ix ix_l (zpe_ix ix_l (zpvk hc 0 (by decide +kernel)) zpe_int (fun _ _=>rfl)) (zpe_ix ix_l (zpvk hc 0 (by decide +kernel)) zpe_int (fun _ _=>rfl)) (fun _ _=>rfl)) zpa_nil)))) zqss_nil);apply zqss_cons;exact (zps_augS (zpvk hc 0 (by decide +kernel)) zpe_int get_l zpe_int ip_add set_l);apply zqss_cut;exact (zqs_if (zpt_cmpR op_ge (zpvk hc 1 (by decide +kernel)) (zpe_op op_pow zpe_int zpe_int) (nomark _)) (by exact zqss_one (zps_asg (zpvk hc 1 (by decide +kernel)) (zpg_sub (zpvk hc 0 (by decide +kernel)) zpe_int set_l))) (by exact zqss_one (zps_asg zpe_int (zpg_sub (zpvk hc 0 (by decide +kernel)) zpe_int set_l))));apply zqss_cons;exact (zps_asg (zpe_op op_add (zpe_op op_mod (zpe_op op_add (zpe_ix ix_l (zpvk hc 0 (by decide +kernel)) zpe_int (fun _ _=>rfl)) (zpe_op op_mod (zpvk hc 1 (by decide +kernel)) zpe_int)) zpe_int) zpe_int) (zpg_sub (zpvk hc 0 (by decide +kernel)) zpe_int set_l));apply zqss_cons;exact (zps_asg (zpe_op op_add (zpe_op op_mod (zpe_op op_add (zpe_op op_mul (zpe_ix ix_l (zpvk hc 0 (by decide +kernel)) zpe_int (fun _ _=>rfl)) zpe_int) (zpe_op op_mod (zpvk hc 1 (by decide +kernel)) zpe_int)) zpe_int) zpe_int) (zpg_sub (zpvk hc 0 (by decide +kernel)) zpe_int set_l));apply zqss_cons;exact (zps_expr (zpe_call G__law_next (hr.mono (by omega)) (glk hc (by decide +kernel)) T.m__law_next T.F__law_next.kp T.b__law_next .nil pass0 (zpa_cons (zpvk hc 0 (by decide +kernel)) zpa_nil)));exact zqss_one (zps_expr (zpe_call G__law_next (hr.mono (by omega)) (glk hc (by decide +kernel)) T.m__law_next T.F__law_next.kp T.b__law_next .nil pass0 (zpa_cons (zpvk hc 0 (by decide +kernel)) zpa_nil)))),?_⟩
 unfold hv at *
 walk_at "rd"
 refine ⟨fun σ' H'=>∃z,σ'=[some (.ref h),some (.int z)]/\H'=H,?_,?_⟩
 ·repeat (first | walk_at "rd" | simp only [hh,hl])
  split
  ·rename_i hlt
   obtain ⟨v,hv'⟩:=atI_ints ha hlt
   rw [hv']
   walk_at "rd"
   exact ⟨_,rfl⟩
  ·exact ⟨_,rfl⟩
 ·rintro σ' H' ⟨z,e1,e2⟩
  subst e1 e2
  repeat (first | walk_at "rd" | simp only [hh,hl])
  refine ⟨fun σ' H''=>∃b' c',σ'=[some (.ref h),some (.int z)]/\H''=upd H' h (.lst [.ref l,.int (a+1),.int b',.int c',.int d,.int e]),?_,?_⟩
  ·repeat (first | walk_at "rd" | simp only [hh,hl])
   split
   ·exact ⟨_,_,rfl⟩
   ·exact ⟨_,_,rfl⟩
  ·rintro σ' H'' ⟨b',c',e1,e2⟩
   subst e1 e2
   repeat (first | walk_at "rd" | simp only [hh,hl])
   exact q _ ⟨_,_,_,_,_,rfl,by lia⟩
theorem ok_draw (T:Txt K mg t):FnOk P w K mg base CX0 3 t.a__law_draw t.d__law_draw ["_law_hand_here","_law_many"] spDraw:=by
 have G__law_next:=ok_next (P:=P) (w:=w) (base:=base) T
 have G__law_take:=ok_take (P:=P) (w:=w) (base:=base) T
 refine T.F__law_draw.okZ sc__law_draw (fun vs H Q E h=>?_) (fun cdv A outer s H vs Q E hr h hc hf=>?_)
 ·obtain ⟨h,m,rfl,_⟩:=h;rfl
 obtain ⟨h,m,rfl,hm,hm2,l,ns,o,hh,⟨a,b,c,d,e,rfl,ha⟩,hl,q⟩:=h
 refine ⟨_,(by apply zqss_cut;exact (zqs_if (zPWpt (zpw_and (zpt_cmpR op_eq (zpe_ix ix_l (zpvk hc 0 (by decide +kernel)) zpe_int (fun _ _=>rfl)) zpe_int (nomark _)) (zpw_and1 (zpt_cmpR op_eq (zpe_ix ix_l (zpvk hc 0 (by decide +kernel)) zpe_int (fun _ _=>rfl)) zpe_int (nomark _))))) (by exact zqss_one (zps_expr (zpe_call G__law_take (hr.mono (by omega)) (glk hc (by decide +kernel)) T.m__law_take T.F__law_take.kp T.b__law_take .nil pass0 (zpa_cons (zpvk hc 0 (by decide +kernel)) zpa_nil)))) zqss_nil);apply zqss_cons;exact (zqs_if (zpt_cmpR op_gt (zpe_ix ix_l (zpvk hc 0 (by decide +kernel)) zpe_int (fun _ _=>rfl)) zpe_int (nomark _)) (by apply zqss_cons;exact (zpsk_set hc sc__law_draw.nd hf 2 (by decide +kernel) (zpe_op op_mod (zpe_ix ix_l (zpvk hc 0 (by decide +kernel)) zpe_int (fun _ _=>rfl)) (zpvk hc 1 (by decide +kernel))));apply zqss_cons;exact (zps_asg (zpe_op op_fdiv (zpe_ix ix_l (zpvk hc 0 (by decide +kernel)) zpe_int (fun _ _=>rfl)) (zpvk hc 1 (by decide +kernel))) (zpg_sub (zpvk hc 0 (by decide +kernel)) zpe_int set_l));exact zqss_one (zps_ret (zpvk hc 2 (by decide +kernel)))) zqss_nil);apply zqss_cons;exact (zps_augS (zpvk hc 0 (by decide +kernel)) zpe_int get_l zpe_int ip_sub set_l);apply zqss_cons;exact (zpsk_set hc sc__law_draw.nd hf 3 (by decide +kernel) (zpe_call G__law_next (hr.mono (by omega)) (glk hc (by decide +kernel)) T.m__law_next T.F__law_next.kp T.b__law_next .nil pass0 (zpa_cons (zpvk hc 0 (by decide +kernel)) zpa_nil)));apply zqss_cons;exact (zpsk_set hc sc__law_draw.nd hf 4 (by decide +kernel) zpe_int);apply zqss_cons;exact (zqs_while PassesOwn.never (zpt_cmpR op_lt (zpvk hc 4 (by decide +kernel)) (zpvk hc 1 (by decide +kernel)) (nomark _)) (by apply zqss_cons;exact (zpsk_set hc sc__law_draw.nd hf 3 (by decide +kernel) (zpe_op op_add (zpe_op op_mul (zpvk hc 3 (by decide +kernel)) zpe_int) (zpe_call G__law_next (hr.mono (by omega)) (glk hc (by decide +kernel)) T.m__law_next T.F__law_next.kp T.b__law_next .nil pass0 (zpa_cons (zpvk hc 0 (by decide +kernel)) zpa_nil))));exact zqss_one (zpsk_set hc sc__law_draw.nd hf 4 (by decide +kernel) (zpe_op op_mul (zpvk hc 4 (by decide +kernel)) zpe_int))));exact zqss_one (zps_ret (zpe_op op_mod (zpvk hc 3 (by decide +kernel)) (zpvk hc 1 (by decide +kernel))))),?_⟩
 unfold hv at *
 walk_at "rd"
 refine ⟨fun σ' H'=>∃a b c d e,σ'=[some (.ref h),some (.int m),none,none,none]/\H'=upd H h (hv l a b c d e)/\0<=a,?_,?_⟩
 ·have same:H=upd H h (hv l a b c d e):=by
   funext x;unfold upd;split
   ·rename_i e;rw [e,hh];rfl
   ·rfl
  repeat (first | walk_at "rd" | simp only [hh,hl])
  by_cases hb:b=0
  ·by_cases hc:c=0
   ·simp only [hb,hc,if_true]
    repeat (first | walk_at "rd" | simp only [hh,hl])
    refine ⟨h,rfl,l,ns,_,hh,⟨a,b,c,d,e,by rw [hb,hc];rfl,ha⟩,hl,?_⟩
    rintro o' ⟨a',b',c',d',e',rfl,ha'⟩
    exact ⟨a',b',c',d',e',rfl,ha'⟩
   ·simp only [hb,hc,if_true,if_false,Bool.false_eq_true]
    exact ⟨a,b,c,d,e,same,ha⟩
  ·simp only [hb,if_false,Bool.false_eq_true]
   exact ⟨a,b,c,d,e,same,ha⟩
 ·rintro σ' H' ⟨a,b,c,d,e,e1,e2,ha⟩
  subst e1 e2
  repeat (first | walk_at "rd" | simp only [hh,hl])
  split
  ·rename_i hb
   refine ⟨by lia,⟨by lia,hm2⟩,q _ _ (Int.emod_nonneg _ (by lia)) (Int.emod_lt_of_pos _ (by lia)) ⟨_,_,_,_,_,rfl,ha⟩⟩
  ·rename_i hb
   refine ⟨fun _ σ' H'=>σ'=_/\H'=_,⟨0,rfl,rfl⟩,?_⟩
   rintro _ σ' H' ⟨e1,e2⟩
   subst e1 e2
   walk_at "rd"
   have hno:¬((4294967296:Int) < m):=by lia
   simp only [hno,if_false]
   refine ⟨by lia,q _ _ (Int.emod_nonneg _ (by lia)) (Int.emod_lt_of_pos _ (by lia)) ⟨_,_,_,_,_,rfl,ha⟩⟩
end
local macro_rules | `(tactic| walk_at "rd") => `(tactic| walk_at "rc")
local macro_rules | `(tactic| walk_at "rl") => `(tactic| first | (refine seq_op fun R hR => ?_) | walk_at "ry" | (refine Nx.to (by assumption) _ _ ?_))
def Hd (H:Hp) (h l:Addr):Prop:=∃ns o,H h=some o/\HdO l o/\H l=some (.lst (List.map V.int ns))
def HandAt (H:Hp) (h:Addr):Prop:=∃l,Hd H h l
structure Dr (h:Addr) (H H':Hp):Prop where
 keep:∀b o,b≠h->H b=some o->H' b=some o
 hand:∀l,Hd H h l->Hd H' h l
theorem Dr.refl {h:Addr} {H:Hp}:Dr h H H:=⟨fun _ _ _ e=>e,fun _ x=>x⟩
theorem Dr.trans {h:Addr} {H H1 H2:Hp} (a:Dr h H H1) (b:Dr h H1 H2):Dr h H H2:=⟨fun c o hc e=>b.keep c o hc (a.keep c o hc e),fun l x=>b.hand l (a.hand l x)⟩
theorem Dr.handAt {h:Addr} {H H1:Hp} (a:Dr h H H1) (x:HandAt H h):HandAt H1 h:=let ⟨l,y⟩:=x;⟨l,a.hand l y⟩
theorem Hd.apart {H:Hp} {h l:Addr} (x:Hd H h l):l≠h:=by
 obtain ⟨ns,o,e1,⟨a,b,c,d,e,rfl,_⟩,e3⟩:=x
 intro z
 rw [z,e1] at e3
 have q:=Option.some.inj e3
 unfold hv at q
 injection q with q
 match ns,q with
 | [],q=>cases q
 | n::_,q=>injection q with q1 _;cases q1
theorem Dr.new {h p:Addr} {H H1:Hp} {o:HO} (a:Dr h H H1) (hp:H1 p=none):Dr h H (upd H1 p o):=by
 refine ⟨fun c o' hc e=>?_,fun l x=>?_⟩
 ·rw [upd_ne (ne_of_none (a.keep c o' hc e) hp)];exact a.keep c o' hc e
 ·obtain ⟨ns,oh,e1,e2,e3⟩:=a.hand l x
  exact ⟨ns,oh,by rw [upd_ne (ne_of_none e1 hp)];exact e1,e2,by rw [upd_ne (ne_of_none e3 hp)];exact e3⟩
theorem Dr.put {h p:Addr} {H H1:Hp} {o':HO} (a:Dr h H H1) (hn:H p=none):Dr h H (upd H1 p o'):=by
 refine ⟨fun c o' hc e=>?_,fun l x=>?_⟩
 ·rw [upd_ne (ne_of_none e hn)];exact a.keep c o' hc e
 ·obtain ⟨ns,oh,e1,e2,e3⟩:=a.hand l x
  obtain ⟨_,_,f1,_,f3⟩:=x
  exact ⟨ns,oh,by rw [upd_ne (ne_of_none f1 hn)];exact e1,e2,by rw [upd_ne (ne_of_none f3 hn)];exact e3⟩
theorem HandAt.ne {h p:Addr} {H:Hp} (x:HandAt H h) (hp:H p=none):p≠h:=by
 obtain ⟨l,ns,oh,e1,_,_⟩:=x
 exact (ne_of_none e1 hp).symm
theorem Dr.free {h p:Addr} {H H1:Hp} (a:Dr h H H1) (x:HandAt H h) (hp:H1 p=none):H p=none:=by
 cases e:H p with
 | none=>rfl
 | some o=>
  have n:=(a.handAt x).ne hp
  have:=a.keep p o n e
  rw [hp] at this;cases this
theorem draw_by {h:Addr} {m:Int} {H0 H:Hp} {Q:VK} {E:XK} (hd:HandAt H0 h) (d:Dr h H0 H) (h1:1<=m) (h2:m < 1073741824) (q:∀r H',0<=r->r < m->Dr h H0 H'->(∀b,b≠h->H' b=H b)->Q (.int r) H'):spDraw [.ref h,.int m] H Q E:=by
 obtain ⟨l,x⟩:=hd
 have x':=d.hand l x
 have ap:=x'.apart
 obtain ⟨ns,oh,e1,e2,e3⟩:=x'
 refine ⟨h,m,rfl,h1,h2,l,ns,oh,e1,e2,e3,fun r o' r0 r1 ho=>q r _ r0 r1 ⟨fun c o hc e=>?_,fun l' x'=>?_⟩ (fun b hb=>upd_ne hb)⟩
 ·rw [upd_ne hc];exact d.keep c o hc e
 ·have y:=d.hand l' x'
  have ap':=y.apart
  obtain ⟨ns',oh',f1,f2,f3⟩:=y
  have el:l'=l:=by
   obtain ⟨a,b,c,d,e,rfl,_⟩:=e2
   obtain ⟨a',b',c',d',e',rfl,_⟩:=f2
   rw [e1] at f1
   have:=Option.some.inj f1
   unfold hv at this
   injection this with this
   injection this with this _
   exact (V.ref.inj this).symm
  subst el
  exact ⟨ns,o',upd_same,ho,by rw [upd_ne ap];exact e3⟩
theorem same_new {H:Hp} {p:Addr} (h:H p=none) (o:HO):Same H (upd H p o):=fun b u q=>by rw [upd_ne (ne_of_none q h)];exact q
theorem cutV_map {α:Type} (f:α->V) (xs:List α) (lo hi:Option Int):cutV (xs.map f) lo hi=((xs.drop (HT.sIx xs.length 0 lo)).take (HT.sIx xs.length xs.length hi - HT.sIx xs.length 0 lo)).map f:=by
 unfold cutV;rw [List.length_map,List.map_take,List.map_drop]
def spHand (K:PySem.W.Frag):Sp:=fun vs H Q _=>∃a ns,vs=[.ref a]/\SqL K H a (List.map V.int ns)/\∀h H',Same H H'->H h=none->HandAt H' h->Q (.ref h) H'
section
variable {P:Program} {w:World} {K:PySem.W.Frag} {mg:Str->Option Value} {base:Heap} {t:Adr}
theorem ok_hand (T:Txt K mg t):FnOk P w K mg base CX0 1 t.a__law_hand t.d__law_hand ["_law_script"] (spHand K):=by
 refine T.F__law_hand.okZ sc__law_hand (fun vs H Q E h=>?_) (fun cdv A outer s H vs Q E hr h hc hf=>?_)
 ·obtain ⟨a,ns,rfl,_⟩:=h;rfl
 obtain ⟨a,ns,rfl,hS,q⟩:=h
 refine ⟨_,(by exact zqss_one (zps_ret (zpe_lst (zpa_cons (zpe_callTy call_listL (glk hc (by decide +kernel)) T.z_list b_list (zpa_cons (zpe_slice sl_list (zpvk hc 0 (by decide +kernel)) zpo_none (zpo_some zpe_int)) zpa_nil)) (zpa_cons zpe_int (zpa_cons zpe_int (zpa_cons zpe_int (zpa_cons zpe_int (zpa_cons zpe_int zpa_nil))))))))),?_⟩
 walk_at "rd"
 refine ⟨a,List.map V.int ns,rfl,hS,fun p hp=>?_⟩
 rw [cutV_map]
 walk_at "rd"
 refine fun l hl=>⟨by decide,fun h hh=>?_⟩
 have s1:=same_new hp (.lst (List.map V.int ((ns.drop (HT.sIx ns.length 0 none)).take (HT.sIx ns.length ns.length (some 63) - HT.sIx ns.length 0 none))))
 have s2:=same_new hl (.lst (List.map V.int ((ns.drop (HT.sIx ns.length 0 none)).take (HT.sIx ns.length ns.length (some 63) - HT.sIx ns.length 0 none))))
 have s3:=same_new hh (hv l 0 0 0 20011 40009)
 exact q h _ (s1.trans (s2.trans s3)) ((s1.trans s2).free hh) ⟨l,_,_,upd_same,⟨_,_,_,_,_,rfl,Int.le_refl 0⟩,s3 _ _ upd_same⟩
end
local macro_rules | `(tactic| walk_at "rd") => `(tactic| walk_at "rc")
local macro_rules | `(tactic| walk_at "rl") => `(tactic| first | (refine seq_op fun R hR => ?_) | walk_at "ry" | (refine Nx.to (by assumption) _ _ ?_))
def spNames:Sp:=fun vs H Q _=>∃h m,vs=[.ref h,.int m]/\0<=m/\m<=8/\HandAt H h/\∀p ss H',Dr h H H'->H p=none->H' p=some (.lst (List.map V.str ss))->ss.length=m.toNat->ss.Nodup->(∀s∈ss,Nm s)->Q (.ref p) H'
def sgn (c:Nat):Str:=⟨#[c]⟩
theorem comp_word {h:Addr} {n:Nat} {σ:St} {H1:Hp} {Q:VK} (hd:HandAt H1 h) (h2:σ[2]? = some (some (.str (Str.ofString "abcdefghijklmnopqrstuvwxyz")))) (h0:σ[0]? = some (some (.ref h))) (hn:n<=100)
  (q:∀D (cs:List Nat) H',H1 D=none->Dr h H1 H'->H' D=some (.lst (List.map V.str (cs.map sgn)))->cs.length=n->(∀c∈cs,97<=c/\c<=122)->Q (.ref D) H') :
  CompAll (Itr 0 n) 1 [2,0] (fun _=>gName 0) (fun _=>tYes) (fun _=>tOp qIxS (tVar 1) (tCall spDraw [] E0 (tCons (tVar 2) (tCons (tC (V.int 26)) tNil)))) σ Q H1:=by
 refine compAll_rng (fun D i ys H=>∃cs:List Nat,ys=List.map V.str (cs.map sgn)/\cs.length=i/\(∀c∈cs,97<=c/\c<=122)/\Dr h H1 H/\H D=some (.lst ys)) (fun D hD=>⟨[],rfl,rfl,(fun _ z=>nomatch z),Dr.refl.new hD,upd_same⟩) (fun D hD i ys H hi p c=>?_) (fun D hD ys H p=>?_)
 ·obtain ⟨cs,rfl,hl,hc,d,hy⟩:=p
  walk_at "rc"
  repeat (first | walk_at "rl" | simp only [h0,h2,Option.join_some])
  refine draw_by hd d (by decide) (by decide) fun r H' r0 r1 d' k'=>?_
  walk_at "rl"
  refine ⟨by decide,?_⟩
  rw [atI_letters r0 r1]
  walk_at "rl"
  refine ⟨by rw [k' D (hd.ne hD)];exact hy,small1000 (by lia),cs++[97+r.toNat],by simp [sgn],by simp [hl],?_,d'.put hD⟩
  intro c hc'
  rcases List.mem_append.mp hc' with z | z
  ·exact hc c z
  ·rw [List.mem_singleton.mp z];lia
 ·obtain ⟨cs,rfl,hl,hc,d,hy⟩:=p
  exact q D cs H hD d hy hl hc
theorem join_word {cs:List Nat} (hn:cs.length<=100):JoinOk (Str.ofString "") (cs.map sgn)=true/\(Txt.join (Str.ofString "") (cs.map sgn)).cps.toList=cs:=by
 refine ⟨joinOk_of (L:=1) (n:=100) (fun z hz=>?_) (by simpa using hn) (by decide),?_⟩
 ·obtain ⟨c,_,rfl⟩:=List.mem_map.mp hz
  exact Nat.le_refl 1
 ·rw [glued_cps (show (Str.ofString "").cps = #[] by decide)]
  induction cs with
  | nil=>rfl
  | cons c cs ih=>rw [List.map_cons,List.map_cons,List.flatten_cons,ih (by simp at hn;lia)];rfl
section
variable {P:Program} {w:World} {K:PySem.W.Frag} {mg:Str->Option Value} {base:Heap} {t:Adr}
theorem ok_names (T:Txt K mg t):FnOk P w K mg base CX0 4 t.a__law_names t.d__law_names ["_law_hand_here","_law_many"] spNames:=by
 have G__law_draw:=ok_draw (P:=P) (w:=w) (base:=base) T
 refine T.F__law_names.okZ sc__law_names (fun vs H Q E h=>?_) (fun cdv A outer s H vs Q E hr h hc hf=>?_)
 ·obtain ⟨h,m,rfl,_⟩:=h;rfl
 obtain ⟨h,m,rfl,hm1,hm2,hd,q⟩:=h
 refine ⟨_,(by apply zqss_cons;exact (zpsk_set hc sc__law_names.nd hf 2 (by decide +kernel) zpe_str);apply zqss_cons;exact (zpsk_set hc sc__law_names.nd hf 3 (by decide +kernel) (zpe_call G__law_draw (hr.mono (by omega)) (glk hc (by decide +kernel)) T.m__law_draw T.F__law_draw.kp T.b__law_draw .nil pass0 (zpa_cons (zpvk hc 0 (by decide +kernel)) (zpa_cons zpe_int zpa_nil))));apply zqss_cons;exact (zqs_if (zpt_cmpR op_eq (zpvk hc 3 (by decide +kernel)) zpe_int (nomark _)) (by apply zqss_cons;exact (zpsk_set hc sc__law_names.nd hf 4 (by decide +kernel) (zpe_lst (zpa_txtsL dsp__law_names_0 (by decide +kernel))));apply zqss_cons;exact (zpsk_set hc sc__law_names.nd hf 5 (by decide +kernel) (zpe_call G__law_draw (hr.mono (by omega)) (glk hc (by decide +kernel)) T.m__law_draw T.F__law_draw.kp T.b__law_draw .nil pass0 (zpa_cons (zpvk hc 0 (by decide +kernel)) (zpa_cons zpe_int zpa_nil))));exact zqss_one (zps_ret (zpek_comp hc ["_law_k"] [4,5] rfl (by decide +kernel) (zpi_range1 (glk hc (by decide +kernel)) T.z_range (zpa_cons (zpvk hc 1 (by decide +kernel)) zpa_nil)) (fun _ hc=>zpgb hc (by decide +kernel) 0 (by decide +kernel)) (fun _ _=>zpifs_nil) (fun _ hc=>(zpe_ix ix_l (zpvk hc 1 (by decide +kernel)) (zpe_op op_mod (zpe_op op_add (zpvk hc 2 (by decide +kernel)) (zpe_op op_mul zpe_int (zpvk hc 0 (by decide +kernel)))) zpe_int) (fun _ _=>rfl)))))) zqss_nil);apply zqss_cons;exact (zpsk_set hc sc__law_names.nd hf 6 (by decide +kernel) (zpe_bm PySem.F.plainAttrs_str PySem.F.slot_str_join PySem.F.type_str_join mt_joinS zpe_str (zpa_cons (zpek_comp hc ["_law_k"] [2,0] rfl (by decide +kernel) (zpi_range1 (glk hc (by decide +kernel)) T.z_range (zpa_cons zpe_int zpa_nil)) (fun _ hc=>zpgb hc (by decide +kernel) 0 (by decide +kernel)) (fun _ _=>zpifs_nil) (fun _ hc=>(zpe_ix ix_s (zpvk hc 1 (by decide +kernel)) (zpe_call G__law_draw (hr.mono (by omega)) (glk hc (by decide +kernel)) T.m__law_draw T.F__law_draw.kp T.b__law_draw .nil pass0 (zpa_cons (zpvk hc 2 (by decide +kernel)) (zpa_cons zpe_int zpa_nil))) (fun _ _=>rfl)))) zpa_nil)));apply zqss_cons;exact (zqs_if (zpt_cmpR op_eq (zpvk hc 3 (by decide +kernel)) zpe_int (nomark _)) (by apply zqss_cons;exact (zpsk_set hc sc__law_names.nd hf 5 (by decide +kernel) (zpe_call G__law_draw (hr.mono (by omega)) (glk hc (by decide +kernel)) T.m__law_draw T.F__law_draw.kp T.b__law_draw .nil pass0 (zpa_cons (zpvk hc 0 (by decide +kernel)) (zpa_cons zpe_int zpa_nil))));exact zqss_one (zps_ret (zpek_comp hc ["_law_k"] [6,5] rfl (by decide +kernel) (zpi_range1 (glk hc (by decide +kernel)) T.z_range (zpa_cons (zpvk hc 1 (by decide +kernel)) zpa_nil)) (fun _ hc=>zpgb hc (by decide +kernel) 0 (by decide +kernel)) (fun _ _=>zpifs_nil) (fun _ hc=>(zpe_slice sl_str (zpvk hc 1 (by decide +kernel)) zpo_none (zpo_some (zpe_op op_add (zpe_op op_mod (zpe_op op_add (zpvk hc 2 (by decide +kernel)) (zpe_op op_mul zpe_int (zpvk hc 0 (by decide +kernel)))) zpe_int) zpe_int))))))) zqss_nil);apply zqss_cons;exact (zpsk_set hc sc__law_names.nd hf 7 (by decide +kernel) (zpe_call G__law_draw (hr.mono (by omega)) (glk hc (by decide +kernel)) T.m__law_draw T.F__law_draw.kp T.b__law_draw .nil pass0 (zpa_cons (zpvk hc 0 (by decide +kernel)) (zpa_cons zpe_int zpa_nil))));apply zqss_cons;exact (zpsk_set hc sc__law_names.nd hf 8 (by decide +kernel) (zpe_call G__law_draw (hr.mono (by omega)) (glk hc (by decide +kernel)) T.m__law_draw T.F__law_draw.kp T.b__law_draw .nil pass0 (zpa_cons (zpvk hc 0 (by decide +kernel)) (zpa_cons zpe_int zpa_nil))));apply zqss_cons;exact (zpsk_set hc sc__law_names.nd hf 9 (by decide +kernel) (zpe_lst zpa_nil));apply zqss_cons;exact (zqs_for PassesOwn.never rfl (zpi_range1 (glk hc (by decide +kernel)) T.z_range (zpa_cons (zpvk hc 1 (by decide +kernel)) zpa_nil)) (zpgk hc sc__law_names.nd hf 10 (by decide +kernel)) (by apply zqss_cons;exact (zpsk_set hc sc__law_names.nd hf 11 (by decide +kernel) (zpe_ix ix_s (zpvk hc 2 (by decide +kernel)) (zpe_op op_mod (zpe_op op_add (zpvk hc 8 (by decide +kernel)) (zpe_op op_mul zpe_int (zpvk hc 10 (by decide +kernel)))) zpe_int) (fun _ _=>rfl)));apply zqss_cons;exact (zpsk_set hc sc__law_names.nd hf 12 (by decide +kernel) (zpe_op op_add_str (zpe_op op_add_str (zpe_slice sl_str (zpvk hc 6 (by decide +kernel)) zpo_none (zpo_some (zpvk hc 7 (by decide +kernel)))) (zpvk hc 11 (by decide +kernel))) (zpe_slice sl_str (zpvk hc 6 (by decide +kernel)) (zpo_some (zpe_op op_add (zpvk hc 7 (by decide +kernel)) zpe_int)) zpo_none)));exact zqss_one (zps_expr (zpe_bm PySem.F.plainAttrs_list PySem.F.slot_list_append PySem.F.type_list_append mt_append (zpvk hc 9 (by decide +kernel)) (zpa_cons (zpe_slice sl_str (zpvk hc 12 (by decide +kernel)) zpo_none (zpo_some (zpe_op op_add (zpe_op op_add (zpvk hc 7 (by decide +kernel)) zpe_int) (zpe_call G__law_draw (hr.mono (by omega)) (glk hc (by decide +kernel)) T.m__law_draw T.F__law_draw.kp T.b__law_draw .nil pass0 (zpa_cons (zpvk hc 0 (by decide +kernel)) (zpa_cons (zpe_op op_sub zpe_int (zpvk hc 7 (by decide +kernel))) zpa_nil)))))) zpa_nil)))));exact zqss_one (zps_ret (zpvk hc 9 (by decide +kernel)))),?_⟩
 walk_at "rl"
 repeat (walk_at "rl")
 refine draw_by hd Dr.refl (by decide) (by decide) fun way H0 w0 w4 d0 k0=>?_
 have hd0:=d0.handAt hd
 repeat (walk_at "rl")
 split
 ·
  refine ⟨by decide,fun S hS=>?_⟩
  have el:dsp__law_names_0=lits:=rfl
  rw [el]
  have hSh:S≠h:=hd0.ne hS
  have d1:=d0.new (o:=.lst (List.map V.str lits)) hS
  repeat (walk_at "rl")
  refine draw_by hd d1 (by decide) (by decide) fun at0 H2 a0 a1 d2 k2=>?_
  have hS2:H2 S=some (.lst (List.map V.str lits)):=by rw [k2 S hSh,upd_same]
  repeat (walk_at "rl")
  refine ⟨by lia,by lia,compAll_rng (fun D i ys H3=>∃ss:List Str,ys=List.map V.str ss/\ss.length=i/\(∀k s,ss[k]? = some s->lits[((at0+5 * (k:Nat)) % 13).toNat]? = some s)/\Dr h H H3/\H3 D=some (.lst ys)/\H3 S=some (.lst (List.map V.str lits))) (fun D hD=>⟨[],rfl,rfl,(fun k s z=>by simp at z),d2.new hD,upd_same,by rw [upd_ne (ne_of_none hS2 hD)];exact hS2⟩) (fun D hD i ys H3 hi p c=>?_) (fun D hD ys H3 p=>?_)⟩
  ·obtain ⟨ss,rfl,hl,hk,d3,hy,hS3⟩:=p
   walk_at "rc"
   repeat (first | walk_at "rl" | simp only [hS3])
   have hx0:0<=(at0+5 * (i:Int)) % 13:=Int.emod_nonneg _ (by decide)
   have hx1:(at0+5 * (i:Int)) % 13 < 13:=Int.emod_lt_of_pos _ (by decide)
   obtain ⟨v,ev,gv⟩:=atI_of (xs:=List.map V.str lits) hx0 (by rw [List.length_map,lits_len];exact hx1)
   rw [ev]
   walk_at "rl"
   rw [List.getElem?_map] at gv
   obtain ⟨s,es,rfl⟩:∃s,lits[((at0+5 * (i:Int)) % 13).toNat]? = some s/\V.str s=v:=by
    cases e:lits[((at0+5 * (i:Int)) % 13).toNat]? with
    | none=>rw [e] at gv;cases gv
    | some s=>rw [e] at gv;exact ⟨s,rfl,Option.some.inj gv⟩
   have hnD:D≠S:=fun z=>by rw [z,hS2] at hD;cases hD
   refine ⟨hy,small1000 (by lia),ss++[s],by simp,by simp [hl],fun k s' e=>?_,d3.put (d2.free hd hD),by rw [upd_ne hnD.symm];exact hS3⟩
   by_cases hki:k < ss.length
   ·rw [List.getElem?_append_left hki] at e;exact hk k s' e
   ·rw [List.getElem?_append_right (by lia)] at e
    have hk0:k - ss.length=0:=by
     cases z:k - ss.length with
     | zero=>rfl
     | succ n=>rw [z] at e;cases e
    rw [hk0] at e
    have:k=i:=by lia
    subst this
    cases e;exact es
  ·obtain ⟨ss,rfl,hl,hk,d3,hy,hS3⟩:=p
   refine q D ss H3 d3 (d2.free hd hD) hy hl (nodup_ix' fun i j x hij e1 e2=>?_) fun s hs=>?_
   ·have g1:=hk i x e1
    have g2:=hk j x e2
    have hj:j < ss.length:=(List.getElem?_eq_some_iff.mp e2).1
    have u1:((at0+5 * (i:Int)) % 13).toNat < lits.length:=(List.getElem?_eq_some_iff.mp g1).1
    have:=(List.getElem_inj (i:=((at0+5 * (i:Int)) % 13).toNat) (j:=((at0+5 * (j:Int)) % 13).toNat) (h₀:=u1) (h₁:=(List.getElem?_eq_some_iff.mp g2).1) lits_nodup).mp ((List.getElem?_eq_some_iff.mp g1).2.trans (List.getElem?_eq_some_iff.mp g2).2.symm)
    omega
   ·obtain ⟨k,hk'⟩:=List.mem_iff_getElem?.mp hs
    exact lits_nm s (List.mem_of_getElem? (hk k s hk'))
 ·
  repeat (walk_at "rl")
  refine comp_word hd0 rfl rfl (by decide) fun D cs H2 hD d2 hD2 hcl hcs=>?_
  have dr2:Dr h H H2:=d0.trans d2
  repeat (walk_at "rl")
  refine ⟨cs.map sgn,hD2,(join_word (by lia)).1,?_⟩
  obtain ⟨wd,hwd⟩:∃z,Txt.join (Str.ofString "") (cs.map sgn)=z:=⟨_,rfl⟩
  have ew:wd.cps.toList=cs:=by rw [<-hwd];exact (join_word (by lia)).2
  have lw:wd.length=8:=by have:=len_cps wd;rw [ew] at this;lia
  rw [hwd]
  repeat (walk_at "rl")
  split
  ·
   repeat (walk_at "rl")
   refine draw_by hd dr2 (by decide) (by decide) fun at0 H3 a0 a1 d3 k3=>?_
   repeat (walk_at "rl")
   refine ⟨by lia,by lia,?_⟩
   obtain ⟨Pv,hPv⟩:∃Pv:Addr->Nat->List V->Hp->Prop,∀D i ys H',Pv D i ys H'↔∃ss:List Str,ys=List.map V.str ss/\ss.length=i/\(∀(k:Nat) s,ss[k]? = some s->s.cps.toList=cs.take ((at0+3 * (k:Int)) % 8+1).toNat)/\Dr h H H'/\H' D=some (.lst ys):=⟨_,fun _ _ _ _=>Iff.rfl⟩
   refine compAll_rng Pv (fun D hD=>(hPv _ _ _ _).mpr ⟨[],rfl,rfl,(fun k s z=>by simp at z),d3.new hD,upd_same⟩) (fun D hD i ys H4 hi pv c=>?_) (fun D hD ys H4 pv=>?_)
   ·obtain ⟨ss,rfl,hl,hk,d4,hy⟩:=(hPv _ _ _ _).mp pv
    walk_at "rc"
    repeat (walk_at "rl")
    have hx0:0<=(at0+3 * (i:Int)) % 8:=Int.emod_nonneg _ (by decide)
    refine ⟨by rw [lw];decide,hy,small1000 (by lia),(hPv _ _ _ _).mpr ⟨ss++[cutS wd none (some ((at0+3 * (i:Int)) % 8+1))],by simp,by simp [hl],fun k s e=>?_,d4.put (d3.free hd hD),upd_same⟩⟩
    by_cases hki:k < ss.length
    ·rw [List.getElem?_append_left hki] at e;exact hk k s e
    ·rw [List.getElem?_append_right (by lia)] at e
     have hk0:k - ss.length=0:=by
      cases z:k - ss.length with
      | zero=>rfl
      | succ n=>rw [z] at e;cases e
     rw [hk0] at e
     have:k=i:=by lia
     subst this
     cases e
     rw [cutS_to wd (by lia),ew]
   ·obtain ⟨ss,rfl,hl,hk,d4,hy⟩:=(hPv _ _ _ _).mp pv
    refine q D ss H4 d4 (d3.free hd hD) hy hl (nodup_ix' fun i j x hij e1 e2=>?_) fun s hs=>?_
    ·have g1:=hk i x e1
     have g2:=hk j x e2
     have hj:j < ss.length:=(List.getElem?_eq_some_iff.mp e2).1
     have:=congrArg List.length (g1.symm.trans g2)
     rw [List.length_take,List.length_take,hcl] at this
     lia
    ·obtain ⟨k,hk'⟩:=List.mem_iff_getElem?.mp hs
     have g:=hk k s hk'
     refine nm_of g ?_ ?_ fun c hc'=>hcs c (List.mem_of_mem_take hc')
     ·rw [List.length_take,hcl];lia
     ·rw [List.length_take,hcl];lia
  ·
   repeat (walk_at "rl")
   refine draw_by hd dr2 (by decide) (by decide) fun sp H3 s0 s1 d3 k3=>?_
   repeat (walk_at "rl")
   refine draw_by hd d3 (by decide) (by decide) fun st H4 t0 t1 d4 k4=>?_
   repeat (walk_at "rl")
   refine ⟨by decide,fun p hp=>?_⟩
   have hph:p≠h:=(d4.handAt hd).ne hp
   have hp0:H p=none:=d4.free hd hp
   have dp:Dr h H (upd H4 p (.lst [])):=d4.new hp
   repeat (walk_at "rl")
   refine ⟨by lia,by lia,?_⟩
   obtain ⟨Pv,hPv⟩:∃Pv:Nat->St->Hp->Prop,∀i σ' H',Pv i σ' H'↔∃(ss:List Str) (a b c:Option V),σ'=[some (.ref h),some (.int m),some (.str (Str.ofString "abcdefghijklmnopqrstuvwxyz")),some (.int way),none,none,some (.str wd),some (.int sp),some (.int st),some (.ref p),a,b,c]/\
    ss.length=i/\(∀(k:Nat) s,ss[k]? = some s->Nm s/\s.cps.toList[sp.toNat]? = some (97+((st+7 * (k:Int)) % 26).toNat))/\Dr h H H'/\H' p=some (.lst (List.map V.str ss)):=⟨_,fun _ _ _=>Iff.rfl⟩
   refine forAll_rng Pv ((hPv _ _ _).mpr ⟨[],none,none,none,rfl,rfl,(fun k s z=>by simp at z),dp,upd_same⟩) (fun i σ' H5 hi pv=>?_) (fun σ' H5 pv=>?_)
   ·obtain ⟨ss,a,b,c,rfl,hl,hk,d5,hp5⟩:=(hPv _ _ _).mp pv
    repeat (walk_at "rl")
    have hx0:0<=(st+7 * (i:Int)) % 26:=Int.emod_nonneg _ (by decide)
    have hx1:(st+7 * (i:Int)) % 26 < 26:=Int.emod_lt_of_pos _ (by decide)
    refine ⟨by decide,?_⟩
    rw [atI_letters hx0 hx1]
    repeat (walk_at "rl")
    obtain ⟨c0,hc0⟩:∃c0,97+((st+7 * (i:Int)) % 26).toNat=c0:=⟨_,rfl⟩
    rw [hc0]
    obtain ⟨x1,hx1⟩:∃z,cutS wd none (some sp)=z:=⟨_,rfl⟩
    obtain ⟨x2,hx2⟩:∃z,cutS wd (some (sp+1)) none=z:=⟨_,rfl⟩
    have e1:x1.cps.toList=cs.take sp.toNat:=by rw [<-hx1,cutS_to wd s0,ew]
    have e2:x2.cps.toList=cs.drop (sp.toNat+1):=by
     rw [<-hx2,cutS_from wd (by lia),ew]
     congr 1;lia
    rw [hx1,hx2]
    have l1:x1.length=sp.toNat:=by have:=len_cps x1;rw [e1,List.length_take,hcl] at this;lia
    have l2:x2.length=8 - (sp.toNat+1):=by have:=len_cps x2;rw [e2,List.length_drop,hcl] at this;lia
    have lc:(Str.mk #[c0]).length=1:=rfl
    have e3:(x1++Str.mk #[c0]).cps.toList=cs.take sp.toNat++[c0]:=by rw [app_cps,e1]
    have l3:(x1++Str.mk #[c0]).length=sp.toNat+1:=by
     have:=len_cps (x1++Str.mk #[c0])
     rw [e3,List.length_append,List.length_take,hcl,List.length_singleton] at this;lia
    obtain ⟨z,hz⟩:∃z,x1++Str.mk #[c0]++x2=z:=⟨_,rfl⟩
    have ez:z.cps.toList=cs.take sp.toNat++[c0]++cs.drop (sp.toNat+1):=by rw [<-hz,app_cps,e3,e2]
    have lz:z.cps.toList.length=8:=by rw [ez,List.length_append,List.length_append,List.length_take,List.length_drop,hcl,List.length_singleton];lia
    have lz':z.length=8:=by rw [<-len_cps z];exact lz
    rw [hz]
    refine ⟨by rw [lw];decide,by rw [l1,lc];exact small1000' (by lia),by rw [lw];decide,by rw [l3,l2];exact small1000' (by lia),?_⟩
    repeat (walk_at "rl")
    refine ⟨.inl ⟨rfl,_,sqL_of hp5⟩,?_⟩
    refine draw_by hd d5 (by lia) (by lia) fun r H6 r0 r1 d6 k6=>?_
    have hp6:H6 p=some (.lst (List.map V.str ss)):=by rw [k6 p hph];exact hp5
    repeat (first | walk_at "rl" | simp only [hp6])
    have eq:(cutS z none (some (sp+1+r))).cps.toList=z.cps.toList.take (sp+1+r).toNat:=cutS_to z (by lia)
    refine ⟨by rw [lz'];decide,small1000 (by lia),(hPv _ _ _).mpr ⟨ss++[cutS z none (some (sp+1+r))],_,_,_,rfl,by simp [hl],fun k s e=>?_,d6.put hp0,by simp [upd_same]⟩⟩
    by_cases hki:k < ss.length
    ·rw [List.getElem?_append_left hki] at e;exact hk k s e
    ·rw [List.getElem?_append_right (by lia)] at e
     have hk0:k - ss.length=0:=by
      cases z:k - ss.length with
      | zero=>rfl
      | succ n=>rw [z] at e;cases e
     rw [hk0] at e
     have:k=i:=by lia
     subst this
     cases e
     refine ⟨nm_of eq (by rw [List.length_take,lz];lia) (by rw [List.length_take,lz];lia) fun c hc'=>?_,?_⟩
     ·have hm:=List.mem_of_mem_take hc'
      rw [ez] at hm
      rcases List.mem_append.mp hm with hm | hm
      ·rcases List.mem_append.mp hm with hm | hm
       ·exact hcs c (List.mem_of_mem_take hm)
       ·rw [List.mem_singleton.mp hm];lia
      ·exact hcs c (List.mem_of_mem_drop hm)
     ·rw [eq,List.getElem?_take_of_lt (by lia),ez,List.getElem?_append_left (by rw [List.length_append,List.length_take,hcl,List.length_singleton];lia),List.getElem?_append_right (by rw [List.length_take,hcl];lia),List.length_take,hcl]
      have:sp.toNat - min sp.toNat 8=0:=by lia
      rw [this,<-hc0];rfl
   ·obtain ⟨ss,a,b,c,rfl,hl,hk,d5,hp5⟩:=(hPv _ _ _).mp pv
    repeat (walk_at "rl")
    refine q p ss H5 d5 hp0 hp5 hl (nodup_ix' fun i j x hij e1 e2=>?_) fun s hs=>?_
    ·have g1:=(hk i x e1).2
     have g2:=(hk j x e2).2
     have hj:j < ss.length:=(List.getElem?_eq_some_iff.mp e2).1
     rw [g1] at g2
     have:=Option.some.inj g2
     lia
    ·obtain ⟨k,hk'⟩:=List.mem_iff_getElem?.mp hs
     exact (hk k s hk').1
end
local macro_rules | `(tactic| walk_at "rd") => `(tactic| walk_at "rc")
local macro_rules | `(tactic| walk_at "rl") => `(tactic| first | (refine seq_op fun R hR => ?_) | walk_at "ry" | (refine Nx.to (by assumption) _ _ ?_))
inductive Rl where
 | yes | no | var (x:Str) | neg (a:Rl) | two (k:Str) (a b:Rl)
def bw:List Str:=[Str.ofString "and",Str.ofString "or",Str.ofString "then",Str.ofString "same"]
def RlAt (H:Hp):Rl->Addr->Prop
 | .yes,p=>H p=some (.tup [.str (Str.ofString "yes")])
 | .no,p=>H p=some (.tup [.str (Str.ofString "no")])
 | .var x,p=>H p=some (.tup [.str (Str.ofString "is"),.str x])
 | .neg a,p=>∃q,H p=some (.tup [.str (Str.ofString "not"),.ref q])/\RlAt H a q
 | .two k a b,p=>k∈bw/\∃q r,H p=some (.tup [.str k,.ref q,.ref r])/\RlAt H a q/\RlAt H b r
def Rl.deep:Rl->Nat
 | .neg a=>a.deep+1
 | .two _ a b=>max a.deep b.deep+1
 | _=>1
def Rl.names:Rl->List Str
 | .var x=>[x]
 | .neg a=>a.names
 | .two _ a b=>a.names++b.names
 | _=>[]
def Tups (H H':Hp):Prop:=∀q xs,H q=some (.tup xs)->H' q=some (.tup xs)
theorem tups_of {H H':Hp} (s:Same H H'):Tups H H':=fun q xs e=>s q _ e
theorem HandAt.ntup {H:Hp} {h q:Addr} {xs:List V} (x:HandAt H h) (e:H q=some (.tup xs)):q≠h:=by
 obtain ⟨l,ns,o,e1,⟨a,b,c,d,f,rfl,_⟩,_⟩:=x
 exact ne_of e e1 (by intro z;cases z)
theorem Dr.tups {h:Addr} {H H':Hp} (d:Dr h H H') (x:HandAt H h):Tups H H':=fun q xs e=>d.keep q _ (x.ntup e) e
theorem RlAt.mono {H H':Hp} (k:Tups H H'):∀{r:Rl} {p:Addr},RlAt H r p->RlAt H' r p
 | .yes,p,h=>k _ _ h
 | .no,p,h=>k _ _ h
 | .var x,p,h=>k _ _ h
 | .neg a,p,⟨q,e,x⟩=>⟨q,k _ _ e,RlAt.mono k x⟩
 | .two w a b,p,⟨m,q,r,e,x,y⟩=>⟨m,q,r,k _ _ e,RlAt.mono k x,RlAt.mono k y⟩
theorem Rl.len:∀r:Rl,r.names.length * 2<=2 ^ r.deep
 | .yes=>by decide
 | .no=>by decide
 | .var x=>by show 1 * 2<=2 ^ 1;decide
 | .neg a=>Nat.le_trans a.len (Nat.pow_le_pow_right (by decide) (Nat.le_succ _))
 | .two k a b=>by
  show (a.names++b.names).length * 2<=2 ^ (max a.deep b.deep+1)
  have h1:=Nat.le_trans a.len (Nat.pow_le_pow_right (show 0 < 2 by decide) (Nat.le_max_left a.deep b.deep))
  have h2:=Nat.le_trans b.len (Nat.pow_le_pow_right (show 0 < 2 by decide) (Nat.le_max_right a.deep b.deep))
  rw [List.length_append,Nat.pow_succ];lia
theorem Rl.len6 {r:Rl} (h:r.deep<=6):r.names.length<=32:=by
 have h1:=r.len
 have h2:2 ^ r.deep<=2 ^ 6:=Nat.pow_le_pow_right (by decide) h
 have h3:(2:Nat) ^ 6=64:=by decide
 lia
theorem Rl.pos:∀r:Rl,1<=r.deep
 | .yes=>Nat.le_refl _
 | .no=>Nat.le_refl _
 | .var _=>Nat.le_refl _
 | .neg _=>Nat.le_add_left _ _
 | .two _ _ _=>Nat.le_add_left _ _
theorem bw_is:∀k∈bw,k≠Str.ofString "is":=by decide
theorem RlAt.kids {H:Hp}:∀{r:Rl} {p:Addr},RlAt H r p->(∃x,r=.var x/\H p=some (.tup [.str (Str.ofString "is"),.str x]))\/
  ∃(k:Str) (qs:List Addr) (rs:List Rl),H p=some (.tup (.str k::qs.map V.ref))/\k≠Str.ofString "is"/\qs.length=rs.length/\rs.length<=2/\(∀(i:Nat) q r',qs[i]? = some q->rs[i]? = some r'->RlAt H r' q/\r'.deep+1<=r.deep)/\r.names=(rs.map Rl.names).flatten
 | .yes,p,h=>.inr ⟨_,[],[],h,by decide,rfl,by decide,(fun i q r' e=>by simp at e),rfl⟩
 | .no,p,h=>.inr ⟨_,[],[],h,by decide,rfl,by decide,(fun i q r' e=>by simp at e),rfl⟩
 | .var x,p,h=>.inl ⟨x,rfl,h⟩
 | .neg a,p,⟨q,e,x⟩=>.inr ⟨_,[q],[a],e,by decide,rfl,by simp,(fun i q' r' e1 e2=>by
   cases i with
   | zero=>cases e1;cases e2;exact ⟨x,Nat.le_refl _⟩
   | succ n=>cases e1),by simp [Rl.names]⟩
 | .two w a b,p,⟨m,q,r,e,x,y⟩=>.inr ⟨_,[q,r],[a,b],e,bw_is _ m,rfl,by simp,(fun i q' r' e1 e2=>by
   match i with
   | 0=>cases e1;cases e2;exact ⟨x,Nat.succ_le_succ (Nat.le_max_left _ _)⟩
   | 1=>cases e1;cases e2;exact ⟨y,Nat.succ_le_succ (Nat.le_max_right _ _)⟩
   | n+2=>cases e1),by simp [Rl.names]⟩
theorem cutV_tail (x:V) (xs:List V):cutV (x::xs) (some 1) none=xs:=by
 unfold cutV HT.sIx
 simp
def spRule (d:Nat):Sp:=fun vs H Q _=>∃h N dp,vs=[.ref h,.ref N,.int dp]/\1<=dp/\dp<=d/\∃ss:List Str,HandAt H h/\H N=some (.lst (List.map V.str ss))/\ss.length<=8/\
 ∀p r H',Dr h H H'->RlAt H' r p->(r.deep:Int)<=dp->(∀x∈r.names,x∈ss)->Q (.ref p) H'
theorem HandAt.nstr {H:Hp} {h N:Addr} {ss:List Str} (x:HandAt H h) (e:H N=some (.lst (List.map V.str ss))):N≠h:=by
 obtain ⟨l,ns,o,e1,⟨a,b,c,d,f,rfl,_⟩,_⟩:=x
 refine ne_of e e1 (fun z=>?_)
 unfold hv at z
 injection z with z
 match ss,z with
 | [],z=>cases z
 | s::_,z=>injection z with z1 _;cases z1
theorem if_or {c d:Prop} [Decidable c] [Decidable d] {X Y:Prop} (h1:X) (h2:¬c->¬d->Y):if c then X else if d then X else Y:=by
 split
 ·exact h1
 ·split
  ·exact h1
  ·exact h2 ‹_› ‹_›
section
variable {P:Program} {w:World} {K:PySem.W.Frag} {mg:Str->Option Value} {base:Heap} {t:Adr}
theorem ok_rule (T:Txt K mg t):∀d:Nat,FnOk P w K mg base CX0 (d+4) t.a__law_rule t.d__law_rule ["_law_hand_here","_law_names_here","_law_deep"] (spRule d)
 | 0=>T.F__law_rule.okZ (k:=3) sc__law_rule (fun vs H Q E h=>by obtain ⟨h,N,dp,rfl,_⟩:=h;rfl) (fun cdv A outer s H vs Q E hr h hc hf=>by obtain ⟨h,N,dp,rfl,h1,h2,_⟩:=h;lia)
 | d+1=>by
  have G__law_draw:=ok_draw (P:=P) (w:=w) (base:=base) T
  have G__law_rule:=ok_rule T d
  refine T.F__law_rule.okZ (k:=d+4) sc__law_rule (fun vs H Q E h=>?_) (fun cdv A outer s H vs Q E hr h hc hf=>?_)
  ·obtain ⟨h,N,dp,rfl,_⟩:=h;rfl
  obtain ⟨h,N,dp,rfl,h1,h2,ss,hd,hN,l8,q⟩:=h
  have hNh:=hd.nstr hN
  refine ⟨_,(by apply zqss_cons;exact (zpsk_set hc sc__law_rule.nd hf 3 (by decide +kernel) (zpe_call G__law_draw (hr.mono (by omega)) (glk hc (by decide +kernel)) T.m__law_draw T.F__law_draw.kp T.b__law_draw .nil pass0 (zpa_cons (zpvk hc 0 (by decide +kernel)) (zpa_cons zpe_int zpa_nil))));apply zqss_cons;exact (zqs_if (zPWpt (zpw_or (zpt_cmpR op_eq (zpvk hc 2 (by decide +kernel)) zpe_int (nomark _)) (zpw_or1 (zpt_cmpR op_lt (zpvk hc 3 (by decide +kernel)) zpe_int (nomark _))))) (by apply zqss_cons;exact (zqs_if (zPWpt (zpw_or (zpt_cmpR op_eq (zpe_call G__law_draw (hr.mono (by omega)) (glk hc (by decide +kernel)) T.m__law_draw T.F__law_draw.kp T.b__law_draw .nil pass0 (zpa_cons (zpvk hc 0 (by decide +kernel)) (zpa_cons zpe_int zpa_nil))) zpe_int (nomark _)) (zpw_or1 (zpt_cmpR op_eq (zpe_callB call_lenL (glk hc (by decide +kernel)) T.z_len b_len (zpa_cons (zpvk hc 1 (by decide +kernel)) zpa_nil)) zpe_int (nomark _))))) (by exact zqss_one (zps_ret (zpe_ix ix_l (zpe_lst (zpa_cons (zpe_tup (zpa_cons zpe_str zpa_nil)) (zpa_cons (zpe_tup (zpa_cons zpe_str zpa_nil)) zpa_nil))) (zpe_call G__law_draw (hr.mono (by omega)) (glk hc (by decide +kernel)) T.m__law_draw T.F__law_draw.kp T.b__law_draw .nil pass0 (zpa_cons (zpvk hc 0 (by decide +kernel)) (zpa_cons zpe_int zpa_nil))) (fun _ _=>rfl)))) zqss_nil);exact zqss_one (zps_ret (zpe_tup (zpa_cons zpe_str (zpa_cons (zpe_ix ix_l (zpvk hc 1 (by decide +kernel)) (zpe_call G__law_draw (hr.mono (by omega)) (glk hc (by decide +kernel)) T.m__law_draw T.F__law_draw.kp T.b__law_draw .nil pass0 (zpa_cons (zpvk hc 0 (by decide +kernel)) (zpa_cons (zpe_callB call_lenL (glk hc (by decide +kernel)) T.z_len b_len (zpa_cons (zpvk hc 1 (by decide +kernel)) zpa_nil)) zpa_nil))) (fun _ _=>rfl)) zpa_nil))))) zqss_nil);apply zqss_cons;exact (zpsk_set hc sc__law_rule.nd hf 4 (by decide +kernel) (zpe_call G__law_rule (hr.mono (by omega)) (glk hc (by decide +kernel)) T.m__law_rule T.F__law_rule.kp T.b__law_rule .nil pass0 (zpa_cons (zpvk hc 0 (by decide +kernel)) (zpa_cons (zpvk hc 1 (by decide +kernel)) (zpa_cons (zpe_op op_sub (zpvk hc 2 (by decide +kernel)) zpe_int) zpa_nil)))));apply zqss_cons;exact (zqs_if (zpt_cmpR op_lt (zpvk hc 3 (by decide +kernel)) zpe_int (nomark _)) (by exact zqss_one (zps_ret (zpe_tup (zpa_cons zpe_str (zpa_cons (zpvk hc 4 (by decide +kernel)) zpa_nil))))) zqss_nil);exact zqss_one (zps_ret (zpe_tup (zpa_cons (zpe_ix ix_l (zpe_lst (zpa_cons zpe_str (zpa_cons zpe_str (zpa_cons zpe_str (zpa_cons zpe_str zpa_nil))))) (zpe_op op_sub (zpvk hc 3 (by decide +kernel)) zpe_int) (fun _ _=>rfl)) (zpa_cons (zpvk hc 4 (by decide +kernel)) (zpa_cons (zpe_call G__law_rule (hr.mono (by omega)) (glk hc (by decide +kernel)) T.m__law_rule T.F__law_rule.kp T.b__law_rule .nil pass0 (zpa_cons (zpvk hc 0 (by decide +kernel)) (zpa_cons (zpvk hc 1 (by decide +kernel)) (zpa_cons (zpe_op op_sub (zpvk hc 2 (by decide +kernel)) zpe_int) zpa_nil)))) zpa_nil)))))),?_⟩
  walk_at "rd"
  refine draw_by hd Dr.refl (by decide) (by decide) fun way H1 w0 w8 d1 k1=>?_
  have hN1:H1 N=some (.lst (List.map V.str ss)):=by rw [k1 N hNh];exact hN
  have hd1:=d1.handAt hd
  repeat (first | walk_at "rd" | simp only [hN1])
  refine if_or ?_ fun n1 n2=>?_
  ·refine draw_by hd d1 (by decide) (by decide) fun r H2 r0 r1 d2 k2=>?_
   have hN2:H2 N=some (.lst (List.map V.str ss)):=by rw [k2 N hNh];exact hN1
   have hd2:=d2.handAt hd
   repeat (first | walk_at "rd" | simp only [hN2])
   refine if_or ?_ fun m1 m2=>?_
   ·refine ⟨by decide,fun p hp=>⟨by decide,fun p' hp'=>⟨by decide,fun L hL=>?_⟩⟩⟩
    have d5:=((d2.new (o:=.tup [.str (Str.ofString "yes")]) hp).new (o:=.tup [.str (Str.ofString "no")]) hp').new (o:=.lst [.ref p,.ref p']) hL
    refine draw_by hd d5 (by decide) (by decide) fun i H3 i0 i2 d3 k3=>?_
    have nL:L≠h:=(((d2.new (o:=.tup [.str (Str.ofString "yes")]) hp).new (o:=.tup [.str (Str.ofString "no")]) hp').handAt hd).ne hL
    have np:p≠h:=hd2.ne hp
    have np':p'≠h:=((d2.new (o:=.tup [.str (Str.ofString "yes")]) hp).handAt hd).ne hp'
    have pp:p≠p':=ne_of_none upd_same hp'
    have pL:p≠L:=ne_of_none (H:=upd (upd H2 p _) p' _) (by rw [upd_ne pp,upd_same]) hL
    have pL':p'≠L:=ne_of_none (H:=upd (upd H2 p _) p' _) upd_same hL
    have e1:H3 L=some (.lst [.ref p,.ref p']):=by rw [k3 L nL,upd_same]
    have e2:H3 p=some (.tup [.str (Str.ofString "yes")]):=by rw [k3 p np,upd_ne pL,upd_ne pp,upd_same]
    have e3:H3 p'=some (.tup [.str (Str.ofString "no")]):=by rw [k3 p' np',upd_ne pL',upd_same]
    have hi:i=0\/i=1:=by lia
    rcases hi with rfl | rfl
    ·repeat (first | walk_at "rd" | simp only [e1])
     exact q p .yes H3 d3 e2 (by show ((1:Nat):Int)<=dp;lia) (fun x hx=>nomatch hx)
    ·repeat (first | walk_at "rd" | simp only [e1])
     exact q p' .no H3 d3 e3 (by show ((1:Nat):Int)<=dp;lia) (fun x hx=>nomatch hx)
   ·refine draw_by hd d2 (by lia) (by lia) fun i H3 i0 i2 d3 k3=>?_
    have hN3:H3 N=some (.lst (List.map V.str ss)):=by rw [k3 N hNh];exact hN2
    have hi:i.toNat < ss.length:=by lia
    have e:atI (List.map V.str ss) i=some (.str ss[i.toNat]):=by
     have:=atI_nat (xs:=List.map V.str ss) (j:=i.toNat) (v:=.str ss[i.toNat]) (by rw [List.getElem?_map,List.getElem?_eq_getElem hi];rfl)
     rw [Int.toNat_of_nonneg i0] at this;exact this
    repeat (first | walk_at "rd" | simp only [hN3,e])
    refine ⟨by decide,fun p hp=>?_⟩
    exact q p (.var ss[i.toNat]) _ (d3.new hp) upd_same (by show ((1:Nat):Int)<=dp;lia) (fun x hx=>by rw [List.mem_singleton.mp hx];exact List.getElem_mem hi)
  ·refine ⟨h,N,dp - 1,rfl,by lia,by lia,ss,hd1,hN1,l8,fun p1 a1 H2 d2 at2 de2 na2=>?_⟩
   have dd2:=d1.trans d2
   have hd2:=dd2.handAt hd
   have hN2:H2 N=some (.lst (List.map V.str ss)):=d2.keep _ _ hNh hN1
   split
   ·refine ⟨by decide,fun p hp=>q p (.neg a1) _ (dd2.new hp) ⟨p1,upd_same,at2.mono (tups_of (same_new hp _))⟩ (by show ((a1.deep+1:Nat):Int)<=dp;lia) na2⟩
   ·refine ⟨by decide,fun L hL=>?_⟩
    have sL:=same_new hL (.lst [V.str (Str.ofString "and"),V.str (Str.ofString "or"),V.str (Str.ofString "then"),V.str (Str.ofString "same")])
    have hdL:=(dd2.new (o:=.lst [V.str (Str.ofString "and"),V.str (Str.ofString "or"),V.str (Str.ofString "then"),V.str (Str.ofString "same")]) hL).handAt hd
    have fin:∀k∈bw,spRule d [V.ref h,V.ref N,V.int (dp - 1)] (upd H2 L (.lst [V.str (Str.ofString "and"),V.str (Str.ofString "or"),V.str (Str.ofString "then"),V.str (Str.ofString "same")]))
      (fun x H1=>3<=sizeLine/\∀(p:Addr),H1 p=none->Q (V.ref p) (upd H1 p (HO.tup [V.str k,V.ref p1,x]))) E0:=by
     intro k hk
     refine ⟨h,N,dp - 1,rfl,by lia,by lia,ss,hdL,sL _ _ hN2,l8,fun p2 a2 H3 d3 at3 de3 na3=>⟨by decide,fun p hp=>?_⟩⟩
     have dd3:=(dd2.new (o:=.lst [V.str (Str.ofString "and"),V.str (Str.ofString "or"),V.str (Str.ofString "then"),V.str (Str.ofString "same")]) hL).trans d3
     refine q p (.two k a1 a2) _ (dd3.new hp) ⟨hk,p1,p2,upd_same,((at2.mono (tups_of sL)).mono (d3.tups hdL)).mono (tups_of (same_new hp _)),at3.mono (tups_of (same_new hp _))⟩ ?_ ?_
     ·show ((max a1.deep a2.deep+1:Nat):Int)<=dp
      lia
     ·intro x hx
      rcases List.mem_append.mp hx with z | z
      ·exact na2 x z
      ·exact na3 x z
    have hw:way=4\/way=5\/way=6\/way=7:=by lia
    rcases hw with rfl | rfl | rfl | rfl
    ·exact ⟨_,rfl,fin _ (by decide)⟩
    ·exact ⟨_,rfl,fin _ (by decide)⟩
    ·exact ⟨_,rfl,fin _ (by decide)⟩
    ·exact ⟨_,rfl,fin _ (by decide)⟩
end
local macro_rules | `(tactic| walk_at "rd") => `(tactic| walk_at "rc")
local macro_rules | `(tactic| walk_at "rl") => `(tactic| first | (refine seq_op fun R hR => ?_) | walk_at "ry" | (refine Nx.to (by assumption) _ _ ?_))
def spWithin (d:Nat):Sp:=fun vs H Q _=>∃p,vs=[.ref p]/\∃r,RlAt H r p/\r.deep<=d/\r.deep<=6/\∀L H',Same H H'->H L=none->H' L=some (.lst (List.map V.str r.names))->Q (.ref L) H'
theorem take_flat {rs:List Rl} {i:Nat} {r:Rl} (h:rs[i]? = some r):((rs.take (i+1)).map Rl.names).flatten=((rs.take i).map Rl.names).flatten++r.names:=by
 rw [List.take_add_one,h]
 simp
theorem ref_at {qs:List Addr} {i:Nat} {x:V} (h:(List.map V.ref qs)[i]? = some x):∃q,qs[i]? = some q/\x=.ref q:=by
 rw [List.getElem?_map] at h
 cases e:qs[i]? with
 | none=>rw [e] at h;cases h
 | some q=>rw [e] at h;exact ⟨q,rfl,(Option.some.inj h).symm⟩
section
variable {P:Program} {w:World} {K:PySem.W.Frag} {mg:Str->Option Value} {base:Heap} {t:Adr}
theorem ok_within (T:Txt K mg t):∀d:Nat,FnOk P w K mg base CX0 (d+1) t.a_names_within t.d_names_within ["rule"] (spWithin d)
 | 0=>T.F_names_within.okZ (k:=0) sc_names_within (fun vs H Q E h=>by obtain ⟨p,rfl,_⟩:=h;rfl) (fun cdv A outer s H vs Q E hr h hc hf=>by obtain ⟨p,rfl,r,_,h1,_⟩:=h;have:=r.pos;lia)
 | d+1=>by
  have G_names_within:=ok_within T d
  refine T.F_names_within.okZ (k:=d+1) sc_names_within (fun vs H Q E h=>?_) (fun cdv A outer s H vs Q E hr h hc hf=>?_)
  ·obtain ⟨p,rfl,_⟩:=h;rfl
  obtain ⟨p,rfl,r,ra,hd,h6,q⟩:=h
  refine ⟨_,(by apply zqss_cons;exact (zqs_if (zpt_cmpR op_eq (zpe_ix ix_t (zpvk hc 0 (by decide +kernel)) zpe_int (fun _ _=>rfl)) zpe_str (nomark _)) (by exact zqss_one (zps_ret (zpe_lst (zpa_cons (zpe_ix ix_t (zpvk hc 0 (by decide +kernel)) zpe_int (fun _ _=>rfl)) zpa_nil)))) zqss_nil);apply zqss_cons;exact (zpsk_set hc sc_names_within.nd hf 1 (by decide +kernel) (zpe_lst zpa_nil));apply zqss_cons;exact (zqs_for PassesOwn.never rfl (zpi_tup (zpe_slice sl_t (zpvk hc 0 (by decide +kernel)) (zpo_some zpe_int) zpo_none)) (zpgk hc sc_names_within.nd hf 2 (by decide +kernel)) (by exact zqss_one (zps_expr (zpe_bm PySem.F.plainAttrs_list PySem.F.slot_list_extend PySem.F.type_list_extend mt_extend (zpvk hc 1 (by decide +kernel)) (zpa_cons (zpe_call G_names_within (hr.mono (by omega)) (glk hc (by decide +kernel)) T.m_names_within T.F_names_within.kp T.b_names_within .nil pass0 (zpa_cons (zpvk hc 2 (by decide +kernel)) zpa_nil)) zpa_nil)))));exact zqss_one (zps_ret (zpvk hc 1 (by decide +kernel)))),?_⟩
  rcases ra.kids with ⟨x,rfl,hp⟩ | ⟨k,qs,rs,hp,kis,hl,l2,kid,nm⟩
  ·repeat (first | walk_at "rl" | simp only [hp])
   refine ⟨by decide,fun L hL=>q L _ (same_new hL _) hL upd_same⟩
  ·repeat (first | walk_at "rl" | simp only [hp,kis])
   refine ⟨by decide,fun L hL=>?_⟩
   have pL:p≠L:=ne_of_none hp hL
   repeat (walk_at "rl")
   refine ⟨_,by rw [upd_ne pL];exact hp,by simp [HT.sIx],fun C hC=>?_⟩
   rw [cutV_tail]
   have LC:L≠C:=ne_of_none upd_same hC
   have sC:Same H (upd (upd H L (.lst [])) C (.tup (List.map V.ref qs))):=(same_new hL _).trans (same_new hC _)
   refine ⟨⟨_,sqT_of upd_same⟩,?_⟩
   obtain ⟨Pv,hPv⟩:∃Pv:Nat->St->Hp->Prop,∀i σ' H',Pv i σ' H'↔∃x:Option V,σ'=[some (.ref p),some (.ref L),x]/\Same H H'/\H' L=some (.lst (List.map V.str ((rs.take i).map Rl.names).flatten))/\H' C=some (.tup (List.map V.ref qs)):=⟨_,fun _ _ _=>Iff.rfl⟩
   refine forAll_tup (xs:=List.map V.ref qs) Pv ((hPv _ _ _).mpr ⟨none,rfl,sC,by rw [upd_ne LC,upd_same];rfl,upd_same⟩) (fun i σ' H1 _ pv=>?_) (fun i x σ' H1 hx pv=>?_) (fun σ' H1 pv=>?_)
   ·obtain ⟨_,_,_,_,h⟩:=(hPv _ _ _).mp pv
    exact h
   ·obtain ⟨y,rfl,s1,hL1,hC1⟩:=(hPv _ _ _).mp pv
    obtain ⟨a,ea,rfl⟩:=ref_at hx
    have hi:i < rs.length:=by rw [<-hl];exact (List.getElem?_eq_some_iff.mp ea).1
    have er:rs[i]? = some rs[i]:=List.getElem?_eq_getElem hi
    obtain ⟨ka,kd⟩:=kid i a _ ea er
    have len:((rs.take i).map Rl.names).flatten.length+(rs[i]).names.length<=32:=by
     have:=Rl.len6 h6
     have e2:r.names=((rs.take (i+1)).map Rl.names).flatten++((rs.drop (i+1)).map Rl.names).flatten:=by
      rw [nm,<-List.flatten_append,<-List.map_append,List.take_append_drop]
     rw [e2,take_flat er,List.length_append,List.length_append] at this
     lia
    repeat (walk_at "rl")
    refine ⟨.inl ⟨rfl,_,sqL_of hL1⟩,a,rfl,rs[i],ka.mono (tups_of s1),by lia,by lia,fun M H2 s2 hM hM2=>?_⟩
    repeat (first | walk_at "rl" | simp only [hM2,s2 _ _ hL1])
    refine ⟨small1000' (by lia),(hPv _ _ _).mpr ⟨_,rfl,?_,?_,?_⟩⟩
    ·exact fun b u e=>by rw [upd_ne (ne_of_none e hL)];exact s2 _ _ (s1 _ _ e)
    ·rw [upd_same,take_flat er,List.map_append]
    ·rw [upd_ne LC.symm];exact s2 _ _ hC1
   ·obtain ⟨y,rfl,s1,hL1,hC1⟩:=(hPv _ _ _).mp pv
    repeat (walk_at "rl")
    refine q L H1 s1 hL ?_
    rw [hL1,List.length_map,hl,List.take_length,<-nm]
end
def spNamesOf:Sp:=fun vs H Q _=>∃p,vs=[.ref p]/\∃r,RlAt H r p/\r.deep<=6/\∀L ts H',Same H H'->H L=none->H' L=some (.lst (List.map V.str ts))->(∀z,z∈ts↔z∈r.names)->ts.Nodup->PyProof.Rows.sortedS ts=true->Q (.ref L) H'
section
variable {P:Program} {w:World} {K:PySem.W.Frag} {mg:Str->Option Value} {base:Heap} {t:Adr}
theorem ok_names_of (T:Txt K mg t):FnOk P w K mg base CX0 8 t.a_names_of t.d_names_of ["rule"] spNamesOf:=by
 have G_names_within:=ok_within (P:=P) (w:=w) (base:=base) T 6
 refine T.F_names_of.okZ sc_names_of (fun vs H Q E h=>?_) (fun cdv A outer s H vs Q E hr h hc hf=>?_)
 ·obtain ⟨p,rfl,_⟩:=h;rfl
 obtain ⟨p,rfl,r,ra,h6,q⟩:=h
 refine ⟨_,(by exact zqss_one (zps_ret (zpe_callB (call_sortSetQ hr.hd) (glk hc (by decide +kernel)) T.z_sorted b_sorted (zpa_cons (zpe_callTy (call_setQ hr.hd) (glk hc (by decide +kernel)) T.z_set b_set (zpa_cons (zpe_call G_names_within (hr.mono (by omega)) (glk hc (by decide +kernel)) T.m_names_within T.F_names_within.kp T.b_names_within .nil pass0 (zpa_cons (zpvk hc 0 (by decide +kernel)) zpa_nil)) zpa_nil)) zpa_nil)))),?_⟩
 repeat (walk_at "rl")
 refine ⟨p,rfl,r,ra,h6,h6,fun L H1 s1 hL hL1=>?_⟩
 have l32:=Rl.len6 h6
 repeat (first | walk_at "rl" | simp only [hL1])
 refine ⟨r.names,rfl,by lia,fun Z hZ=>⟨r.names,rfl,by lia,fun ts mem nd srt D hD=>?_⟩⟩
 have s3:=(s1.trans (same_new hZ (TxS w Z r.names))).trans (same_new hD (.lst (List.map V.str ts)))
 exact q D ts _ s3 ((s1.trans (same_new hZ (TxS w Z r.names))).free hD) upd_same mem nd srt
end
local macro_rules | `(tactic| walk_at "rd") => `(tactic| walk_at "rc")
local macro_rules | `(tactic| walk_at "rl") => `(tactic| first | (refine seq_op fun R hR => ?_) | walk_at "ry" | (refine Nx.to (by assumption) _ _ ?_))
def twoB (k:Str) (a b:Bool):Bool:=if k=Str.ofString "and" then a && b else if k=Str.ofString "or" then a || b else if k=Str.ofString "then" then !a || b else a == b
def Rl.val (e:Str->Bool):Rl->Bool
 | .yes=>true
 | .no=>false
 | .var x=>e x
 | .neg a=>!a.val e
 | .two k a b=>twoB k (a.val e) (b.val e)
def Fact (kvs:List (Key×V)) (ns:List Str):Prop:=∀x∈ns,∃b,valV kvs (Sum.inr x)=some (.bl b)
def envK (kvs:List (Key×V)) (x:Str):Bool:=match valV kvs (Sum.inr x) with | some (.bl b)=>b | _=>false
theorem envK_of {kvs:List (Key×V)} {x:Str} {b:Bool} (h:valV kvs (Sum.inr x)=some (.bl b)):envK kvs x=b:=by unfold envK;rw [h]
theorem Fact.left {kvs:List (Key×V)} {a b:List Str} (h:Fact kvs (a++b)):Fact kvs a:=fun x hx=>h x (List.mem_append_left _ hx)
theorem Fact.right {kvs:List (Key×V)} {a b:List Str} (h:Fact kvs (a++b)):Fact kvs b:=fun x hx=>h x (List.mem_append_right _ hx)
theorem bw_ne:∀k∈bw,k≠Str.ofString "yes"/\k≠Str.ofString "no"/\k≠Str.ofString "is"/\k≠Str.ofString "not":=by decide
theorem ne_words:Str.ofString "no"≠Str.ofString "yes"/\Str.ofString "is"≠Str.ofString "yes"/\Str.ofString "is"≠Str.ofString "no"/\Str.ofString "not"≠Str.ofString "yes"/\Str.ofString "not"≠Str.ofString "no"/\Str.ofString "not"≠Str.ofString "is":=by decide
def spTwo:Sp:=fun vs H Q _=>∃k a b,vs=[.str k,.bl a,.bl b]/\Q (.bl (twoB k a b)) H
def spTruth (d:Nat):Sp:=fun vs H Q _=>∃p f,vs=[.ref p,.ref f]/\∃r,RlAt H r p/\r.deep<=d/\∃kvs,H f=some (.dK kvs)/\Fact kvs r.names/\Q (.bl (r.val (envK kvs))) H
section
variable {P:Program} {w:World} {K:PySem.W.Frag} {mg:Str->Option Value} {base:Heap} {t:Adr}
theorem ok_two (T:Txt K mg t):FnOk P w K mg base CX0 1 t.a_truth_of_two t.d_truth_of_two ["word","one","other"] spTwo:=by
 refine T.F_truth_of_two.okZ sc_truth_of_two (fun vs H Q E h=>?_) (fun cdv A outer s H vs Q E hr h hc hf=>?_)
 ·obtain ⟨k,a,b,rfl,_⟩:=h;rfl
 obtain ⟨k,a,b,rfl,q⟩:=h
 have hu:=hu_of hr
 have hu0:=hr.units0
 refine ⟨_,(by apply zqss_cons;exact (zqs_if (zpt_cmpR op_eq (zpvk hc 0 (by decide +kernel)) zpe_str (nomark _)) (by exact zqss_one (zps_ret (zpe_and (zpvk hc 1 (by decide +kernel)) (zpe_one (zpvk hc 2 (by decide +kernel)))))) zqss_nil);apply zqss_cons;exact (zqs_if (zpt_cmpR op_eq (zpvk hc 0 (by decide +kernel)) zpe_str (nomark _)) (by exact zqss_one (zps_ret (zpe_or (zpvk hc 1 (by decide +kernel)) (zpe_one (zpvk hc 2 (by decide +kernel)))))) zqss_nil);apply zqss_cons;exact (zqs_if (zpt_cmpR op_eq (zpvk hc 0 (by decide +kernel)) zpe_str (nomark _)) (by exact zqss_one (zps_ret (zpe_or (zpe_not (zpvk hc 1 (by decide +kernel))) (zpe_one (zpvk hc 2 (by decide +kernel)))))) zqss_nil);exact zqss_one (zps_ret (zpe_cmpR op_eq (zpvk hc 1 (by decide +kernel)) (zpvk hc 2 (by decide +kernel)) (nomark _)))),?_⟩
 repeat (walk_at "rl")
 unfold twoB at q
 split
 ·rename_i h;rw [if_pos h] at q;cases a <;> exact q
 ·rename_i h1;rw [if_neg h1] at q
  repeat (walk_at "rl")
  split
  ·rename_i h;rw [if_pos h] at q;cases a <;> exact q
  ·rename_i h2;rw [if_neg h2] at q
   repeat (walk_at "rl")
   split
   ·rename_i h;rw [if_pos h] at q;cases a <;> exact q
   ·repeat (walk_at "rl")
    rename_i h3;rw [if_neg h3] at q;cases a <;> cases b <;> exact q
theorem ok_truth (T:Txt K mg t):∀d:Nat,FnOk P w K mg base CX0 (d+2) t.a_truth_of t.d_truth_of ["rule","facts"] (spTruth d)
 | 0=>T.F_truth_of.okZ (k:=1) sc_truth_of (fun vs H Q E h=>by obtain ⟨p,f,rfl,_⟩:=h;rfl) (fun cdv A outer s H vs Q E hr h hc hf=>by obtain ⟨p,f,rfl,r,_,h1,_⟩:=h;have:=r.pos;lia)
 | d+1=>by
  have G_truth_of:=ok_truth T d
  have G_truth_of_two:=ok_two (P:=P) (w:=w) (base:=base) T
  refine T.F_truth_of.okZ (k:=d+2) sc_truth_of (fun vs H Q E h=>?_) (fun cdv A outer s H vs Q E hr h hc hf=>?_)
  ·obtain ⟨p,f,rfl,_⟩:=h;rfl
  obtain ⟨p,f,rfl,r,ra,hd,kvs,hF,fa,q⟩:=h
  have hu:=hu_of hr
  have hu0:=hr.units0
  obtain ⟨n1,n2,n3,n4,n5,n6⟩:=ne_words
  refine ⟨_,(by apply zqss_cons;exact (zpsk_set hc sc_truth_of.nd hf 2 (by decide +kernel) (zpe_ix ix_t (zpvk hc 0 (by decide +kernel)) zpe_int (fun _ _=>rfl)));apply zqss_cons;exact (zqs_if (zpt_cmpR op_eq (zpvk hc 2 (by decide +kernel)) zpe_str (nomark _)) (by exact zqss_one (zps_ret zpe_bl)) zqss_nil);apply zqss_cons;exact (zqs_if (zpt_cmpR op_eq (zpvk hc 2 (by decide +kernel)) zpe_str (nomark _)) (by exact zqss_one (zps_ret zpe_bl)) zqss_nil);apply zqss_cons;exact (zqs_if (zpt_cmpR op_eq (zpvk hc 2 (by decide +kernel)) zpe_str (nomark _)) (by exact zqss_one (zps_ret (zpe_dget hu (zpvk hc 1 (by decide +kernel)) (zpe_ix ix_t (zpvk hc 0 (by decide +kernel)) zpe_int (fun _ _=>rfl)) (fun _ _=>rfl)))) zqss_nil);apply zqss_cons;exact (zqs_if (zpt_cmpR op_eq (zpvk hc 2 (by decide +kernel)) zpe_str (nomark _)) (by exact zqss_one (zps_ret (zpe_not (zpe_call G_truth_of (hr.mono (by omega)) (glk hc (by decide +kernel)) T.m_truth_of T.F_truth_of.kp T.b_truth_of .nil pass0 (zpa_cons (zpe_ix ix_t (zpvk hc 0 (by decide +kernel)) zpe_int (fun _ _=>rfl)) (zpa_cons (zpvk hc 1 (by decide +kernel)) zpa_nil)))))) zqss_nil);exact zqss_one (zps_ret (zpe_call G_truth_of_two (hr.mono (by omega)) (glk hc (by decide +kernel)) T.m_truth_of_two T.F_truth_of_two.kp T.b_truth_of_two .nil pass0 (zpa_cons (zpvk hc 2 (by decide +kernel)) (zpa_cons (zpe_call G_truth_of (hr.mono (by omega)) (glk hc (by decide +kernel)) T.m_truth_of T.F_truth_of.kp T.b_truth_of .nil pass0 (zpa_cons (zpe_ix ix_t (zpvk hc 0 (by decide +kernel)) zpe_int (fun _ _=>rfl)) (zpa_cons (zpvk hc 1 (by decide +kernel)) zpa_nil))) (zpa_cons (zpe_call G_truth_of (hr.mono (by omega)) (glk hc (by decide +kernel)) T.m_truth_of T.F_truth_of.kp T.b_truth_of .nil pass0 (zpa_cons (zpe_ix ix_t (zpvk hc 0 (by decide +kernel)) zpe_int (fun _ _=>rfl)) (zpa_cons (zpvk hc 1 (by decide +kernel)) zpa_nil))) zpa_nil)))))),?_⟩
  match r,ra,q with
  | .yes,ra,q=>
   have hp:H p=some (.tup [.str (Str.ofString "yes")]):=ra
   repeat (first | walk_at "rl" | simp only [hp])
   exact q
  | .no,ra,q=>
   have hp:H p=some (.tup [.str (Str.ofString "no")]):=ra
   repeat (first | walk_at "rl" | simp only [hp,n1,if_false])
   exact q
  | .var x,ra,q=>
   have hp:H p=some (.tup [.str (Str.ofString "is"),.str x]):=ra
   obtain ⟨b,hb⟩:=fa x List.mem_cons_self
   repeat (first | walk_at "rl" | simp only [hp,n2,n3,if_false,tDGet])
   refine ⟨.bl b,(by have:=DGet.k (k:=Sum.inr x) hF;rw [hb] at this;exact this),?_⟩
   have e:(Rl.var x).val (envK kvs)=b:=envK_of hb
   rw [e] at q;exact q
  | .neg a,ra,q=>
   obtain ⟨q1,hp,ra1⟩:=ra
   have d1:a.deep+1<=d+1:=hd
   repeat (first | walk_at "rl" | simp only [hp,n4,n5,n6,if_false])
   exact ⟨q1,f,rfl,a,ra1,by lia,kvs,hF,fa,_,rfl,q⟩
  | .two k a b,ra,q=>
   obtain ⟨hk,q1,q2,hp,ra1,ra2⟩:=ra
   obtain ⟨m1,m2,m3,m4⟩:=bw_ne k hk
   have d1:max a.deep b.deep+1<=d+1:=hd
   repeat (first | walk_at "rl" | simp only [hp,m1,m2,m3,m4,if_false])
   refine ⟨q1,f,rfl,a,ra1,by lia,kvs,hF,fa.left,?_⟩
   repeat (first | walk_at "rl" | simp only [hp])
   refine ⟨q2,f,rfl,b,ra2,by lia,kvs,hF,fa.right,?_⟩
   repeat (first | walk_at "rl" | simp only [hp])
   exact ⟨k,_,_,rfl,q⟩
end
theorem str_at {ss:List Str} {i:Nat} {x:V} (h:(List.map V.str ss)[i]? = some x):∃y,ss[i]? = some y/\x=.str y:=by
 rw [List.getElem?_map] at h
 cases e:ss[i]? with
 | none=>rw [e] at h;cases h
 | some q=>rw [e] at h;exact ⟨q,rfl,(Option.some.inj h).symm⟩
theorem same_put' {H H1:Hp} {p:Addr} {o:HO} (a:Same H H1) (hn:H p=none):Same H (upd H1 p o):=fun b u e=>by rw [upd_ne (ne_of_none e hn)];exact a b u e
theorem HandAt.ndict {H:Hp} {h q:Addr} {xs:List (Key×V)} (x:HandAt H h) (e:H q=some (.dK xs)):q≠h:=by
 obtain ⟨l,ns,o,e1,⟨a,b,c,d,f,rfl,_⟩,_⟩:=x
 exact ne_of e e1 (by intro z;cases z)
theorem Dr.same {h:Addr} {H H1 H2:Hp} (d:Dr h H H1) (s:Same H1 H2):Dr h H H2:=⟨fun b o hb e=>s _ _ (d.keep b o hb e),fun l x=>by
 obtain ⟨ns,o,e1,e2,e3⟩:=d.hand l x
 exact ⟨ns,o,s _ _ e1,e2,s _ _ e3⟩⟩
theorem cut_strs (xs:List Str) (lo hi:Option Int):∃ys:List Str,cutV (List.map V.str xs) lo hi=List.map V.str ys/\ys.length<=xs.length:=by
 refine ⟨_,cutV_map V.str xs lo hi,?_⟩
 rw [List.length_take,List.length_drop]
 lia
theorem cutV_to (xs:List V) {k:Int} (hk:0<=k):cutV xs none (some k)=xs.take k.toNat:=by
 have e:HT.sIx xs.length xs.length (some k)=min k.toNat xs.length:=by
  show (if k < 0 then _ else min k.toNat xs.length)=_
  rw [if_neg (by lia)]
 have e0:HT.sIx xs.length 0 none=0:=rfl
 unfold cutV
 rw [e,e0,List.drop_zero,Nat.sub_zero]
 exact (List.take_eq_take_min ..).symm
local macro_rules | `(tactic| walk_at "rd") => `(tactic| walk_at "rc")
local macro_rules | `(tactic| walk_at "rl") => `(tactic| first | (refine seq_op fun R hR => ?_) | walk_at "ry" | (refine Nx.to (by assumption) _ _ ?_))
def Row (ts:List Str) (k:Nat) (kvs:List (Key×V)):Prop:=
 kvs.map (·.1)=ts.map Sum.inr/\∀(j:Nat) s,ts[j]? = some s->valV kvs (Sum.inr s)=some (.bl (decide (k / 2 ^ (ts.length - 1 - j) % 2=1)))
theorem valV_none_of {kvs:List (Key×V)} {k:Key} (h:k∉kvs.map (·.1)):valV kvs k=none:=by
 unfold valV
 rw [Option.map_eq_none_iff,List.find?_eq_none]
 intro kv hkv
 have:kv.1≠k:=fun e=>h (List.mem_map.mpr ⟨kv,hkv,e⟩)
 simpa using this
theorem Row.nil:Row [] 0 []:=⟨rfl,fun j s e=>by simp at e⟩
theorem Row.step {ts:List Str} {t:Str} {k:Nat} {kvs:List (Key×V)} (r:Row ts k kvs) (hn:t∉ts) (b:Bool):Row (ts++[t]) (2 * k+(if b then 1 else 0)) (putK kvs (Sum.inr t) (.bl b)):=by
 obtain ⟨hk,hv⟩:=r
 have hnone:valV kvs (Sum.inr t:Key)=none:=valV_none_of (by rw [hk];intro h;obtain ⟨s,hs,e⟩:=List.mem_map.mp h;exact hn (by rw [<-Sum.inr.inj e];exact hs))
 refine ⟨by rw [putK_new _ hnone,List.map_append,hk,List.map_append];rfl,fun j s e=>?_⟩
 rw [valV_put,List.length_append,List.length_singleton]
 by_cases hj:j < ts.length
 ·rw [List.getElem?_append_left hj] at e
  have hs:s∈ts:=List.mem_of_getElem? e
  have hne:¬((Sum.inr s:Key)=Sum.inr t):=fun z=>hn (by rw [<-Sum.inr.inj z];exact hs)
  rw [if_neg hne,hv j s e]
  have e1:ts.length+1 - 1 - j=(ts.length - 1 - j)+1:=by lia
  rw [e1,Nat.pow_succ,Nat.mul_comm (2 ^ _) 2,<-Nat.div_div_eq_div_mul]
  have e2:(2 * k+if b=true then 1 else 0) / 2=k:=by cases b <;> simp <;> lia
  rw [e2]
 ·rw [List.getElem?_append_right (by lia)] at e
  have h0:j - ts.length=0:=by
   cases z:j - ts.length with
   | zero=>rfl
   | succ n=>rw [z] at e;cases e
  rw [h0] at e
  cases e
  have e1:ts.length+1 - 1 - j=0:=by lia
  rw [if_pos rfl,e1,Nat.pow_zero,Nat.div_one]
  cases b
  ·have:¬((2 * k+if false=true then 1 else 0) % 2=1):=by simp <;> lia
   rw [decide_eq_false this]
  ·have:(2 * k+if true=true then 1 else 0) % 2=1:=by simp <;> lia
   rw [decide_eq_true this]
theorem Row.len {ts:List Str} {k:Nat} {kvs:List (Key×V)} (r:Row ts k kvs):kvs.length=ts.length:=by
 have:=congrArg List.length r.1
 simpa using this
def Rows (H0 H:Hp) (as:List Addr) (ts:List Str):Prop:=∀(k:Nat) b,as[k]? = some b->H0 b=none/\∃kvs,H b=some (.dK kvs)/\Row ts k kvs
theorem Rows.mono {H0 H H':Hp} {as:List Addr} {ts:List Str} (r:Rows H0 H as ts) (h:∀b kvs,H b=some (.dK kvs)->H' b=some (.dK kvs)):Rows H0 H' as ts:=fun k b e=>
 let ⟨h1,kvs,h2,h3⟩:=r k b e;⟨h1,kvs,h b kvs h2,h3⟩
theorem Rows.snoc {H0 H:Hp} {as:List Addr} {ts:List Str} {p:Addr} {kvs:List (Key×V)} (r:Rows H0 H as ts) (h0:H0 p=none) (hp:H p=some (.dK kvs)) (hr:Row ts as.length kvs):Rows H0 H (as++[p]) ts:=fun k b e=>by
 by_cases hk:k < as.length
 ·rw [List.getElem?_append_left hk] at e;exact r k b e
 ·rw [List.getElem?_append_right (by lia)] at e
  have h0':k - as.length=0:=by
   cases z:k - as.length with
   | zero=>rfl
   | succ n=>rw [z] at e;cases e
  rw [h0'] at e
  have:k=as.length:=by lia
  subst this
  cases e
  exact ⟨h0,kvs,hp,hr⟩
theorem same_put {H H1:Hp} {p:Addr} {o:HO} (a:Same H H1) (hn:H p=none):Same H (upd H1 p o):=fun b u e=>by rw [upd_ne (ne_of_none e hn)];exact a b u e
def spWith:Sp:=fun vs H Q _=>∃a s b,vs=[.ref a,.str s,.bl b]/\∃kvs,H a=some (.dK kvs)/\kvs.length<=900/\∀p,H p=none->Q (.ref p) (upd H p (.dK (putK kvs (Sum.inr s) (.bl b))))
def spFacts:Sp:=fun vs H Q _=>∃a,vs=[.ref a]/\∃ss:List Str,H a=some (.lst (List.map V.str ss))/\ss.length<=6/\ss.Nodup/\
 ∀R as ts H',Same H H'->H R=none->H' R=some (.lst (List.map V.ref as))->ts.Perm ss->PyProof.Rows.sortedS ts=true->as.length=2 ^ ts.length->Rows H H' as ts->Q (.ref R) H'
section
variable {P:Program} {w:World} {K:PySem.W.Frag} {mg:Str->Option Value} {base:Heap} {t:Adr}
theorem ok_with (T:Txt K mg t):FnOk P w K mg base CX0 1 t.a_with_fact t.d_with_fact ["facts","name","truth"] spWith:=by
 refine T.F_with_fact.okZ sc_with_fact (fun vs H Q E h=>?_) (fun cdv A outer s H vs Q E hr h hc hf=>?_)
 ·obtain ⟨a,s,b,rfl,_⟩:=h;rfl
 obtain ⟨a,s,b,rfl,kvs,ha,hl,q⟩:=h
 have hu:=hu_of hr
 refine ⟨_,(by apply zqss_cons;exact (zpsk_set hc sc_with_fact.nd hf 3 (by decide +kernel) (zpe_callTy call_dictDK (glk hc (by decide +kernel)) T.z_dict b_dict (zpa_cons (zpvk hc 0 (by decide +kernel)) zpa_nil)));apply zqss_cons;exact (zps_dput hu (zpvk hc 3 (by decide +kernel)) (zpvk hc 1 (by decide +kernel)) (zpvk hc 2 (by decide +kernel)) rfl);exact zqss_one (zps_ret (zpvk hc 3 (by decide +kernel)))),?_⟩
 repeat (first | walk_at "rl" | simp only [ha])
 intro p hp
 repeat (walk_at "rl")
 simp only [sDPut,tVar,List.getElem?_cons_zero,List.getElem?_cons_succ,Option.some.injEq,exists_eq_left']
 refine ⟨p,_,rfl,DPut.k (k:=Sum.inr s) upd_same (small1000 (by lia)),?_⟩
 rw [upd_upd]
 repeat (walk_at "rl")
 exact q p hp
theorem ok_facts (T:Txt K mg t):FnOk P w K mg base CX0 2 t.a_all_facts t.d_all_facts ["names"] spFacts:=by
 have G_with_fact:=ok_with (P:=P) (w:=w) (base:=base) T
 refine T.F_all_facts.okZ sc_all_facts (fun vs H Q E h=>?_) (fun cdv A outer s H vs Q E hr h hc hf=>?_)
 ·obtain ⟨a,rfl,_⟩:=h;rfl
 obtain ⟨a,rfl,ss,ha,hl,nd,q⟩:=h
 refine ⟨_,(by apply zqss_cons;exact (zpsk_set hc sc_all_facts.nd hf 1 (by decide +kernel) (zpe_lst (zpa_cons zpe_dnewK zpa_nil)));apply zqss_cons;exact (zqs_for PassesOwn.never rfl (zpi_list (zpe_callB call_sortedS (glk hc (by decide +kernel)) T.z_sorted b_sorted (zpa_cons (zpvk hc 0 (by decide +kernel)) zpa_nil))) (zpgk hc sc_all_facts.nd hf 2 (by decide +kernel)) (by apply zqss_cons;exact (zpsk_set hc sc_all_facts.nd hf 3 (by decide +kernel) (zpe_lst zpa_nil));apply zqss_cons;exact (zqs_for PassesOwn.never rfl (zpi_list (zpvk hc 1 (by decide +kernel))) (zpgk hc sc_all_facts.nd hf 4 (by decide +kernel)) (by apply zqss_cons;exact (zps_expr (zpe_bm PySem.F.plainAttrs_list PySem.F.slot_list_append PySem.F.type_list_append mt_append (zpvk hc 3 (by decide +kernel)) (zpa_cons (zpe_call G_with_fact (hr.mono (by omega)) (glk hc (by decide +kernel)) T.m_with_fact T.F_with_fact.kp T.b_with_fact .nil pass0 (zpa_cons (zpvk hc 4 (by decide +kernel)) (zpa_cons (zpvk hc 2 (by decide +kernel)) (zpa_cons zpe_bl zpa_nil)))) zpa_nil)));exact zqss_one (zps_expr (zpe_bm PySem.F.plainAttrs_list PySem.F.slot_list_append PySem.F.type_list_append mt_append (zpvk hc 3 (by decide +kernel)) (zpa_cons (zpe_call G_with_fact (hr.mono (by omega)) (glk hc (by decide +kernel)) T.m_with_fact T.F_with_fact.kp T.b_with_fact .nil pass0 (zpa_cons (zpvk hc 4 (by decide +kernel)) (zpa_cons (zpvk hc 2 (by decide +kernel)) (zpa_cons zpe_bl zpa_nil)))) zpa_nil)))));exact zqss_one (zpsk_set hc sc_all_facts.nd hf 1 (by decide +kernel) (zpvk hc 3 (by decide +kernel)))));exact zqss_one (zps_ret (zpvk hc 1 (by decide +kernel)))),?_⟩
 repeat (walk_at "rl")
 intro d hd
 refine ⟨by decide,fun R hR=>?_⟩
 have s1:Same H (upd H d (.dK [])):=same_new hd _
 have s2:Same H (upd (upd H d (.dK [])) R (.lst [.ref d])):=s1.trans (same_new hR _)
 repeat (walk_at "rl")
 refine ⟨ss,s2 _ _ ha,by lia,fun ts hp hs TS hTS=>?_⟩
 have s3:=s2.trans (same_new hTS (.lst (List.map V.str ts)))
 have hRT:R≠TS:=ne_of_none upd_same hTS
 have hdR:d≠R:=ne_of_none upd_same hR
 have hdT:d≠TS:=ne_of_none (by rw [upd_ne hdR,upd_same]) hTS
 have ndt:ts.Nodup:=hp.nodup_iff.mpr nd
 have lt6:ts.length<=6:=by have:=hp.length_eq;lia
 refine ⟨⟨_,sqL_of upd_same⟩,?_⟩
 obtain ⟨Pv,hPv⟩:∃Pv:Nat->St->Hp->Prop,∀i σ' H',Pv i σ' H'↔∃(R:Addr) (as:List Addr) (x y z:Option V),σ'=[some (.ref a),some (.ref R),x,y,z]/\Same H H'/\H R=none/\H' R=some (.lst (List.map V.ref as))/\H' TS=some (.lst (List.map V.str ts))/\as.length=2 ^ i/\Rows H H' as (ts.take i):=⟨_,fun _ _ _=>Iff.rfl⟩
 refine forAll_list (xs:=List.map V.str ts) Pv ((hPv _ _ _).mpr ⟨R,[d],none,none,none,rfl,s3,s1.free hR,by rw [upd_ne hRT,upd_same];rfl,upd_same,rfl,fun k b e=>?_⟩) (fun i σ' H' _ pv=>?_) (fun i x σ' H1 hx pv=>?_) (fun σ' H1 pv=>?_)
 ·have hk:k=0:=by
   cases k with
   | zero=>rfl
   | succ n=>simp at e
  subst hk
  cases e
  exact ⟨hd,[],by rw [upd_ne hdT,upd_ne hdR,upd_same],Row.nil⟩
 ·obtain ⟨_,_,_,_,_,_,_,_,_,h,_⟩:=(hPv _ _ _).mp pv
  exact h
 ·obtain ⟨R,as,x1,x2,x3,rfl,s4,hR0,hR4,hT4,hal,rows⟩:=(hPv _ _ _).mp pv
  rw [List.getElem?_map] at hx
  obtain ⟨n,en,rfl⟩:∃n,ts[i]? = some n/\V.str n=x:=by
   cases e:ts[i]? with
   | none=>rw [e] at hx;cases hx
   | some n=>rw [e] at hx;exact ⟨n,rfl,Option.some.inj hx⟩
  have hil:i < ts.length:=(List.getElem?_eq_some_iff.mp en).1
  have et:ts.take (i+1)=ts.take i++[n]:=by rw [List.take_add_one,en];rfl
  have hni:n∉ts.take i:=fun hm=>by
   have:=ndt.sublist (List.take_sublist (i+1) ts)
   rw [et,List.nodup_append] at this
   exact this.2.2 n hm n (by simp) rfl
  repeat (walk_at "rl")
  refine ⟨by decide,fun L hL=>?_⟩
  have s5:=s4.trans (same_new hL (.lst []))
  have hRL:R≠L:=ne_of_none hR4 hL
  have hTL:TS≠L:=ne_of_none hT4 hL
  have hL0:H L=none:=s4.free hL
  repeat (walk_at "rl")
  refine ⟨⟨List.map V.ref as,sqL_of (by rw [upd_ne hRL];exact hR4)⟩,?_⟩
  obtain ⟨Pw,hPw⟩:∃Pw:Nat->St->Hp->Prop,∀k σ' H',Pw k σ' H'↔∃(bs:List Addr) (z:Option V),σ'=[some (.ref a),some (.ref R),some (.str n),some (.ref L),z]/\Same H H'/\H' R=some (.lst (List.map V.ref as))/\H' TS=some (.lst (List.map V.str ts))/\H' L=some (.lst (List.map V.ref bs))/\bs.length=2 * k/\Rows H H' as (ts.take i)/\Rows H H' bs (ts.take (i+1)):=⟨_,fun _ _ _=>Iff.rfl⟩
  have hb64:as.length<=64:=by
   rw [hal]
   exact Nat.le_trans (Nat.pow_le_pow_right (by decide) (show i<=6 by lia)) (by decide)
  refine forAll_list (xs:=List.map V.ref as) Pw ((hPw _ _ _).mpr ⟨[],x3,rfl,s5,by rw [upd_ne hRL];exact hR4,by rw [upd_ne hTL];exact hT4,upd_same,rfl,rows.mono fun b kvs e=>by rw [upd_ne (ne_of_none e hL)];exact e,fun k b e=>by simp at e⟩) (fun k σ' H' _ pv=>?_) (fun k x σ' H2 hx pv=>?_) (fun σ' H2 pv=>?_)
  ·obtain ⟨_,_,_,_,h,_⟩:=(hPw _ _ _).mp pv
   exact h
  ·obtain ⟨bs,z,rfl,s6,hR6,hT6,hL6,hbl,ra,rb⟩:=(hPw _ _ _).mp pv
   rw [List.getElem?_map] at hx
   obtain ⟨f,ef,rfl⟩:∃f,as[k]? = some f/\V.ref f=x:=by
    cases e:as[k]? with
    | none=>rw [e] at hx;cases hx
    | some f=>rw [e] at hx;exact ⟨f,rfl,Option.some.inj hx⟩
   have hkl:k < as.length:=(List.getElem?_eq_some_iff.mp ef).1
   obtain ⟨hf0,kvs,hf6,rf⟩:=ra k f ef
   have lkv:kvs.length<=6:=by rw [rf.len,List.length_take];lia
   have hfL:f≠L:=ne_of hf6 hL6 (by intro z;cases z)
   repeat (first | walk_at "rl" | simp only [hL6])
   refine ⟨.inl ⟨rfl,_,sqL_of hL6⟩,f,n,false,rfl,kvs,hf6,by lia,fun p hp2=>?_⟩
   have hpL:L≠p:=ne_of_none hL6 hp2
   have hpR:R≠p:=ne_of_none hR6 hp2
   have hpT:TS≠p:=ne_of_none hT6 hp2
   have hpf:f≠p:=ne_of_none hf6 hp2
   repeat (first | walk_at "rl" | simp only [upd_ne hpL,hL6])
   refine ⟨small1000 (by rw [hbl];lia),?_⟩
   repeat (walk_at "rl")
   refine ⟨.inl ⟨rfl,_,sqL_of upd_same⟩,f,n,true,rfl,kvs,by rw [upd_ne hfL,upd_ne hpf];exact hf6,by lia,fun p2 hp3=>?_⟩
   have hp2L:L≠p2:=ne_of_none upd_same hp3
   have hp2p:p≠p2:=ne_of_none (H:=upd (upd H2 p _) L _) (by rw [upd_ne hpL.symm,upd_same]) hp3
   repeat (first | walk_at "rl" | simp only [upd_ne hp2L])
   refine ⟨by rw [List.length_append,List.length_map,List.length_singleton,hbl];exact small1000 (by lia),(hPw _ _ _).mpr ⟨bs++[p]++[p2],_,rfl,?_⟩⟩
   have hpn:H p=none:=s6.free hp2
   have sa:Same H (upd (upd H2 p (.dK (putK kvs (Sum.inr n) (.bl false)))) L (.lst (List.map V.ref bs++[V.ref p]))):=same_put (same_put s6 hpn) hL0
   have hp2n:H p2=none:=sa.free hp3
   have hp2R:R≠p2:=ne_of_none (H:=upd (upd H2 p _) L _) (by rw [upd_ne hRL,upd_ne hpR];exact hR6) hp3
   have hp2T:TS≠p2:=ne_of_none (H:=upd (upd H2 p _) L _) (by rw [upd_ne hTL,upd_ne hpT];exact hT6) hp3
   have kd:∀b kv,H2 b=some (.dK kv)->(upd (upd (upd (upd H2 p (.dK (putK kvs (Sum.inr n) (.bl false)))) L (.lst (List.map V.ref bs++[V.ref p]))) p2 (.dK (putK kvs (Sum.inr n) (.bl true)))) L (.lst (List.map V.ref bs++[V.ref p]++[V.ref p2]))) b=some (.dK kv):=fun b kv e=>by
    have n1:b≠p:=ne_of_none e hp2
    have n2:b≠L:=ne_of e hL6 (by intro z;cases z)
    have n3:b≠p2:=ne_of_none (H:=upd (upd H2 p _) L _) (by rw [upd_ne n2,upd_ne n1];exact e) hp3
    rw [upd_ne n2,upd_ne n3,upd_ne n2,upd_ne n1];exact e
   refine ⟨same_put (same_put sa hp2n) hL0,by rw [upd_ne hRL,upd_ne hp2R,upd_ne hRL,upd_ne hpR];exact hR6,by rw [upd_ne hTL,upd_ne hp2T,upd_ne hTL,upd_ne hpT];exact hT6,by rw [upd_same,List.map_append,List.map_append];rfl,by simp [hbl];lia,ra.mono kd,?_⟩
   have r0:=rf.step (t:=n) hni false
   have r1:=rf.step (t:=n) hni true
   rw [<-et] at r0 r1
   have q1:=(rb.mono kd).snoc (p:=p) hpn (by rw [upd_ne hpL.symm,upd_ne hp2p,upd_ne hpL.symm,upd_same]) (by rw [hbl];exact r0)
   exact q1.snoc (p:=p2) hp2n (by rw [upd_ne hp2L.symm,upd_same]) (by rw [List.length_append,List.length_singleton,hbl];exact r1)
  ·obtain ⟨bs,z,rfl,s6,hR6,hT6,hL6,hbl,ra,rb⟩:=(hPw _ _ _).mp pv
   repeat (walk_at "rl")
   refine (hPv _ _ _).mpr ⟨L,bs,_,_,_,rfl,s6,hL0,hL6,hT6,?_,rb⟩
   rw [hbl,List.length_map,hal,Nat.pow_succ,Nat.mul_comm]
 ·obtain ⟨R,as,x1,x2,x3,rfl,s4,hR0,hR4,hT4,hal,rows⟩:=(hPv _ _ _).mp pv
  repeat (walk_at "rl")
  rw [List.length_map,List.take_length] at rows
  rw [List.length_map] at hal
  exact q R as ts H1 s4 hR0 hR4 hp hs hal rows
end
local macro_rules | `(tactic| walk_at "rd") => `(tactic| walk_at "rc")
local macro_rules | `(tactic| walk_at "rl") => `(tactic| first | (refine seq_op fun R hR => ?_) | walk_at "ry" | (refine Nx.to (by assumption) _ _ ?_))
def spLHolds (d:Nat):Sp:=fun vs H Q _=>∃p f,vs=[.ref p,.ref f]/\∃r,RlAt H r p/\r.deep<=d/\∃kvs,H f=some (.dK kvs)/\Fact kvs r.names/\Q (.bl (r.val (envK kvs))) H
section
variable {P:Program} {w:World} {K:PySem.W.Frag} {mg:Str->Option Value} {base:Heap} {t:Adr}
theorem ok_lholds (T:Txt K mg t):∀d:Nat,FnOk P w K mg base CX0 (d+1) t.a__law_holds t.d__law_holds ["_law_rule_here","_law_facts"] (spLHolds d)
 | 0=>T.F__law_holds.okZ (k:=0) sc__law_holds (fun vs H Q E h=>by obtain ⟨p,f,rfl,_⟩:=h;rfl) (fun cdv A outer s H vs Q E hr h hc hf=>by obtain ⟨p,f,rfl,r,_,h1,_⟩:=h;have:=r.pos;lia)
 | d+1=>by
  have G__law_holds:=ok_lholds T d
  refine T.F__law_holds.okZ (k:=d+1) sc__law_holds (fun vs H Q E h=>?_) (fun cdv A outer s H vs Q E hr h hc hf=>?_)
  ·obtain ⟨p,f,rfl,_⟩:=h;rfl
  obtain ⟨p,f,rfl,r,ra,hd,kvs,hF,fa,q⟩:=h
  have hu:=hu_of hr
  have hu0:=hr.units0
  obtain ⟨n1,n2,n3,n4,n5,n6⟩:=ne_words
  refine ⟨_,(by apply zqss_cons;exact (zpsk_set hc sc__law_holds.nd hf 2 (by decide +kernel) (zpe_ix ix_t (zpvk hc 0 (by decide +kernel)) zpe_int (fun _ _=>rfl)));apply zqss_cons;exact (zqs_if (zPWpt (zpw_or (zpt_cmpR op_eq (zpvk hc 2 (by decide +kernel)) zpe_str (nomark _)) (zpw_or1 (zpt_cmpR op_eq (zpvk hc 2 (by decide +kernel)) zpe_str (nomark _))))) (by exact zqss_one (zps_ret (zpe_cmpR op_eq (zpvk hc 2 (by decide +kernel)) zpe_str (nomark _)))) zqss_nil);apply zqss_cons;exact (zqs_if (zpt_cmpR op_eq (zpvk hc 2 (by decide +kernel)) zpe_str (nomark _)) (by exact zqss_one (zps_ret (zpe_dget hu (zpvk hc 1 (by decide +kernel)) (zpe_ix ix_t (zpvk hc 0 (by decide +kernel)) zpe_int (fun _ _=>rfl)) (fun _ _=>rfl)))) zqss_nil);apply zqss_cons;exact (zpsk_set hc sc__law_holds.nd hf 3 (by decide +kernel) (zpe_call G__law_holds (hr.mono (by omega)) (glk hc (by decide +kernel)) T.m__law_holds T.F__law_holds.kp T.b__law_holds .nil pass0 (zpa_cons (zpe_ix ix_t (zpvk hc 0 (by decide +kernel)) zpe_int (fun _ _=>rfl)) (zpa_cons (zpvk hc 1 (by decide +kernel)) zpa_nil))));apply zqss_cons;exact (zqs_if (zpt_cmpR op_eq (zpvk hc 2 (by decide +kernel)) zpe_str (nomark _)) (by exact zqss_one (zps_ret (zpe_not (zpvk hc 3 (by decide +kernel))))) zqss_nil);apply zqss_cons;exact (zpsk_set hc sc__law_holds.nd hf 4 (by decide +kernel) (zpe_call G__law_holds (hr.mono (by omega)) (glk hc (by decide +kernel)) T.m__law_holds T.F__law_holds.kp T.b__law_holds .nil pass0 (zpa_cons (zpe_ix ix_t (zpvk hc 0 (by decide +kernel)) zpe_int (fun _ _=>rfl)) (zpa_cons (zpvk hc 1 (by decide +kernel)) zpa_nil))));apply zqss_cons;exact (zqs_if (zpt_cmpR op_eq (zpvk hc 2 (by decide +kernel)) zpe_str (nomark _)) (by exact zqss_one (zps_ret (zpe_and (zpvk hc 3 (by decide +kernel)) (zpe_one (zpvk hc 4 (by decide +kernel)))))) zqss_nil);apply zqss_cons;exact (zqs_if (zpt_cmpR op_eq (zpvk hc 2 (by decide +kernel)) zpe_str (nomark _)) (by exact zqss_one (zps_ret (zpe_or (zpvk hc 3 (by decide +kernel)) (zpe_one (zpvk hc 4 (by decide +kernel)))))) zqss_nil);apply zqss_cons;exact (zqs_if (zpt_cmpR op_eq (zpvk hc 2 (by decide +kernel)) zpe_str (nomark _)) (by exact zqss_one (zps_ret (zpe_or (zpe_not (zpvk hc 3 (by decide +kernel))) (zpe_one (zpvk hc 4 (by decide +kernel)))))) zqss_nil);exact zqss_one (zps_ret (zpe_cmpR op_eq (zpvk hc 3 (by decide +kernel)) (zpvk hc 4 (by decide +kernel)) (nomark _)))),?_⟩
  match r,ra,q with
  | .yes,ra,q=>
   have hp:H p=some (.tup [.str (Str.ofString "yes")]):=ra
   repeat (first | walk_at "rl" | simp only [hp])
   simpa [Rl.val] using q
  | .no,ra,q=>
   have hp:H p=some (.tup [.str (Str.ofString "no")]):=ra
   repeat (first | walk_at "rl" | simp only [hp,n1,if_false])
   simpa [Rl.val] using q
  | .var x,ra,q=>
   have hp:H p=some (.tup [.str (Str.ofString "is"),.str x]):=ra
   obtain ⟨b,hb⟩:=fa x List.mem_cons_self
   repeat (first | walk_at "rl" | simp only [hp,n2,n3,if_false,tDGet])
   refine ⟨.bl b,(by have:=DGet.k (k:=Sum.inr x) hF;rw [hb] at this;exact this),?_⟩
   have e:(Rl.var x).val (envK kvs)=b:=envK_of hb
   rw [e] at q;exact q
  | .neg a,ra,q=>
   obtain ⟨q1,hp,ra1⟩:=ra
   have d1:a.deep+1<=d+1:=hd
   repeat (first | walk_at "rl" | simp only [hp,n4,n5,n6,if_false])
   refine ⟨q1,f,rfl,a,ra1,by lia,kvs,hF,fa,?_⟩
   repeat (first | walk_at "rl" | simp only [hp,n4,n5,n6,if_false])
   exact q
  | .two k a b,ra,q=>
   obtain ⟨hk,q1,q2,hp,ra1,ra2⟩:=ra
   obtain ⟨m1,m2,m3,m4⟩:=bw_ne k hk
   have d1:max a.deep b.deep+1<=d+1:=hd
   repeat (first | walk_at "rl" | simp only [hp,m1,m2,m3,m4,if_false])
   refine ⟨q1,f,rfl,a,ra1,by lia,kvs,hF,fa.left,?_⟩
   repeat (first | walk_at "rl" | simp only [hp,m1,m2,m3,m4,if_false])
   refine ⟨q2,f,rfl,b,ra2,by lia,kvs,hF,fa.right,?_⟩
   have q':Q (.bl (twoB k (a.val (envK kvs)) (b.val (envK kvs)))) H:=q
   generalize a.val (envK kvs)=va at q' ⊢
   generalize b.val (envK kvs)=vb at q' ⊢
   repeat (first | walk_at "rl" | simp only [hp,m1,m2,m3,m4,if_false])
   unfold twoB at q'
   split
   ·rename_i h;rw [if_pos h] at q';cases va <;> exact q'
   ·rename_i h1;rw [if_neg h1] at q'
    repeat (walk_at "rl")
    split
    ·rename_i h;rw [if_pos h] at q';cases va <;> exact q'
    ·rename_i h2;rw [if_neg h2] at q'
     repeat (walk_at "rl")
     split
     ·rename_i h;rw [if_pos h] at q';cases va <;> exact q'
     ·repeat (walk_at "rl")
      rename_i h3;rw [if_neg h3] at q';cases va <;> cases vb <;> exact q'
end
def spLRows:Sp:=fun vs H Q _=>∃N,vs=[.ref N]/\∃ts:List Str,H N=some (.lst (List.map V.str ts))/\ts.length<=8/\ts.Nodup/\
 ∀R as H',Same H H'->H R=none->H' R=some (.lst (List.map V.ref as))->as.length=2 ^ ts.length->Rows H H' as ts->Q (.ref R) H'
section
variable {P:Program} {w:World} {K:PySem.W.Frag} {mg:Str->Option Value} {base:Heap} {t:Adr}
theorem ok_lrows (T:Txt K mg t):FnOk P w K mg base CX0 1 t.a__law_all_facts t.d__law_all_facts ["_law_names_here"] spLRows:=by
 refine T.F__law_all_facts.okZ sc__law_all_facts (fun vs H Q E h=>?_) (fun cdv A outer s H vs Q E hr h hc hf=>?_)
 ·obtain ⟨N,rfl,_⟩:=h;rfl
 obtain ⟨N,rfl,ts,hN,l8,nd,q⟩:=h
 have hu:=hu_of hr
 have hu0:=hr.units0
 refine ⟨_,(by apply zqss_cons;exact (zpsk_set hc sc__law_all_facts.nd hf 1 (by decide +kernel) (zpe_lst (zpa_cons zpe_dnewK zpa_nil)));apply zqss_cons;exact (zqs_for PassesOwn.never rfl (zpi_list (zpvk hc 0 (by decide +kernel))) (zpgk hc sc__law_all_facts.nd hf 2 (by decide +kernel)) (by apply zqss_cons;exact (zpsk_set hc sc__law_all_facts.nd hf 3 (by decide +kernel) (zpe_lst zpa_nil));apply zqss_cons;exact (zqs_for PassesOwn.never rfl (zpi_list (zpvk hc 1 (by decide +kernel))) (zpgk hc sc__law_all_facts.nd hf 4 (by decide +kernel)) (by exact zqss_one (zqs_for PassesOwn.never rfl (zpi_tup (zpe_tup (zpa_cons zpe_bl (zpa_cons zpe_bl zpa_nil)))) (zpgk hc sc__law_all_facts.nd hf 5 (by decide +kernel)) (by apply zqss_cons;exact (zpsk_set hc sc__law_all_facts.nd hf 6 (by decide +kernel) (zpe_callTy call_dictDK (glk hc (by decide +kernel)) T.z_dict b_dict (zpa_cons (zpvk hc 4 (by decide +kernel)) zpa_nil)));apply zqss_cons;exact (zps_dput hu (zpvk hc 6 (by decide +kernel)) (zpvk hc 2 (by decide +kernel)) (zpvk hc 5 (by decide +kernel)) rfl);exact zqss_one (zps_expr (zpe_bm PySem.F.plainAttrs_list PySem.F.slot_list_append PySem.F.type_list_append mt_append (zpvk hc 3 (by decide +kernel)) (zpa_cons (zpvk hc 6 (by decide +kernel)) zpa_nil)))))));exact zqss_one (zpsk_set hc sc__law_all_facts.nd hf 1 (by decide +kernel) (zpvk hc 3 (by decide +kernel)))));exact zqss_one (zps_ret (zpvk hc 1 (by decide +kernel)))),?_⟩
 repeat (walk_at "rl")
 intro d hd
 refine ⟨by decide,fun R hR=>?_⟩
 have s1:Same H (upd H d (.dK [])):=same_new hd _
 have s2:Same H (upd (upd H d (.dK [])) R (.lst [.ref d])):=s1.trans (same_new hR _)
 have hdR:d≠R:=ne_of_none upd_same hR
 repeat (walk_at "rl")
 refine ⟨⟨_,sqL_of (s2 _ _ hN)⟩,?_⟩
 obtain ⟨Pv,hPv⟩:∃Pv:Nat->St->Hp->Prop,∀i σ' H',Pv i σ' H'↔∃(R:Addr) (as:List Addr) (x1 x2 x3 x4 x5:Option V),σ'=[some (.ref N),some (.ref R),x1,x2,x3,x4,x5]/\Same H H'/\H R=none/\H' R=some (.lst (List.map V.ref as))/\as.length=2 ^ i/\Rows H H' as (ts.take i):=⟨_,fun _ _ _=>Iff.rfl⟩
 refine forAll_list (xs:=List.map V.str ts) Pv ((hPv _ _ _).mpr ⟨R,[d],none,none,none,none,none,rfl,s2,s1.free hR,upd_same,rfl,fun k b e=>?_⟩) (fun i σ' H' _ pv=>?_) (fun i x σ' H1 hx pv=>?_) (fun σ' H1 pv=>?_)
 ·have hk:k=0:=by
   cases k with
   | zero=>rfl
   | succ n=>simp at e
  subst hk
  cases e
  exact ⟨hd,[],by rw [upd_ne hdR,upd_same],Row.nil⟩
 ·obtain ⟨_,_,_,_,_,_,_,_,s,_⟩:=(hPv _ _ _).mp pv
  exact s _ _ hN
 ·obtain ⟨R,as,x1,x2,x3,x4,x5,rfl,s4,hR0,hR4,hal,rows⟩:=(hPv _ _ _).mp pv
  obtain ⟨n,en,rfl⟩:=str_at hx
  have hil:i < ts.length:=(List.getElem?_eq_some_iff.mp en).1
  have et:ts.take (i+1)=ts.take i++[n]:=by rw [List.take_add_one,en];rfl
  have hni:n∉ts.take i:=fun hm=>by
   have:=nd.sublist (List.take_sublist (i+1) ts)
   rw [et,List.nodup_append] at this
   exact this.2.2 n hm n (by simp) rfl
  have ha64:as.length<=128:=by
   rw [hal]
   exact Nat.le_trans (Nat.pow_le_pow_right (by decide) (show i<=7 by lia)) (by decide)
  repeat (first | walk_at "rl" | simp only [hR4])
  refine ⟨by decide,fun L hL=>?_⟩
  have hRL:R≠L:=ne_of_none hR4 hL
  have hL0:H L=none:=s4.free hL
  have s5:=s4.trans (same_new hL (.lst []))
  repeat (walk_at "rl")
  refine ⟨⟨_,sqL_of (by rw [upd_ne hRL];exact hR4)⟩,?_⟩
  obtain ⟨Pw,hPw⟩:∃Pw:Nat->St->Hp->Prop,∀k σ' H',Pw k σ' H'↔∃(bs:List Addr) (x3 x4 x5:Option V),σ'=[some (.ref N),some (.ref R),some (.str n),some (.ref L),x3,x4,x5]/\Same H H'/\H' R=some (.lst (List.map V.ref as))/\H' L=some (.lst (List.map V.ref bs))/\bs.length=2 * k/\Rows H H' as (ts.take i)/\Rows H H' bs (ts.take (i+1)):=⟨_,fun _ _ _=>Iff.rfl⟩
  refine forAll_list (xs:=List.map V.ref as) Pw ((hPw _ _ _).mpr ⟨[],x3,x4,x5,rfl,s5,by rw [upd_ne hRL];exact hR4,upd_same,rfl,rows.mono fun b kvs e=>by rw [upd_ne (ne_of_none e hL)];exact e,fun k b e=>by simp at e⟩) (fun k σ' H' _ pv=>?_) (fun k z σ' H2 hz pv=>?_) (fun σ' H2 pv=>?_)
  ·obtain ⟨_,_,_,_,_,_,h,_⟩:=(hPw _ _ _).mp pv
   exact h
  ·obtain ⟨bs,y3,y4,y5,rfl,s6,hR6,hL6,hbl,oa,ob⟩:=(hPw _ _ _).mp pv
   obtain ⟨a0,ea,rfl⟩:=ref_at hz
   have hk32:k < as.length:=(List.getElem?_eq_some_iff.mp ea).1
   obtain ⟨_,kv0,h0,f0⟩:=oa k a0 ea
   repeat (first | walk_at "rl" | simp only [hR4])
   refine ⟨by decide,fun C hC=>?_⟩
   have s7:=s6.trans (same_new hC (.tup [V.bl false,V.bl true]))
   have hLC:L≠C:=ne_of_none hL6 hC
   have hRC:R≠C:=ne_of_none hR6 hC
   refine ⟨⟨_,sqT_of upd_same⟩,?_⟩
   obtain ⟨Pu,hPu⟩:∃Pu:Nat->St->Hp->Prop,∀j σ' H',Pu j σ' H'↔∃(cs:List Addr) (x4 x5:Option V),σ'=[some (.ref N),some (.ref R),some (.str n),some (.ref L),some (.ref a0),x4,x5]/\Same H H'/\H' R=some (.lst (List.map V.ref as))/\H' C=some (.tup [V.bl false,V.bl true])/\H' L=some (.lst (List.map V.ref cs))/\cs.length=2 * k+j/\Rows H H' as (ts.take i)/\Rows H H' cs (ts.take (i+1)):=⟨_,fun _ _ _=>Iff.rfl⟩
   refine forAll_tup (xs:=[V.bl false,V.bl true]) Pu ((hPu _ _ _).mpr ⟨bs,y4,y5,rfl,s7,by rw [upd_ne hRC];exact hR6,upd_same,by rw [upd_ne hLC];exact hL6,hbl,oa.mono fun b kvs e=>by rw [upd_ne (ne_of_none e hC)];exact e,ob.mono fun b kvs e=>by rw [upd_ne (ne_of_none e hC)];exact e⟩) (fun j σ' H' _ pv=>?_) (fun j z σ' H3 hz pv=>?_) (fun σ' H3 pv=>?_)
   ·obtain ⟨_,_,_,_,_,_,h,_⟩:=(hPu _ _ _).mp pv
    exact h
   ·obtain ⟨cs,z4,z5,rfl,s8,hR8,hC8,hL8,hcl,oa8,oc8⟩:=(hPu _ _ _).mp pv
    have hj:j < 2:=(List.getElem?_eq_some_iff.mp hz).1
    obtain ⟨c,rfl,hcj⟩:∃c,z=V.bl c/\j=if c=true then 1 else 0:=by
     match j,hz with
     | 0,hz=>exact ⟨false,(Option.some.inj hz).symm,rfl⟩
     | 1,hz=>exact ⟨true,(Option.some.inj hz).symm,rfl⟩
    obtain ⟨_,kv8,h8,f8⟩:=oa8 k a0 ea
    have l8':=f8.len
    rw [List.length_take] at l8'
    repeat (first | walk_at "rl" | simp only [h8,hL8,sDPut])
    intro D hD
    have hDL:L≠D:=ne_of_none hL8 hD
    repeat (first | walk_at "rl" | simp only [sDPut])
    refine ⟨_,DPut.k (k:=Sum.inr n) upd_same (small1000 (by lia)),?_⟩
    repeat (first | walk_at "rl" | simp only [upd_ne hDL,hL8])
    have keep:∀b kvs,H3 b=some (.dK kvs)->upd (upd H3 D (.dK (putK kv8 (Sum.inr n) (.bl c)))) L (.lst (List.map V.ref cs++[V.ref D])) b=some (.dK kvs):=fun b kvs e=>by rw [upd_ne (ne_of e hL8 (by intro z;cases z)),upd_ne (ne_of_none e hD)];exact e
    refine ⟨.inl ⟨rfl,_,sqL_of (by rw [upd_ne hDL];exact hL8)⟩,small1000 (by lia),(hPu _ _ _).mpr ⟨cs++[D],_,_,rfl,?_,?_,?_,by rw [upd_same,List.map_append];rfl,by simp [hcl];lia,oa8.mono keep,(oc8.mono keep).snoc (s8.free hD) (by rw [upd_ne hDL.symm,upd_same]) ?_⟩⟩
    ·exact same_put' (same_put' s8 (s8.free hD)) hL0
    ·rw [upd_ne hRL,upd_ne (ne_of_none hR8 hD)];exact hR8
    ·rw [upd_ne hLC.symm,upd_ne (ne_of_none hC8 hD)];exact hC8
    ·rw [et,hcl,hcj];exact f8.step hni c
   ·obtain ⟨cs,z4,z5,rfl,s8,hR8,hC8,hL8,hcl,oa8,oc8⟩:=(hPu _ _ _).mp pv
    repeat (walk_at "rl")
    exact (hPw _ _ _).mpr ⟨cs,_,_,_,rfl,s8,hR8,hL8,by simp at hcl;lia,oa8,oc8⟩
  ·obtain ⟨bs,y3,y4,y5,rfl,s6,hR6,hL6,hbl,oa,ob⟩:=(hPw _ _ _).mp pv
   repeat (walk_at "rl")
   refine (hPv _ _ _).mpr ⟨L,bs,_,_,_,_,_,rfl,s6,hL0,hL6,?_,ob⟩
   rw [hbl,List.length_map,hal,Nat.pow_succ,Nat.mul_comm]
 ·obtain ⟨R,as,x1,x2,x3,x4,x5,rfl,s4,hR0,hR4,hal,rows⟩:=(hPv _ _ _).mp pv
  repeat (walk_at "rl")
  rw [List.length_map] at hal rows
  rw [List.take_length] at rows
  exact q R as H1 s4 hR0 hR4 hal rows
end
local macro_rules | `(tactic| walk_at "rd") => `(tactic| walk_at "rc")
local macro_rules | `(tactic| walk_at "rl") => `(tactic| first | (refine seq_op fun R hR => ?_) | walk_at "ry" | (refine Nx.to (by assumption) _ _ ?_))
theorem take_one {α:Type} {l:List α} {i:Nat} {x:α} (h:l[i]? = some x):l.take (i+1)=l.take i++[x]:=by rw [List.take_add_one,h];rfl
def Inc (ns:List Str):Prop:=ns.Pairwise fun a b=>a.cps.toList < b.cps.toList
theorem inc_of {ts:List Str} (h:PyProof.Rows.sortedS ts=true) (nd:ts.Nodup):Inc ts:=
 (List.Pairwise.and (sortedS_pw h) nd).imp fun {a b} ⟨h1,h2⟩=>Decidable.byContradiction fun h3=>h2 (str_ext (List.le_antisymm h1 (List.not_lt.mp h3)))
theorem inc_nodup {ts:List Str} (h:Inc ts):ts.Nodup:=h.imp fun {a b} h1 h2=>by rw [h2] at h1;exact List.lt_irrefl _ h1
def One (ls:Cl):Prop:=∀x∈ls,∀y∈ls,x.1=y.1->x.2=y.2
def ClOf (ls cl:Cl):Prop:=Inc (cl.map (·.1))/\∀x,x∈cl↔x∈ls
theorem perm_all {α:Type} [DecidableEq α]:∀{l m:List α},l.Nodup->m.Nodup->(∀z,z∈l↔z∈m)->l.Perm m
 | [],m,_,_,h=>by
  cases m with
  | nil=>exact .refl _
  | cons x m=>exact absurd ((h x).mpr List.mem_cons_self) (by simp)
 | x::l,m,hl,hm,h=>by
  have hx:x∈m:=(h x).mp List.mem_cons_self
  have h1:=perm_all (l:=l) (m:=m.erase x) (List.nodup_cons.mp hl).2 (hm.erase x) fun z=>by
   rw [hm.mem_erase_iff]
   constructor
   ·intro hz
    exact ⟨fun e=>(List.nodup_cons.mp hl).1 (by rw [<-e];exact hz),(h z).mp (List.mem_cons_of_mem _ hz)⟩
   ·rintro ⟨n,hz⟩
    rcases List.mem_cons.mp ((h z).mpr hz) with e | e
    ·exact absurd e n
    ·exact e
  exact (h1.cons x).trans (List.perm_cons_erase hx).symm
theorem inc_pairs {cl:Cl} (h:Inc (cl.map (·.1))):cl.Pairwise fun x y=>x.1.cps.toList < y.1.cps.toList:=(List.pairwise_map (f:=fun x:Str×Bool=>x.1) (R:=fun a b:Str=>a.cps.toList < b.cps.toList)).mp h
theorem pairs_nodup {cl:Cl} (h:Inc (cl.map (·.1))):cl.Nodup:=(inc_pairs h).imp fun {a b} h1 h2=>by rw [h2] at h1;exact List.lt_irrefl _ h1
theorem ClOf.same {ls cl dl:Cl} (a:ClOf ls cl) (b:ClOf ls dl):cl=dl:=
 List.Perm.eq_of_pairwise (le:=fun x y:Str×Bool=>x.1.cps.toList < y.1.cps.toList) (fun x y _ _ h h'=>absurd (List.lt_trans h h') (List.lt_irrefl _)) (inc_pairs a.1) (inc_pairs b.1) (perm_all (pairs_nodup a.1) (pairs_nodup b.1) fun z=>(a.2 z).trans (b.2 z).symm)
theorem tups_new {H:Hp} {p:Addr} {o:HO} (h:H p=none):Tups H (upd H p o):=tups_of (same_new h o)
theorem tups_put {H:Hp} {p:Addr} {o:HO} {xs:List V} (h:H p=some (.lst xs)):Tups H (upd H p o):=fun q ys e=>by rw [upd_ne (ne_of e h (by intro z;cases z))];exact e
theorem Tups.trans {H H1 H2:Hp} (a:Tups H H1) (b:Tups H1 H2):Tups H H2:=fun q xs e=>b q xs (a q xs e)
theorem take_at {α:Type} {l:List α} {i:Nat} {x:α} (h:l[i]? = some x):l.take (i+1)=l.take i++[x]:=by rw [List.take_add_one,h];rfl
theorem Rl.val_congr {e e':Str->Bool}:∀{r:Rl},(∀x∈r.names,e x=e' x)->r.val e=r.val e'
 | .yes,_=>rfl
 | .no,_=>rfl
 | .var x,h=>h x List.mem_cons_self
 | .neg a,h=>by
  have:a.val e=a.val e':=Rl.val_congr (r:=a) h
  show (!a.val e) = !a.val e'
  rw [this]
 | .two k a b,h=>by
  have h1:a.val e=a.val e':=Rl.val_congr (r:=a) fun x hx=>h x (List.mem_append_left _ hx)
  have h2:b.val e=b.val e':=Rl.val_congr (r:=b) fun x hx=>h x (List.mem_append_right _ hx)
  show twoB k (a.val e) (b.val e)=twoB k (a.val e') (b.val e')
  rw [h1,h2]
theorem row_all:∀(ts:List Str) (e:Str->Bool),∃k,k < 2 ^ ts.length/\∀(j:Nat) s,ts[j]? = some s->decide (k / 2 ^ (ts.length - 1 - j) % 2=1)=e s
 | [],e=>⟨0,by decide,fun j s h=>by simp at h⟩
 | t::ts,e=>by
  obtain ⟨k,hk,h⟩:=row_all ts e
  refine ⟨(if e t=true then 1 else 0) * 2 ^ ts.length+k,?_,fun j s hs=>?_⟩
  ·rw [List.length_cons,Nat.pow_succ]
   split <;> lia
  ·rw [List.length_cons]
   cases j with
   | zero=>
    cases hs
    have e1:ts.length+1 - 1 - 0=ts.length:=by lia
    rw [e1,Nat.mul_comm,Nat.mul_add_div (Nat.pow_pos (by decide)),Nat.div_eq_of_lt hk,Nat.add_zero]
    cases z:e t <;> simp
   | succ j=>
    rw [List.getElem?_cons_succ] at hs
    have hj:j < ts.length:=(List.getElem?_eq_some_iff.mp hs).1
    rw [<-h j s hs]
    have e1:ts.length+1 - 1 - (j+1)=ts.length - 1 - j:=by lia
    obtain ⟨m,hm⟩:∃m,m=ts.length - 1 - j:=⟨_,rfl⟩
    have e2:ts.length=m+1+j:=by lia
    rw [e1,<-hm]
    have e3:2 ^ ts.length=2 ^ m * (2 * 2 ^ j):=by rw [e2,Nat.pow_add,Nat.pow_succ,Nat.mul_assoc]
    have e4:(if e t=true then 1 else 0) * 2 ^ ts.length+k=2 ^ m * (2 * ((if e t=true then 1 else 0) * 2 ^ j))+k:=by
     rw [e3]
     congr 1
     split <;> simp
    rw [e4,Nat.mul_add_div (Nat.pow_pos (by decide)),Nat.mul_add_mod]
structure FX (kvs:List (Key×V)) (ns:List Str):Prop where
 fact:Fact kvs ns
 out:∀s,s∉ns->valV kvs (Sum.inr s)=none
theorem Row.fx {ts:List Str} {k:Nat} {kvs:List (Key×V)} (r:Row ts k kvs):FX kvs ts:=⟨fun x hx=>by
 obtain ⟨j,hj⟩:=List.getElem?_of_mem hx
 exact ⟨_,r.2 j x hj⟩,fun s hs=>valV_none_of (by
 rw [r.1]
 intro h
 obtain ⟨y,hy,e⟩:=List.mem_map.mp h
 exact hs (by rw [<-Sum.inr.inj e];exact hy))⟩
theorem FX.sub {kvs:List (Key×V)} {ns ms:List Str} (h:FX kvs ns) (e:∀z,z∈ns↔z∈ms):FX kvs ms:=⟨fun x hx=>h.fact x ((e x).mpr hx),fun s hs=>h.out s fun z=>hs ((e s).mp z)⟩
theorem Rows.any {H0 H:Hp} {as:List Addr} {ts:List Str} (r:Rows H0 H as ts) (hl:as.length=2 ^ ts.length) (e:Str->Bool):∃b∈as,∃kvs,H b=some (.dK kvs)/\FX kvs ts/\∀x∈ts,envK kvs x=e x:=by
 obtain ⟨k,hk,h⟩:=row_all ts e
 rw [<-hl] at hk
 have eb:as[k]? = some as[k]:=List.getElem?_eq_getElem hk
 obtain ⟨_,kvs,hb,row⟩:=r k _ eb
 refine ⟨_,List.mem_of_getElem? eb,kvs,hb,row.fx,fun x hx=>?_⟩
 obtain ⟨j,hj⟩:=List.getElem?_of_mem hx
 rw [envK_of (row.2 j x hj)]
 exact h j x hj
local macro_rules | `(tactic| walk_at "rd") => `(tactic| walk_at "rc")
local macro_rules | `(tactic| walk_at "rl") => `(tactic| first | (refine seq_op fun R hR => ?_) | walk_at "ry" | (refine Nx.to (by assumption) _ _ ?_))
def Few (r:Rl):Prop:=∃us:List Str,us.length<=6/\∀z∈r.names,z∈us
def spFor:Sp:=fun vs H Q _=>∃p,vs=[.ref p]/\∃r,RlAt H r p/\r.deep<=6/\Few r/\
 ∀L bs H',Same H H'->H L=none->H' L=some (.lst (List.map V.ref bs))->bs.length<=64->(∀b∈bs,∃kvs,H' b=some (.dK kvs)/\FX kvs r.names/\r.val (envK kvs)=true)->
  (∀e:Str->Bool,r.val e=true->∃b∈bs,∃kvs,H' b=some (.dK kvs)/\∀x∈r.names,envK kvs x=e x)->Q (.ref L) H'
section
variable {P:Program} {w:World} {K:PySem.W.Frag} {mg:Str->Option Value} {base:Heap} {t:Adr}
theorem ok_for (T:Txt K mg t):FnOk P w K mg base CX0 9 t.a_facts_for t.d_facts_for ["rule"] spFor:=by
 have G_names_of:=ok_names_of (P:=P) (w:=w) (base:=base) T
 have G_all_facts:=ok_facts (P:=P) (w:=w) (base:=base) T
 have G_truth_of:=ok_truth (P:=P) (w:=w) (base:=base) T 6
 refine T.F_facts_for.okZ sc_facts_for (fun vs H Q E h=>?_) (fun cdv A outer s H vs Q E hr h hc hf=>?_)
 ·obtain ⟨p,rfl,_⟩:=h;rfl
 obtain ⟨p,rfl,r,ra,h6,⟨us,lus,sub⟩,q⟩:=h
 have hu:=hu_of hr
 have hu0:=hr.units0
 refine ⟨_,(by exact zqss_one (zps_ret (zpek_comp hc ["facts"] [0] rfl (by decide +kernel) (zpi_list (zpe_call G_all_facts (hr.mono (by omega)) (glk hc (by decide +kernel)) T.m_all_facts T.F_all_facts.kp T.b_all_facts .nil pass0 (zpa_cons (zpe_call G_names_of (hr.mono (by omega)) (glk hc (by decide +kernel)) T.m_names_of T.F_names_of.kp T.b_names_of .nil pass0 (zpa_cons (zpvk hc 0 (by decide +kernel)) zpa_nil)) zpa_nil))) (fun _ hc=>zpgb hc (by decide +kernel) 0 (by decide +kernel)) (fun _ hc=>zpifs_one (zpt_val (zpe_call G_truth_of (hr.mono (by omega)) (glk hc (by decide +kernel)) T.m_truth_of T.F_truth_of.kp T.b_truth_of .nil pass0 (zpa_cons (zpvk hc 1 (by decide +kernel)) (zpa_cons (zpvk hc 0 (by decide +kernel)) zpa_nil))))) (fun _ hc=>(zpvk hc 0 (by decide +kernel)))))),?_⟩
 repeat (walk_at "rd")
 refine ⟨p,rfl,r,ra,h6,fun F ts H1 s1 hF hF1 mem nd srt=>?_⟩
 have lts:ts.length<=6:=Nat.le_trans (nodup_sub nd fun z hz=>sub z ((mem z).mp hz)) lus
 refine ⟨F,rfl,ts,hF1,lts,nd,fun R as ts' H2 s2 hR hR2 pm _ hal rows=>?_⟩
 have mem':∀z,z∈ts'↔z∈r.names:=fun z=>(pm.mem_iff).trans (mem z)
 have la:as.length<=64:=by
  rw [hal,pm.length_eq]
  exact Nat.le_trans (Nat.pow_le_pow_right (by decide) lts) (by decide)
 have s12:=s1.trans s2
 repeat (walk_at "rd")
 refine ⟨⟨_,sqL_of hR2⟩,?_⟩
 obtain ⟨Pc,hPc⟩:∃Pc:Addr->Nat->List V->Hp->Prop,∀Z i ys H',Pc Z i ys H'↔∃bs:List Addr,ys=List.map V.ref bs/\bs.length<=i/\Same H2 H'/\H' Z=some (.lst ys)/\(∀b∈bs,∃kvs,H' b=some (.dK kvs)/\FX kvs r.names/\r.val (envK kvs)=true)/\∀(k:Nat) b kvs,k < i->as[k]? = some b->H2 b=some (.dK kvs)->r.val (envK kvs)=true->b∈bs:=⟨_,fun _ _ _ _=>Iff.rfl⟩
 refine compAll_list (zs:=List.map V.ref as) Pc (fun Z hZ=>(hPc _ _ _ _).mpr ⟨[],rfl,Nat.le_refl _,same_new hZ _,upd_same,(fun b hb=>nomatch hb),fun k b kvs hk=>absurd hk (Nat.not_lt_zero _)⟩) (fun Z hZ i ys H' _ pv=>?_) (fun Z hZ i z ys H' hz pv cb=>?_) (fun Z hZ ys H' pv=>?_)
 ·obtain ⟨_,_,_,s,_⟩:=(hPc _ _ _ _).mp pv
  exact s _ _ hR2
 ·obtain ⟨bs,rfl,hbl,sZ,hZZ,gd,al⟩:=(hPc _ _ _ _).mp pv
  obtain ⟨b0,eb,rfl⟩:=ref_at hz
  have hi:i < as.length:=(List.getElem?_eq_some_iff.mp eb).1
  obtain ⟨_,kvs,hb,row⟩:=rows i b0 eb
  have fx:=row.fx.sub mem'
  walk_at "rc"
  repeat (walk_at "rd")
  refine ⟨p,b0,rfl,r,ra.mono (tups_of (s12.trans sZ)),h6,kvs,sZ _ _ hb,fx.fact,?_⟩
  repeat (walk_at "rd")
  split
  ·rename_i hv
   refine ⟨hZZ,small1000 (by lia),(hPc _ _ _ _).mpr ⟨bs++[b0],by simp,by simp;lia,same_put' sZ hZ,upd_same,fun b hb'=>?_,fun k b kv hk ek e hv'=>?_⟩⟩
   ·rcases List.mem_append.mp hb' with z | z
    ·obtain ⟨kv,e,f,v⟩:=gd b z
     exact ⟨kv,by rw [upd_ne (ne_of e hZZ (by intro z;cases z))];exact e,f,v⟩
    ·rw [List.mem_singleton.mp z]
     exact ⟨kvs,by rw [upd_ne (ne_of_none hb hZ)];exact sZ _ _ hb,fx,hv⟩
   ·by_cases hki:k < i
    ·exact List.mem_append_left _ (al k b kv hki ek e hv')
    ·have:k=i:=by lia
     rw [this,eb] at ek
     rw [<-Option.some.inj ek]
     simp
  ·rename_i hv
   refine (hPc _ _ _ _).mpr ⟨bs,rfl,by lia,sZ,hZZ,gd,fun k b kv hk ek e hv'=>?_⟩
   by_cases hki:k < i
   ·exact al k b kv hki ek e hv'
   ·have:k=i:=by lia
    rw [this,eb] at ek
    rw [<-Option.some.inj ek,hb] at e
    rw [<-HO.dK.inj (Option.some.inj e)] at hv'
    exact absurd hv' hv
 ·obtain ⟨bs,rfl,hbl,sZ,hZZ,gd,al⟩:=(hPc _ _ _ _).mp pv
  rw [List.length_map] at hbl al
  refine q Z bs H' (s12.trans sZ) (s12.free hZ) hZZ (by lia) gd fun e he=>?_
  obtain ⟨b,hb,kvs,hk,fx,ev⟩:=rows.any hal e
  obtain ⟨k,ek⟩:=List.getElem?_of_mem hb
  have ev':∀x∈r.names,envK kvs x=e x:=fun x hx=>ev x ((mem' x).mpr hx)
  exact ⟨b,al k b kvs (List.getElem?_eq_some_iff.mp ek).1 ek hk (by rw [<-he];exact Rl.val_congr ev'),kvs,sZ _ _ hk,ev'⟩
end
local macro_rules | `(tactic| walk_at "rd") => `(tactic| walk_at "rc")
local macro_rules | `(tactic| walk_at "rl") => `(tactic| first | (refine seq_op fun R hR => ?_) | walk_at "ry" | (refine Nx.to (by assumption) _ _ ?_))
def ClI (H:Hp) (cl:Cl) (p:Addr):Prop:=ClAt H cl p/\Inc (cl.map (·.1))/\cl.length<=50
def spIsC:Sp:=fun vs H Q _=>∃C,vs=[.ref C]/\∃cl,ClI H cl C/\∀H',Same H H'->Q (.bl true) H'
def spTold:Sp:=fun vs H Q _=>∃C D,vs=[.ref C,.ref D]/\∃cl,ClI H cl C/\ClAt H cl D/\∀H',Same H H'->Q (.bl true) H'
theorem kit_same (K:PySem.W.Frag) (T:String):PySem.W.kitOne K (.type T) (.type T)=some true:=by
 unfold PySem.W.kitOne
 rw [if_pos (by simp)]
section
variable {P:Program} {w:World} {K:PySem.W.Frag} {mg:Str->Option Value} {base:Heap} {t:Adr}
theorem ok_isc (T:Txt K mg t):FnOk P w K mg base CX0 1 t.a__law_is_clause t.d__law_is_clause ["_law_thing"] spIsC:=by
 refine T.F__law_is_clause.okZ sc__law_is_clause (fun vs H Q E h=>?_) (fun cdv A outer s H vs Q E hr h hc hf=>?_)
 ·obtain ⟨C,rfl,_⟩:=h;rfl
 obtain ⟨C,rfl,cl,⟨⟨qs,hC,lits⟩,inc,l50⟩,q⟩:=h
 have hu:=hu_of hr
 have hu0:=hr.units0
 refine ⟨_,(by apply zqss_cons;exact (zqs_if (zpt_not (zpt_val (zpe_callB call_isiT (glk hc (by decide +kernel)) T.z_isinstance b_isinstance (zpa_cons (zpvk hc 0 (by decide +kernel)) (zpa_cons (zpe_bltn (v:=V.ty "tuple") (glk hc (by decide +kernel)) T.z_tuple b_tuple rfl) zpa_nil))))) (by exact zqss_one (zps_ret zpe_bl)) zqss_nil);apply zqss_cons;exact (zqs_for PassesOwn.never rfl (zpi_tup (zpvk hc 0 (by decide +kernel))) (zpgk hc sc__law_is_clause.nd hf 1 (by decide +kernel)) (by exact zqss_one (zqs_if (zPWpt (zpw_or (zpt_not (zpt_val (zpe_callB call_isiT (glk hc (by decide +kernel)) T.z_isinstance b_isinstance (zpa_cons (zpvk hc 1 (by decide +kernel)) (zpa_cons (zpe_bltn (v:=V.ty "tuple") (glk hc (by decide +kernel)) T.z_tuple b_tuple rfl) zpa_nil))))) (zpw_or (zpt_cmpR op_ne (zpe_callB call_lenT (glk hc (by decide +kernel)) T.z_len b_len (zpa_cons (zpvk hc 1 (by decide +kernel)) zpa_nil)) zpe_int (nomark _)) (zpw_or (zpt_not (zpt_val (zpe_callB call_isiT (glk hc (by decide +kernel)) T.z_isinstance b_isinstance (zpa_cons (zpe_ix ix_t (zpvk hc 1 (by decide +kernel)) zpe_int (fun _ _=>rfl)) (zpa_cons (zpe_bltn (v:=V.ty "str") (glk hc (by decide +kernel)) T.z_str b_str rfl) zpa_nil))))) (zpw_or1 (zpt_not (zpt_val (zpe_callB call_isiT (glk hc (by decide +kernel)) T.z_isinstance b_isinstance (zpa_cons (zpe_ix ix_t (zpvk hc 1 (by decide +kernel)) zpe_int (fun _ _=>rfl)) (zpa_cons (zpe_bltn (v:=V.ty "bool") (glk hc (by decide +kernel)) T.z_bool b_bool rfl) zpa_nil)))))))))) (by exact zqss_one (zps_ret zpe_bl)) zqss_nil)));exact zqss_one (zps_ret (zpe_callB (call_allB hr.hd) (glk hc (by decide +kernel)) T.z_all b_all (zpa_cons (zpek_comp hc ["_law_k"] [0] rfl (by decide +kernel) (zpi_range1 (glk hc (by decide +kernel)) T.z_range (zpa_cons (zpe_op op_sub (zpe_callB call_lenT (glk hc (by decide +kernel)) T.z_len b_len (zpa_cons (zpvk hc 0 (by decide +kernel)) zpa_nil)) zpe_int) zpa_nil)) (fun _ hc=>zpgb hc (by decide +kernel) 0 (by decide +kernel)) (fun _ _=>zpifs_nil) (fun _ hc=>(zpe_cmpR op_lt_str (zpe_ix ix_t (zpe_ix ix_t (zpvk hc 1 (by decide +kernel)) (zpvk hc 0 (by decide +kernel)) (fun _ _=>rfl)) zpe_int (fun _ _=>rfl)) (zpe_ix ix_t (zpe_ix ix_t (zpvk hc 1 (by decide +kernel)) (zpe_op op_add (zpvk hc 0 (by decide +kernel)) zpe_int) (fun _ _=>rfl)) zpe_int (fun _ _=>rfl)) (nomark _)))) zpa_nil)))),?_⟩
 repeat (walk_at "rl")
 refine ⟨_,.tup hC,true,kit_same _ _,?_⟩
 repeat (walk_at "rl")
 try rw [if_neg (by simp)]
 refine ⟨⟨_,sqT_of hC⟩,?_⟩
 obtain ⟨Pv,hPv⟩:∃Pv:Nat->St->Hp->Prop,∀i σ' H',Pv i σ' H'↔∃(x:Option V),σ'=[some (.ref C),x]/\H'=H:=⟨_,fun _ _ _=>Iff.rfl⟩
 refine forAll_tup (xs:=List.map V.ref qs) Pv ((hPv _ _ _).mpr ⟨none,rfl,rfl⟩) (fun i σ' H' _ pv=>?_) (fun i z σ' H1 hz pv=>?_) (fun σ' H1 pv=>?_)
 ·obtain ⟨_,_,rfl⟩:=(hPv _ _ _).mp pv
  exact hC
 ·obtain ⟨x,rfl,rfl⟩:=(hPv _ _ _).mp pv
  obtain ⟨b0,eb,rfl⟩:=ref_at hz
  obtain ⟨n,b,ec,hb0⟩:=lits.at eb
  repeat (walk_at "rl")
  refine ⟨_,.tup hb0,true,kit_same _ _,?_⟩
  repeat (first | walk_at "rl" | simp only [hb0])
  rw [if_neg (by simp),if_neg (by simp)]
  refine ⟨_,.str _,true,kit_same _ _,?_⟩
  rw [if_neg (by simp)]
  refine ⟨_,.bl _,true,kit_same _ _,?_⟩
  rw [if_neg (by simp)]
  exact (hPv _ _ _).mpr ⟨_,rfl,rfl⟩
 ·obtain ⟨x,rfl,rfl⟩:=(hPv _ _ _).mp pv
  repeat (first | walk_at "rl" | simp only [hC])
  have lq:qs.length=cl.length:=lits.1
  refine ⟨by lia,by lia,?_⟩
  obtain ⟨Pc,hPc⟩:∃Pc:Addr->Nat->List V->Hp->Prop,∀Z i ys H',Pc Z i ys H'↔∃bs:List Bool,ys=List.map V.bl bs/\bs.length=i/\bs.all id=true/\Same H1 H'/\H' Z=some (.lst ys):=⟨_,fun _ _ _ _=>Iff.rfl⟩
  refine compAll_rng Pc (fun Z hZ=>(hPc _ _ _ _).mpr ⟨[],rfl,rfl,rfl,same_new hZ _,upd_same⟩) (fun Z hZ i ys H' hi pv cb=>?_) (fun Z hZ ys H' pv=>?_)
  ·obtain ⟨bs,rfl,hbl,al,sZ,hZZ⟩:=(hPc _ _ _ _).mp pv
   have i2:i+1 < qs.length:=by lia
   have i1:i < qs.length:=by lia
   have e1:qs[i]? = some qs[i]:=List.getElem?_eq_getElem i1
   have e2:qs[i+1]? = some qs[i+1]:=List.getElem?_eq_getElem i2
   obtain ⟨n1,b1,c1,h1⟩:=lits.at e1
   obtain ⟨n2,b2,c2,h2⟩:=lits.at e2
   have lt:n1.cps.toList < n2.cps.toList:=by
    obtain ⟨j1,g1⟩:=List.getElem?_eq_some_iff.mp c1
    obtain ⟨j2,g2⟩:=List.getElem?_eq_some_iff.mp c2
    have:=List.pairwise_iff_getElem.mp inc i (i+1) (by rw [List.length_map];exact j1) (by rw [List.length_map];exact j2) (Nat.lt_succ_self i)
    rw [List.getElem_map,List.getElem_map,g1,g2] at this
    exact this
   have a1:atI (List.map V.ref qs) (i:Int)=some (.ref qs[i]):=atI_nat (by rw [List.getElem?_map,e1];rfl)
   have a2:atI (List.map V.ref qs) ((i:Int)+1)=some (.ref qs[i+1]):=atI_nat (j:=i+1) (by rw [List.getElem?_map,e2];rfl)
   have hC':=sZ _ _ hC
   have h1':=sZ _ _ h1
   have h2':=sZ _ _ h2
   walk_at "rc"
   repeat (first | walk_at "rl" | simp only [hC',h1',h2',a1,a2])
   rw [decide_eq_true lt]
   exact ⟨hZZ,small1000 (by lia),(hPc _ _ _ _).mpr ⟨bs++[true],by simp,by simp [hbl],by rw [List.all_append,al];rfl,same_put' sZ hZ,upd_same⟩⟩
  ·obtain ⟨bs,rfl,hbl,al,sZ,hZZ⟩:=(hPc _ _ _ _).mp pv
   refine ⟨Z,rfl,bs,hZZ,?_⟩
   rw [al]
   exact q _ sZ
end
def spOnceC:Sp:=fun vs H Q _=>∃L,vs=[.ref L]/\∃bs ts,H L=some (.lst (List.map V.ref bs))/\ClsAt H bs ts/\ts.length<=90000/\
 ∀D H' cs us,Same H H'->H D=none->H' D=some (.lst (List.map V.ref cs))->ClsAt H' cs us->us.Pairwise (fun x y=>clLt x y=true)->(∀x,x∈us↔x∈ts)->Q (.ref D) H'
theorem len_sub {α:Type} [DecidableEq α]:∀{l m:List α},l.Nodup->(∀x∈l,x∈m)->l.length<=m.length
 | [],_,_,_=>Nat.zero_le _
 | a::l,m,nd,h=>by
  have ha:=h a List.mem_cons_self
  have h1:=len_sub (l:=l) (m:=m.erase a) (List.nodup_cons.mp nd).2 fun x hx=>by
   rw [List.mem_erase_of_ne (fun e=>(List.nodup_cons.mp nd).1 (by rw [<-e];exact hx))]
   exact h x (List.mem_cons_of_mem _ hx)
  rw [List.length_erase_of_mem ha] at h1
  have:=List.length_pos_of_mem ha
  rw [List.length_cons]
  lia
section
variable {P:Program} {w:World} {K:PySem.W.Frag} {mg:Str->Option Value} {base:Heap} {t:Adr}
theorem ok_order_of (T:Txt K mg t):FnOk P w K mg base CX0 1 t.a_order_of t.d_order_of ["one"] spOrd:=by
 refine T.F_order_of.okZ sc_order_of (fun vs H Q E h=>?_) (fun cdv A outer s H vs Q E hr h hc hf=>?_)
 ·obtain ⟨a,rfl,_⟩:=h;rfl
 obtain ⟨a,rfl,xs,ha,q⟩:=h
 refine ⟨_,(by exact zqss_one (zps_ret (zpe_tup (zpa_cons (zpe_callB call_lenT (glk hc (by decide +kernel)) T.z_len b_len (zpa_cons (zpvk hc 0 (by decide +kernel)) zpa_nil)) (zpa_cons (zpvk hc 0 (by decide +kernel)) zpa_nil))))),?_⟩
 repeat (first | walk_at "rl" | simp only [ha])
 exact ⟨by decide,q⟩
theorem ok_once (T:Txt K mg t):FnOk P w K mg base CX0 4 t.a_each_once_in_order t.d_each_once_in_order ["tuples"] spOnceC:=by
 have G_order_of:=ok_order_of (P:=P) (w:=w) (base:=base) T
 refine T.F_each_once_in_order.okZ sc_each_once_in_order (fun vs H Q E h=>?_) (fun cdv A outer s H vs Q E hr h hc hf=>?_)
 ·obtain ⟨a,rfl,_⟩:=h;rfl
 obtain ⟨L,rfl,bs,ts,hL,cat,l9,q⟩:=h
 have hu:=hu_of hr
 have hu0:=hr.units0
 refine ⟨_,(by apply zqss_cons;exact (zpsk_set hc sc_each_once_in_order.nd hf 1 (by decide +kernel) zpe_dnewC);apply zqss_cons;exact (zqs_for PassesOwn.never rfl (zpi_list (zpvk hc 0 (by decide +kernel))) (zpgk hc sc_each_once_in_order.nd hf 2 (by decide +kernel)) (by exact zqss_one (zps_dputC hr.units (zpvk hc 1 (by decide +kernel)) (zpvk hc 2 (by decide +kernel)) zpe_bl rfl)));exact zqss_one (zps_ret (zpe_sortC G_order_of (hr.mono (by omega)) (glk hc (by decide +kernel)) T.z_sorted b_sorted (glk hc (by decide +kernel)) T.m_order_of T.b_order_of (zpvk hc 1 (by decide +kernel))))),?_⟩
 repeat (walk_at "rl")
 intro p hp
 have sp:=same_new hp (DCl P w p [])
 repeat (walk_at "rl")
 refine ⟨⟨_,sqL_of (sp _ _ hL)⟩,?_⟩
 obtain ⟨Pv,hPv⟩:∃Pv:Nat->St->Hp->Prop,∀i σ' H',Pv i σ' H'↔∃(x:Option V) (ks:List (Cl×Addr)),σ'=[some (.ref L),some (.ref p),x]/\H'=upd H p (DCl P w p ks)/\(∀k∈ks,ClAt H k.1 k.2)/\(ks.map (·.1)).Nodup/\∀z,z∈ks.map (·.1)↔z∈ts.take i:=⟨_,fun _ _ _=>Iff.rfl⟩
 have up:∀{o:HO} {cl:Cl} {a:Addr},ClAt H cl a->ClAt (upd H p o) cl a:=fun {o cl a} c=>c.mono (tups_of (same_new hp o))
 refine forAll_list (xs:=List.map V.ref bs) Pv ((hPv _ _ _).mpr ⟨none,[],rfl,rfl,(fun k hk=>nomatch hk),List.nodup_nil,fun z=>by simp⟩) (fun i σ' H1 _ pv=>?_) (fun i x σ' H1 hx pv=>?_) (fun σ' H1 pv=>?_)
 ·obtain ⟨_,_,_,rfl,_⟩:=(hPv _ _ _).mp pv
  exact same_new hp _ _ _ hL
 ·obtain ⟨y,ks,rfl,rfl,all,nd,mem⟩:=(hPv _ _ _).mp pv
  obtain ⟨a,ea,rfl⟩:=ref_at hx
  have hi:i < bs.length:=(List.getElem?_eq_some_iff.mp ea).1
  have hi2:i < ts.length:=by have:=cat.1;lia
  have es:ts[i]? = some ts[i]:=List.getElem?_eq_getElem hi2
  have ca:=cat.2 i a _ ea es
  have lk:ks.length<=90000:=by
   have h2:=len_sub nd fun x hx=>List.mem_of_mem_take ((mem x).mp hx)
   rw [List.length_map] at h2
   lia
  repeat (walk_at "rl")
  refine ⟨ks,rfl,(fun k hk=>up (all k hk)),ts[i],up ca,nd,smallB1 (by lia),?_⟩
  first | rw [upd_upd] | skip
  refine (hPv _ _ _).mpr ⟨_,_,rfl,rfl,?_,?_,fun z=>?_⟩
  ·unfold putC
   split
   ·exact all
   ·intro k hk
    rcases List.mem_append.mp hk with hk | hk
    ·exact all k hk
    ·rw [List.mem_singleton.mp hk];exact ca
  ·unfold putC
   split
   ·exact nd
   ·rename_i hn
    rw [List.map_append,List.nodup_append]
    exact ⟨nd,by simp,fun x hx y hy z=>hn (by rw [show y=ts[i] by simpa using hy] at z;rw [<-z];exact hx)⟩
  ·rw [take_at es,List.mem_append,<-mem z,List.mem_singleton]
   unfold putC
   split
   ·rename_i hn
    exact ⟨.inl,fun h=>h.elim id fun e=>by rw [e];exact hn⟩
   ·rw [List.map_append,List.mem_append]
    exact or_congr Iff.rfl (by rw [List.map_cons,List.map_nil,List.mem_singleton])
 ·obtain ⟨y,ks,rfl,rfl,all,nd,mem⟩:=(hPv _ _ _).mp pv
  rw [List.length_map,cat.1,List.take_length] at mem
  have lk:ks.length < 100000:=by
   have h2:=len_sub nd fun x hx=>(mem x).mp hx
   rw [List.length_map] at h2
   lia
  repeat (walk_at "rl")
  refine ⟨p,rfl,ks,upd_same,(fun k hk=>up (all k hk)),nd,lk,fun D H' cs us sm hD hD' cat' pm srt=>?_⟩
  exact q D H' cs us ((same_new hp _).trans sm) ((same_new hp _).free hD) hD' cat' srt fun x=>pm.mem_iff.trans (mem x)
theorem ok_corder (T:Txt K mg t):FnOk P w K mg base CX0 5 t.a_clauses_in_order t.d_clauses_in_order ["clauses"] spOnceC:=by
 have G_each_once_in_order:=ok_once (P:=P) (w:=w) (base:=base) T
 refine T.F_clauses_in_order.okZ sc_clauses_in_order (fun vs H Q E h=>?_) (fun cdv A outer s H vs Q E hr h hc hf=>?_)
 ·obtain ⟨a,rfl,_⟩:=h;rfl
 obtain ⟨L,rfl,h⟩:=h
 refine ⟨_,(by exact zqss_one (zps_ret (zpe_call G_each_once_in_order (hr.mono (by omega)) (glk hc (by decide +kernel)) T.m_each_once_in_order T.F_each_once_in_order.kp T.b_each_once_in_order .nil pass0 (zpa_cons (zpvk hc 0 (by decide +kernel)) zpa_nil)))),?_⟩
 repeat (walk_at "rl")
 exact ⟨L,rfl,h⟩
end
def spBefore:Sp:=fun vs H Q _=>∃A B,vs=[.ref A,.ref B]/\∃cl dl,ClAt H cl A/\ClAt H dl B/\cl.length<=900/\Q (.bl (clLt cl dl)) H
theorem lexC_drop:∀(i:Nat) {cl dl:Cl},(∀j,j < i->cl[j]? = dl[j]?)->lexC cl dl=lexC (cl.drop i) (dl.drop i)
 | 0,_,_,_=>rfl
 | i+1,[],[],_=>by simp
 | i+1,[],b::m,h=>by have:=h 0 (Nat.succ_pos _);simp at this
 | i+1,a::l,[],h=>by have:=h 0 (Nat.succ_pos _);simp at this
 | i+1,a::l,b::m,h=>by
  have h0:=h 0 (Nat.succ_pos _)
  simp at h0
  subst h0
  rw [List.drop_succ_cons,List.drop_succ_cons,<-lexC_drop i (cl:=l) (dl:=m) fun j hj=>by simpa using h (j+1) (by lia)]
  conv=>lhs;unfold lexC
  rw [if_pos rfl]
theorem clLt_at {cl dl:Cl} {i:Nat} {x y:Str×Bool} (hl:cl.length=dl.length) (h:∀j,j < i->cl[j]? = dl[j]?) (ex:cl[i]? = some x) (ey:dl[i]? = some y) (ne:x≠y):clLt cl dl=pLt x y:=by
 obtain ⟨i1,e1⟩:=List.getElem?_eq_some_iff.mp ex
 obtain ⟨i2,e2⟩:=List.getElem?_eq_some_iff.mp ey
 unfold clLt
 rw [decide_eq_false (by lia:¬cl.length < dl.length),decide_eq_true hl,Bool.false_or,Bool.true_and,lexC_drop i h,List.drop_eq_getElem_cons i1,List.drop_eq_getElem_cons i2,e1,e2]
 unfold lexC
 rw [if_neg ne]
theorem clLt_irr (cl:Cl):clLt cl cl=false:=by unfold clLt;rw [lexC_irr];simp
section
variable {P:Program} {w:World} {K:PySem.W.Frag} {mg:Str->Option Value} {base:Heap} {t:Adr}
theorem ok_before (T:Txt K mg t):FnOk P w K mg base CX0 1 t.a__law_before t.d__law_before ["_law_one","_law_other"] spBefore:=by
 refine T.F__law_before.okZ sc__law_before (fun vs H Q E h=>?_) (fun cdv A outer s H vs Q E hr h hc hf=>?_)
 ·obtain ⟨A,B,rfl,_⟩:=h;rfl
 obtain ⟨A,B,rfl,cl,dl,⟨qs,hA,la⟩,⟨ps,hB,lb⟩,l9,q⟩:=h
 have hu:=hu_of hr
 have hu0:=hr.units0
 have lq:=la.1
 have lp:=lb.1
 refine ⟨_,(by apply zqss_cons;exact (zqs_if (zpt_cmpR op_ne (zpe_callB call_lenT (glk hc (by decide +kernel)) T.z_len b_len (zpa_cons (zpvk hc 0 (by decide +kernel)) zpa_nil)) (zpe_callB call_lenT (glk hc (by decide +kernel)) T.z_len b_len (zpa_cons (zpvk hc 1 (by decide +kernel)) zpa_nil)) (nomark _)) (by exact zqss_one (zps_ret (zpe_cmpR op_lt (zpe_callB call_lenT (glk hc (by decide +kernel)) T.z_len b_len (zpa_cons (zpvk hc 0 (by decide +kernel)) zpa_nil)) (zpe_callB call_lenT (glk hc (by decide +kernel)) T.z_len b_len (zpa_cons (zpvk hc 1 (by decide +kernel)) zpa_nil)) (nomark _)))) zqss_nil);apply zqss_cons;exact (zqs_for PassesOwn.never rfl (zpi_range1 (glk hc (by decide +kernel)) T.z_range (zpa_cons (zpe_callB call_lenT (glk hc (by decide +kernel)) T.z_len b_len (zpa_cons (zpvk hc 0 (by decide +kernel)) zpa_nil)) zpa_nil)) (zpgk hc sc__law_before.nd hf 2 (by decide +kernel)) (by apply zqss_cons;exact (zqs_if (zpt_cmpR op_ne (zpe_ix ix_t (zpe_ix ix_t (zpvk hc 0 (by decide +kernel)) (zpvk hc 2 (by decide +kernel)) (fun _ _=>rfl)) zpe_int (fun _ _=>rfl)) (zpe_ix ix_t (zpe_ix ix_t (zpvk hc 1 (by decide +kernel)) (zpvk hc 2 (by decide +kernel)) (fun _ _=>rfl)) zpe_int (fun _ _=>rfl)) (nomark _)) (by exact zqss_one (zps_ret (zpe_cmpR op_lt_str (zpe_ix ix_t (zpe_ix ix_t (zpvk hc 0 (by decide +kernel)) (zpvk hc 2 (by decide +kernel)) (fun _ _=>rfl)) zpe_int (fun _ _=>rfl)) (zpe_ix ix_t (zpe_ix ix_t (zpvk hc 1 (by decide +kernel)) (zpvk hc 2 (by decide +kernel)) (fun _ _=>rfl)) zpe_int (fun _ _=>rfl)) (nomark _)))) zqss_nil);exact zqss_one (zqs_if (zpt_cmpR op_ne (zpe_ix ix_t (zpe_ix ix_t (zpvk hc 0 (by decide +kernel)) (zpvk hc 2 (by decide +kernel)) (fun _ _=>rfl)) zpe_int (fun _ _=>rfl)) (zpe_ix ix_t (zpe_ix ix_t (zpvk hc 1 (by decide +kernel)) (zpvk hc 2 (by decide +kernel)) (fun _ _=>rfl)) zpe_int (fun _ _=>rfl)) (nomark _)) (by exact zqss_one (zps_ret (zpe_ix ix_t (zpe_ix ix_t (zpvk hc 1 (by decide +kernel)) (zpvk hc 2 (by decide +kernel)) (fun _ _=>rfl)) zpe_int (fun _ _=>rfl)))) zqss_nil)));exact zqss_one (zps_ret zpe_bl)),?_⟩
 repeat (first | walk_at "rd" | simp only [hA,hB])
 by_cases hl:cl.length=dl.length
 ·rw [if_neg (by simp;lia)]
  refine ⟨by lia,by lia,?_⟩
  obtain ⟨Pv,hPv⟩:∃Pv:Nat->St->Hp->Prop,∀i σ' H',Pv i σ' H'↔∃(x:Option V),σ'=[some (.ref A),some (.ref B),x]/\H'=H/\∀j,j < i->cl[j]? = dl[j]?:=⟨_,fun _ _ _=>Iff.rfl⟩
  refine forAll_rng Pv ((hPv _ _ _).mpr ⟨none,rfl,rfl,fun j hj=>absurd hj (Nat.not_lt_zero _)⟩) (fun i σ' H1 hi pv=>?_) (fun σ' H1 pv=>?_)
  ·obtain ⟨x,rfl,rfl,same⟩:=(hPv _ _ _).mp pv
   have i1:i < qs.length:=by lia
   have i2:i < ps.length:=by lia
   have e1:qs[i]? = some qs[i]:=List.getElem?_eq_getElem i1
   have e2:ps[i]? = some ps[i]:=List.getElem?_eq_getElem i2
   obtain ⟨n1,b1,c1,h1⟩:=la.at e1
   obtain ⟨n2,b2,c2,h2⟩:=lb.at e2
   have a1:atI (List.map V.ref qs) (i:Int)=some (.ref qs[i]):=atI_nat (by rw [List.getElem?_map,e1];rfl)
   have a2:atI (List.map V.ref ps) (i:Int)=some (.ref ps[i]):=atI_nat (by rw [List.getElem?_map,e2];rfl)
   repeat (first | walk_at "rd" | simp only [hA,hB,a1,a2,h1,h2])
   by_cases hn:n1=n2
   ·rw [if_neg (by simp [hn])]
    by_cases hb:b1=b2
    ·rw [if_neg (by simp [hb])]
     refine (hPv _ _ _).mpr ⟨_,rfl,rfl,fun j hj=>?_⟩
     rcases Nat.lt_or_ge j i with z | z
     ·exact same j z
     ·have:j=i:=by lia
      rw [this,c1,c2,hn,hb]
    ·rw [if_pos (by simp [hb])]
     have e:=clLt_at hl same c1 c2 (fun z=>hb (congrArg Prod.snd z))
     have e3:pLt (n1,b1) (n2,b2)=b2:=by
      unfold pLt
      rw [if_pos hn]
      cases b1 <;> cases b2 <;> first | rfl | exact absurd rfl hb
     rw [e,e3] at q
     exact q
   ·rw [if_pos (by simp [hn])]
    have e:=clLt_at hl same c1 c2 (fun z=>hn (congrArg Prod.fst z))
    have e3:pLt (n1,b1) (n2,b2)=decide (n1.cps.toList < n2.cps.toList):=by unfold pLt;rw [if_neg hn]
    rw [e,e3] at q
    exact q
  ·obtain ⟨x,rfl,rfl,same⟩:=(hPv _ _ _).mp pv
   repeat (walk_at "rd")
   have e:cl=dl:=by
    apply List.ext_getElem?
    intro j
    by_cases hj:j < cl.length
    ·exact same j (by lia)
    ·rw [List.getElem?_eq_none (by lia),List.getElem?_eq_none (by lia)]
   rw [e,clLt_irr] at q
   exact q
 ·rw [if_pos (by simp;lia)]
  have e:clLt cl dl=decide ((qs.length:Int) < (ps.length:Int)):=by
   unfold clLt
   rw [decide_eq_false hl,Bool.false_and,Bool.or_false,Bool.eq_iff_iff,decide_eq_true_eq,decide_eq_true_eq]
   lia
  rw [e] at q
  exact q
end
def spStands:Sp:=fun vs H Q _=>∃C f,vs=[.ref C,.ref f]/\∃cl kvs,ClAt H cl C/\H f=some (.dK kvs)/\Fact kvs (cl.map (·.1))/\Q (.bl (cl.any fun x=>envK kvs x.1 == x.2)) H
section
variable {P:Program} {w:World} {K:PySem.W.Frag} {mg:Str->Option Value} {base:Heap} {t:Adr}
theorem ok_stands (T:Txt K mg t):FnOk P w K mg base CX0 1 t.a__law_stands t.d__law_stands ["_law_clause","_law_facts"] spStands:=by
 refine T.F__law_stands.okZ sc__law_stands (fun vs H Q E h=>?_) (fun cdv A outer s H vs Q E hr h hc hf=>?_)
 ·obtain ⟨C,f,rfl,_⟩:=h;rfl
 obtain ⟨C,f,rfl,cl,kvs,⟨qs,hC,lits⟩,hF,fa,q⟩:=h
 have hu:=hu_of hr
 have hu0:=hr.units0
 refine ⟨_,(by apply zqss_cons;exact (zqs_for PassesOwn.never rfl (zpi_tup (zpvk hc 0 (by decide +kernel))) (zpg_tup rfl (zpgs_cons (zpgk hc sc__law_stands.nd hf 2 (by decide +kernel)) (zpgs_cons (zpgk hc sc__law_stands.nd hf 3 (by decide +kernel)) zpgs_nil))) (by exact zqss_one (zqs_if (zpt_cmpR op_eq (zpe_dget hu (zpvk hc 1 (by decide +kernel)) (zpvk hc 2 (by decide +kernel)) (fun _ _=>rfl)) (zpvk hc 3 (by decide +kernel)) (nomark _)) (by exact zqss_one (zps_ret zpe_bl)) zqss_nil)));exact zqss_one (zps_ret zpe_bl)),?_⟩
 repeat (walk_at "rl")
 refine ⟨⟨_,sqT_of hC⟩,?_⟩
 obtain ⟨Pv,hPv⟩:∃Pv:Nat->St->Hp->Prop,∀i σ' H',Pv i σ' H'↔∃(x y:Option V),σ'=[some (.ref C),some (.ref f),x,y]/\H'=H/\(cl.take i).any (fun x=>envK kvs x.1 == x.2)=false:=⟨_,fun _ _ _=>Iff.rfl⟩
 refine forAll_tup (xs:=List.map V.ref qs) Pv ((hPv _ _ _).mpr ⟨none,none,rfl,rfl,rfl⟩) (fun i σ' H' _ pv=>?_) (fun i z σ' H1 hz pv=>?_) (fun σ' H1 pv=>?_)
 ·obtain ⟨_,_,_,rfl,_⟩:=(hPv _ _ _).mp pv
  exact hC
 ·obtain ⟨x,y,rfl,rfl,an⟩:=(hPv _ _ _).mp pv
  obtain ⟨b0,eb,rfl⟩:=ref_at hz
  obtain ⟨n,b,ec,hb0⟩:=lits.at eb
  obtain ⟨c,hc'⟩:=fa n (List.mem_map.mpr ⟨(n,b),List.mem_of_getElem? ec,rfl⟩)
  have ev:=envK_of hc'
  refine ⟨b0,_,rfl,sqT_of hb0,rfl,?_⟩
  repeat (first | walk_at "rl" | simp only [gCons,gNil,tDGet])
  refine ⟨.bl c,(by have:=DGet.k (k:=Sum.inr n) hF;rw [hc'] at this;exact this),rfl,?_⟩
  simp only [V.bl.injEq]
  split
  ·rename_i hcb
   have:(cl.any fun x=>envK kvs x.1 == x.2)=true:=List.any_eq_true.mpr ⟨(n,b),List.mem_of_getElem? ec,by simp [ev,hcb]⟩
   rw [this] at q
   exact q
  ·rename_i hcb
   refine (hPv _ _ _).mpr ⟨_,_,rfl,rfl,?_⟩
   rw [take_at ec,List.any_append,an]
   simp [ev]
   exact hcb
 ·obtain ⟨x,y,rfl,rfl,an⟩:=(hPv _ _ _).mp pv
  have hl:=lits.1
  rw [List.length_map,hl,List.take_length] at an
  repeat (walk_at "rl")
  rw [an] at q
  exact q
end
local macro_rules | `(tactic| walk_at "rd") => `(tactic| walk_at "rc")
local macro_rules | `(tactic| walk_at "rl") => `(tactic| first | (refine seq_op fun R hR => ?_) | walk_at "ry" | (refine Nx.to (by assumption) _ _ ?_))
def spLNames (d:Nat):Sp:=fun vs H Q _=>∃p,vs=[.ref p]/\∃r,RlAt H r p/\r.deep<=d/\r.deep<=6/\∀L ts H',Same H H'->H L=none->H' L=some (.lst (List.map V.str ts))->(∀z,z∈ts↔z∈r.names)->ts.Nodup->PyProof.Rows.sortedS ts=true->Q (.ref L) H'
theorem comp_notin {K:PySem.W.Frag} {N M:Addr} {us ts:List Str} {j:Nat} {σ:St} {H2:Hp} {Q:VK} (hN:H2 N=some (.lst (List.map V.str us))) (hM:H2 M=some (.lst (List.map V.str ts))) (hj:σ[j]? = some (some (.ref M))) (hl:us.length<=900)
  (q:∀D H',Same H2 H'->H2 D=none->H' D=some (.lst (List.map V.str (us.filter fun x=>decide (x∉ts))))->Q (.ref D) H') :
  CompAll (Itl K N) 1 [j] (fun _=>gName 0) (fun _=>tTest (tOp (qInL true) (tVar 0) (tVar 1))) (fun _=>tVar 0) σ Q H2:=by
 refine compAll_list (zs:=List.map V.str us) (fun D i ys H5=>ys=List.map V.str ((us.take i).filter fun x=>decide (x∉ts))/\Same H2 H5/\H5 D=some (.lst ys)) (fun D hD=>⟨rfl,same_new hD _,upd_same⟩) (fun D hD i ys H5 _ pv=>pv.2.1 _ _ hN) (fun D hD i x ys H5 hx pv c=>?_) (fun D hD ys H5 pv=>?_)
 ·obtain ⟨rfl,s5,hD5⟩:=pv
  obtain ⟨y,ey,rfl⟩:=str_at hx
  have et:us.take (i+1)=us.take i++[y]:=by rw [List.take_add_one,ey];rfl
  have hM5:=s5 _ _ hM
  walk_at "rc"
  repeat (first | walk_at "rl" | simp only [hj,hM5,Option.join_some])
  refine ⟨rfl,all_flat _,?_⟩
  simp only [inV_strs,if_true,Bool.not_eq_true',decide_eq_false_iff_not]
  split
  ·rename_i hy
   refine ⟨hD5,?_,?_,same_put' s5 hD⟩
   ·have:=List.length_filter_le (fun x=>decide (x∉ts)) (us.take i)
    have h2:(us.take i).length<=us.length:=by rw [List.length_take];lia
    try rw [List.length_map]
    exact small1000 (by lia)
   ·rw [et,List.filter_append];simp [hy]
  ·rename_i hy
   refine ⟨?_,s5,hD5⟩
   rw [et,List.filter_append];simp [hy]
 ·obtain ⟨rfl,s5,hD5⟩:=pv
  rw [List.length_map,List.take_length] at hD5
  exact q D H5 s5 hD hD5
section
variable {P:Program} {w:World} {K:PySem.W.Frag} {mg:Str->Option Value} {base:Heap} {t:Adr}
theorem ok_lnames (T:Txt K mg t):∀d:Nat,FnOk P w K mg base CX0 (d+1) t.a__law_names_of t.d__law_names_of ["_law_rule_here"] (spLNames d)
 | 0=>T.F__law_names_of.okZ (k:=0) sc__law_names_of (fun vs H Q E h=>by obtain ⟨p,rfl,_⟩:=h;rfl) (fun cdv A outer s H vs Q E hr h hc hf=>by obtain ⟨p,rfl,r,_,h1,_⟩:=h;have:=r.pos;lia)
 | d+1=>by
  have G__law_names_of:=ok_lnames T d
  refine T.F__law_names_of.okZ (k:=d+1) sc__law_names_of (fun vs H Q E h=>?_) (fun cdv A outer s H vs Q E hr h hc hf=>?_)
  ·obtain ⟨p,rfl,_⟩:=h;rfl
  obtain ⟨p,rfl,r,ra,hd,h6,q⟩:=h
  refine ⟨_,(by apply zqss_cons;exact (zqs_if (zpt_cmpR op_eq (zpe_ix ix_t (zpvk hc 0 (by decide +kernel)) zpe_int (fun _ _=>rfl)) zpe_str (nomark _)) (by exact zqss_one (zps_ret (zpe_lst (zpa_cons (zpe_ix ix_t (zpvk hc 0 (by decide +kernel)) zpe_int (fun _ _=>rfl)) zpa_nil)))) zqss_nil);apply zqss_cons;exact (zpsk_set hc sc__law_names_of.nd hf 1 (by decide +kernel) (zpe_lst zpa_nil));apply zqss_cons;exact (zqs_for PassesOwn.never rfl (zpi_tup (zpe_slice sl_t (zpvk hc 0 (by decide +kernel)) (zpo_some zpe_int) zpo_none)) (zpgk hc sc__law_names_of.nd hf 2 (by decide +kernel)) (by exact zqss_one (zpsk_set hc sc__law_names_of.nd hf 1 (by decide +kernel) (zpe_op op_cat (zpvk hc 1 (by decide +kernel)) (zpek_comp hc ["_law_name"] [1] rfl (by decide +kernel) (zpi_list (zpe_call G__law_names_of (hr.mono (by omega)) (glk hc (by decide +kernel)) T.m__law_names_of T.F__law_names_of.kp T.b__law_names_of .nil pass0 (zpa_cons (zpvk hc 2 (by decide +kernel)) zpa_nil))) (fun _ hc=>zpgb hc (by decide +kernel) 0 (by decide +kernel)) (fun _ hc=>zpifs_one (zpt_cmpR op_notInL (zpvk hc 0 (by decide +kernel)) (zpvk hc 1 (by decide +kernel)) (by with_unfolding_all rfl))) (fun _ hc=>(zpvk hc 0 (by decide +kernel))))))));exact zqss_one (zps_ret (zpe_callB call_sortedS (glk hc (by decide +kernel)) T.z_sorted b_sorted (zpa_cons (zpvk hc 1 (by decide +kernel)) zpa_nil)))),?_⟩
  rcases ra.kids with ⟨x,rfl,hp⟩ | ⟨k,qs,rs,hp,kis,hl,l2,kid,nm⟩
  ·repeat (first | walk_at "rl" | simp only [hp])
   refine ⟨by decide,fun L hL=>q L [x] _ (same_new hL _) hL upd_same (fun z=>Iff.rfl) (by simp) rfl⟩
  ·repeat (first | walk_at "rl" | simp only [hp,kis])
   refine ⟨by decide,fun L hL=>?_⟩
   have pL:p≠L:=ne_of_none hp hL
   repeat (walk_at "rl")
   refine ⟨_,by rw [upd_ne pL];exact hp,by simp [HT.sIx],fun C hC=>?_⟩
   rw [cutV_tail]
   have LC:L≠C:=ne_of_none upd_same hC
   have sC:Same H (upd (upd H L (.lst [])) C (.tup (List.map V.ref qs))):=(same_new hL _).trans (same_new hC _)
   refine ⟨⟨_,sqT_of upd_same⟩,?_⟩
   obtain ⟨Pv,hPv⟩:∃Pv:Nat->St->Hp->Prop,∀i σ' H',Pv i σ' H'↔∃(M:Addr) (ts:List Str) (x:Option V),σ'=[some (.ref p),some (.ref M),x]/\Same H H'/\H' M=some (.lst (List.map V.str ts))/\H' C=some (.tup (List.map V.ref qs))/\ts.Nodup/\∀z,z∈ts↔z∈((rs.take i).map Rl.names).flatten:=⟨_,fun _ _ _=>Iff.rfl⟩
   refine forAll_tup (xs:=List.map V.ref qs) Pv ((hPv _ _ _).mpr ⟨L,[],none,rfl,sC,by rw [upd_ne LC,upd_same];rfl,upd_same,List.nodup_nil,fun z=>Iff.rfl⟩) (fun i σ' H1 _ pv=>?_) (fun i x σ' H1 hx pv=>?_) (fun σ' H1 pv=>?_)
   ·obtain ⟨_,_,_,_,_,_,h,_⟩:=(hPv _ _ _).mp pv
    exact h
   ·obtain ⟨M,ts,y,rfl,s1,hM1,hC1,nd,mem⟩:=(hPv _ _ _).mp pv
    obtain ⟨a,ea,rfl⟩:=ref_at hx
    have hi:i < rs.length:=by rw [<-hl];exact (List.getElem?_eq_some_iff.mp ea).1
    have er:rs[i]? = some rs[i]:=List.getElem?_eq_getElem hi
    obtain ⟨ka,kd⟩:=kid i a _ ea er
    have len:((rs.take i).map Rl.names).flatten.length+(rs[i]).names.length<=32:=by
     have:=Rl.len6 h6
     have e2:r.names=((rs.take (i+1)).map Rl.names).flatten++((rs.drop (i+1)).map Rl.names).flatten:=by
      rw [nm,<-List.flatten_append,<-List.map_append,List.take_append_drop]
     rw [e2,take_flat er,List.length_append,List.length_append] at this
     lia
    repeat (walk_at "rl")
    refine ⟨a,rfl,rs[i],ka.mono (tups_of s1),by lia,by lia,fun N us H2 s2 hN hN2 mem2 nd2 srt2=>?_⟩
    repeat (first | walk_at "rl" | simp only [hN2,s2 _ _ hM1])
    have lus:us.length<=32:=by
     have:=nodup_sub nd2 fun x hx=>(mem2 x).mp hx
     lia
    have lts:ts.length<=32:=by
     have:=nodup_sub nd fun x hx=>(mem x).mp hx
     lia
    refine ⟨⟨_,sqL_of hN2⟩,comp_notin hN2 (s2 _ _ hM1) rfl (by lia) fun D H3 s3 hD hD3=>?_⟩
    have lf:=List.length_filter_le (fun x=>decide (x∉ts)) us
    refine ⟨D,rfl,_,s3 _ _ (s2 _ _ hM1),_,hD3,by rw [List.length_map,List.length_map];exact small1000' (by lia),fun Z hZ=>(hPv _ _ _).mpr ⟨Z,ts++us.filter (fun x=>decide (x∉ts)),_,rfl,?_,by rw [upd_same,List.map_append],?_,?_,fun z=>?_⟩⟩
    ·exact ((s1.trans s2).trans s3).trans (same_new hZ _)
    ·exact same_new hZ _ _ _ (s3 _ _ (s2 _ _ hC1))
    ·rw [List.nodup_append]
     refine ⟨nd,nd2.filter _,fun x hx y hy e=>?_⟩
     subst e
     have:=(List.mem_filter.mp hy).2
     simp at this
     exact this hx
    ·rw [take_flat er,List.mem_append,List.mem_append,mem z,List.mem_filter,mem2 z]
     constructor
     ·rintro (h | h)
      ·exact .inl h
      ·exact .inr h.1
     ·rintro (h | h)
      ·exact .inl h
      ·by_cases hz:z∈ts
       ·exact .inl ((mem z).mp hz)
       ·exact .inr ⟨h,by simpa using hz⟩
   ·obtain ⟨M,ts,y,rfl,s1,hM1,hC1,nd,mem⟩:=(hPv _ _ _).mp pv
    repeat (first | walk_at "rl" | simp only [hM1])
    rw [List.length_map,hl,List.take_length,<-nm] at mem
    have l32:=Rl.len6 h6
    have lts:ts.length<=r.names.length:=nodup_sub nd fun x hx=>(mem x).mp hx
    refine ⟨ts,rfl,by lia,fun us pu su Z hZ=>?_⟩
    exact q Z us _ (s1.trans (same_new hZ _)) (s1.free hZ) upd_same (fun z=>(pu.mem_iff).trans (mem z)) (pu.nodup_iff.mpr nd) su
end
local macro_rules | `(tactic| walk_at "rd") => `(tactic| walk_at "rc")
local macro_rules | `(tactic| walk_at "rl") => `(tactic| first | (refine seq_op fun R hR => ?_) | walk_at "ry" | (refine Nx.to (by assumption) _ _ ?_))
theorem cutV_to' (xs:List V) {k:Int} (hk:0<=k):cutV xs none (some k)=xs.take k.toNat:=by
 have e:HT.sIx xs.length xs.length (some k)=min k.toNat xs.length:=by
  show (if k < 0 then _ else min k.toNat xs.length)=_
  rw [if_neg (by lia)]
 have e0:HT.sIx xs.length 0 none=0:=rfl
 unfold cutV
 rw [e,e0,List.drop_zero,Nat.sub_zero]
 exact (List.take_eq_take_min ..).symm
theorem cutV_from' (xs:List V) {k:Int} (hk:0<=k):cutV xs (some k) none=xs.drop k.toNat:=by
 have e:HT.sIx xs.length 0 (some k)=min k.toNat xs.length:=by
  show (if k < 0 then _ else min k.toNat xs.length)=_
  rw [if_neg (by lia)]
 have e0:HT.sIx xs.length xs.length none=xs.length:=rfl
 unfold cutV
 rw [e,e0,List.take_of_length_le (by rw [List.length_drop];lia)]
 rcases Nat.le_total k.toNat xs.length with h | h
 ·rw [Nat.min_eq_left h]
 ·rw [Nat.min_eq_right h,List.drop_of_length_le (Nat.le_refl _),List.drop_of_length_le h]
theorem lits_take {H:Hp} {qs:List Addr} {cl:Cl} (h:Lits H qs cl) (n:Nat):Lits H (qs.take n) (cl.take n):=⟨by rw [List.length_take,List.length_take,h.1],fun i q x e f=>by
 rw [List.getElem?_take] at e f
 split at e
 ·rename_i hi
  rw [if_pos hi] at f
  exact h.2 i q x e f
 ·cases e⟩
theorem lits_drop {H:Hp} {qs:List Addr} {cl:Cl} (h:Lits H qs cl) (n:Nat):Lits H (qs.drop n) (cl.drop n):=⟨by rw [List.length_drop,List.length_drop,h.1],fun i q x e f=>by
 rw [List.getElem?_drop] at e f
 exact h.2 _ q x e f⟩
theorem lits_append {H:Hp} {qs ps:List Addr} {cl dl:Cl} (h:Lits H qs cl) (k:Lits H ps dl):Lits H (qs++ps) (cl++dl):=by
 refine ⟨by simp [h.1,k.1],fun i q x eq ex=>?_⟩
 by_cases hi:i < qs.length
 ·rw [List.getElem?_append_left hi] at eq
  rw [List.getElem?_append_left (by rw [<-h.1];exact hi)] at ex
  exact h.2 i q x eq ex
 ·have hl:=h.1
  rw [List.getElem?_append_right (by lia)] at eq
  rw [List.getElem?_append_right (by lia),<-hl] at ex
  exact k.2 _ q x eq ex
def DAt (P:Program) (w:World) (H:Hp) (d:Addr) (ks:List (Cl×Addr)):Prop:=(H d=some (DCl P w d ks)\/∃o,H d=some (.frz o (DCl P w d ks)))/\(∀k∈ks,ClAt H k.1 k.2)/\(ks.map (·.1)).Nodup
theorem DAt.mono {P:Program} {w:World} {H H':Hp} {d:Addr} {ks:List (Cl×Addr)} (h:DAt P w H d ks) (s:Same H H'):DAt P w H' d ks:=⟨h.1.elim (fun z=>.inl (s _ _ z)) (fun ⟨o,z⟩=>.inr ⟨o,s _ _ z⟩),fun k hk=>(h.2.1 k hk).mono (tups_of s),h.2.2⟩
def spShorter (P:Program) (w:World):Sp:=fun vs H Q _=>∃C d,vs=[.ref C,.ref d]/\∃cl ks,ClAt H cl C/\cl.length<=900/\DAt P w H d ks/\
 ∀b H',Same H H'->(b=true↔∃i,i < cl.length/\cl.eraseIdx i∈ks.map (·.1))->Q (.bl b) H'
section
variable {P:Program} {w:World} {K:PySem.W.Frag} {mg:Str->Option Value} {base:Heap} {t:Adr}
theorem ok_shorter (T:Txt K mg t):FnOk P w K mg base CX0 1 t.a_has_shorter t.d_has_shorter ["clause","following"] (spShorter P w):=by
 refine T.F_has_shorter.okZ sc_has_shorter (fun vs H Q E h=>?_) (fun cdv A outer s H vs Q E hr h hc hf=>?_)
 ·obtain ⟨C,d,rfl,_⟩:=h;rfl
 obtain ⟨C,d,rfl,cl,ks,⟨qs,hC,lits⟩,l9,dat,q⟩:=h
 have hu:=hu_of hr
 have hu0:=hr.units0
 have lq:=lits.1
 refine ⟨_,(by apply zqss_cons;exact (zqs_for PassesOwn.never rfl (zpi_range1 (glk hc (by decide +kernel)) T.z_range (zpa_cons (zpe_callB call_lenT (glk hc (by decide +kernel)) T.z_len b_len (zpa_cons (zpvk hc 0 (by decide +kernel)) zpa_nil)) zpa_nil)) (zpgk hc sc_has_shorter.nd hf 2 (by decide +kernel)) (by exact zqss_one (zqs_if (zpt_cmp (zpc_dinC hr.units (zpe_op op_catTQ (zpe_slice sl_t (zpvk hc 0 (by decide +kernel)) zpo_none (zpo_some (zpvk hc 2 (by decide +kernel)))) (zpe_slice sl_t (zpvk hc 0 (by decide +kernel)) (zpo_some (zpe_op op_add (zpvk hc 2 (by decide +kernel)) zpe_int)) zpo_none)) (zpvk hc 1 (by decide +kernel)))) (by exact zqss_one (zps_ret zpe_bl)) zqss_nil)));exact zqss_one (zps_ret zpe_bl)),?_⟩
 repeat (first | walk_at "rl" | simp only [hC])
 refine ⟨by lia,by lia,?_⟩
 obtain ⟨Pv,hPv⟩:∃Pv:Nat->St->Hp->Prop,∀i σ' H',Pv i σ' H'↔∃(x:Option V),σ'=[some (.ref C),some (.ref d),x]/\Same H H'/\∀j,j < i->cl.eraseIdx j∉ks.map (·.1):=⟨_,fun _ _ _=>Iff.rfl⟩
 refine forAll_rng Pv ((hPv _ _ _).mpr ⟨none,rfl,fun _ _ z=>z,fun j hj=>absurd hj (Nat.not_lt_zero _)⟩) (fun n σ' H1 hi pv=>?_) (fun σ' H1 pv=>?_)
 ·obtain ⟨x,rfl,s1,no⟩:=(hPv _ _ _).mp pv
  have hn:n < qs.length:=by lia
  have hC1:=s1 _ _ hC
  have lits1:=lits.mono (tups_of s1)
  repeat (first | walk_at "rl" | simp only [hC1])
  have ct:cutV (List.map V.ref qs) none (some (n:Int))=List.map V.ref (qs.take n):=by rw [cutV_to' _ (by lia),Int.toNat_natCast,List.map_take]
  have cd:cutV (List.map V.ref qs) (some ((n:Int)+1)) none=List.map V.ref (qs.drop (n+1)):=by rw [cutV_from' _ (by lia),show ((n:Int)+1).toNat=n+1 by lia,List.map_drop]
  have w1:¬(HT.sIx qs.length 0 none=0/\HT.sIx qs.length qs.length (some (n:Int))=qs.length):=fun z=>by
   have:=z.2
   rw [HT.sIx_nat] at this
   lia
  have w2:¬(HT.sIx (List.map V.ref qs).length 0 (some ((n:Int)+1))=0/\HT.sIx (List.map V.ref qs).length (List.map V.ref qs).length none=(List.map V.ref qs).length):=fun z=>by
   have:=z.1
   rw [show (n:Int)+1=((n+1:Nat):Int) by lia,HT.sIx_nat,List.length_map] at this
   lia
  refine ⟨w1,fun p1 hp1=>?_⟩
  rw [ct]
  have t1:=same_new hp1 (.tup (List.map V.ref (qs.take n)))
  have g1:upd H1 p1 (.tup (List.map V.ref (qs.take n))) p1=some (.tup (List.map V.ref (qs.take n))):=upd_same
  generalize upd H1 p1 (.tup (List.map V.ref (qs.take n)))=H3 at t1 g1 ⊢
  refine ⟨_,t1 _ _ hC1,w2,fun p2 hp2=>?_⟩
  rw [cd]
  have t2:=same_new hp2 (.tup (List.map V.ref (qs.drop (n+1))))
  generalize upd H3 p2 (.tup (List.map V.ref (qs.drop (n+1))))=H4 at t2 ⊢
  refine ⟨_,t2 _ _ g1,by rw [List.length_map,List.length_map,List.length_take,List.length_drop];exact Nat.le_of_lt (small1000 (by lia)),fun p3 H5 t3 _ hp3=>?_⟩
  have sa:=s1.trans ((t1.trans t2).trans t3)
  have es:cl.take n++cl.drop (n+1)=cl.eraseIdx n:=(List.eraseIdx_eq_take_drop_succ ..).symm
  have hcl:ClAt H5 (cl.eraseIdx n) p3:=by
   rw [<-es]
   exact ⟨qs.take n++qs.drop (n+1),by rw [hp3,List.map_append],(lits_append (lits_take lits n) (lits_drop lits (n+1))).mono (tups_of sa)⟩
  obtain ⟨da,db,dc⟩:=dat.mono sa
  refine ⟨ks,da,db,_,hcl,dc,?_⟩
  by_cases hm:cl.eraseIdx n∈ks.map (·.1)
  ·rw [if_pos hm]
   exact q true H5 sa ⟨fun _=>⟨n,by lia,hm⟩,fun _=>rfl⟩
  ·rw [if_neg hm]
   refine (hPv _ _ _).mpr ⟨_,rfl,sa,fun j hj=>?_⟩
   rcases Nat.lt_or_ge j n with z | z
   ·exact no j z
   ·have:j=n:=by lia
    rw [this];exact hm
 ·obtain ⟨x,rfl,s1,no⟩:=(hPv _ _ _).mp pv
  repeat (walk_at "rl")
  exact q false H1 s1 ⟨(fun z=>nomatch z),fun ⟨i,hi,hm⟩=>absurd hm (no i (by lia))⟩
end
local macro_rules | `(tactic| walk_at "rd") => `(tactic| walk_at "rc")
local macro_rules | `(tactic| walk_at "rl") => `(tactic| first | (refine seq_op fun R hR => ?_) | walk_at "ry" | (refine Nx.to (by assumption) _ _ ?_))
def un (bs:List Addr) (ev:Addr->Str->Bool) (cl:Cl):List Addr:=bs.filter fun b=>cl.all fun x=>!(ev b x.1 == x.2)
structure Kx (L:Addr) (H H':Hp):Prop where
 tup:Tups H H'
 lst:∀u xs,u≠L->H u=some (.lst xs)->H' u=some (.lst xs)
theorem Kx.of {L:Addr} {H H':Hp} (s:Same H H'):Kx L H H':=⟨tups_of s,fun u xs _ e=>s _ _ e⟩
theorem Kx.put {L:Addr} {H:Hp} {xs:List V} {o:HO} (h:H L=some (.lst xs)):Kx L H (upd H L o):=⟨tups_put h,fun u ys n e=>by rw [upd_ne n];exact e⟩
def PrX (bs:List Addr) (ev:Addr->Str->Bool) (L:Addr) (H:Hp) (p:Addr) (cl:Cl):Prop:=∃c u,H p=some (.tup [.ref c,.ref u])/\ClAt H cl c/\u≠L/\H u=some (.lst (List.map V.ref (un bs ev cl)))
theorem PrX.mono {bs:List Addr} {ev:Addr->Str->Bool} {L:Addr} {H H':Hp} {p:Addr} {cl:Cl} (h:PrX bs ev L H p cl) (k:Kx L H H'):PrX bs ev L H' p cl:=let ⟨c,u,a,b,n,d⟩:=h;⟨c,u,k.tup _ _ a,b.mono k.tup,n,k.lst _ _ n d⟩
def Prs (bs:List Addr) (ev:Addr->Str->Bool) (L:Addr) (H:Hp) (ps:List Addr) (cls:List Cl):Prop:=ps.length=cls.length/\∀(i:Nat) p cl,ps[i]? = some p->cls[i]? = some cl->PrX bs ev L H p cl
theorem Prs.mono {bs:List Addr} {ev:Addr->Str->Bool} {L:Addr} {H H':Hp} {ps:List Addr} {cls:List Cl} (h:Prs bs ev L H ps cls) (k:Kx L H H'):Prs bs ev L H' ps cls:=⟨h.1,fun i p cl e f=>(h.2 i p cl e f).mono k⟩
theorem Prs.nil {bs:List Addr} {ev:Addr->Str->Bool} {L:Addr} {H:Hp}:Prs bs ev L H [] []:=⟨rfl,fun i p cl e=>by simp at e⟩
theorem Prs.snoc {bs:List Addr} {ev:Addr->Str->Bool} {L:Addr} {H:Hp} {ps:List Addr} {cls:List Cl} {p:Addr} {cl:Cl} (h:Prs bs ev L H ps cls) (k:PrX bs ev L H p cl):Prs bs ev L H (ps++[p]) (cls++[cl]):=by
 have hl:=h.1
 refine ⟨by simp [hl],fun i q x eq ex=>?_⟩
 by_cases hi:i < ps.length
 ·rw [List.getElem?_append_left hi] at eq
  rw [List.getElem?_append_left (by lia)] at ex
  exact h.2 i q x eq ex
 ·have l:=(List.getElem?_eq_some_iff.mp eq).1
  rw [List.length_append,List.length_singleton] at l
  have hi':i=ps.length:=by lia
  rw [hi',List.getElem?_append_right (Nat.le_refl _),Nat.sub_self] at eq
  rw [hi',hl,List.getElem?_append_right (Nat.le_refl _),Nat.sub_self] at ex
  cases eq
  cases ex
  exact k
theorem Prs.other {bs:List Addr} {ev:Addr->Str->Bool} {L M:Addr} {H:Hp} {ps:List Addr} {cls:List Cl} (h:Prs bs ev L H ps cls) (hM:H M=none):Prs bs ev M H ps cls:=⟨h.1,fun i p cl e f=>let ⟨c,u,a,b,_,d⟩:=h.2 i p cl e f;⟨c,u,a,b,ne_of_none d hM,d⟩⟩
theorem un_snoc {bs:List Addr} {ev:Addr->Str->Bool} {cl:Cl} {n:Str} {b:Bool}:un bs ev (cl++[(n,b)])=(un bs ev cl).filter fun a=>!(ev a n == b):=by
 unfold un
 rw [List.filter_filter]
 refine List.filter_congr fun a _=>?_
 rw [List.all_append,Bool.and_comm]
 simp
theorem un_nil {bs:List Addr} {ev:Addr->Str->Bool}:un bs ev []=bs:=List.filter_eq_self.mpr fun a _=>rfl
theorem un_none {bs:List Addr} {ev:Addr->Str->Bool} {cl:Cl}:un bs ev cl=[]↔∀b∈bs,∃x∈cl,ev b x.1=x.2:=by
 unfold un
 rw [List.filter_eq_nil_iff]
 refine ⟨fun h b hb=>?_,fun h b hb z=>?_⟩
 ·refine Classical.byContradiction fun no=>h b hb (List.all_eq_true.mpr fun x hx=>?_)
  have:ev b x.1≠x.2:=fun e=>no ⟨x,hx,e⟩
  simpa using this
 ·obtain ⟨x,hx,e⟩:=h b hb
  have:=List.all_eq_true.mp z x hx
  simp [e] at this
theorem sub_snoc {cl:Cl} {l:List Str} {n:Str}:(cl.map (·.1)).Sublist (l++[n])↔(cl.map (·.1)).Sublist l\/∃c b,cl=c++[(n,b)]/\(c.map (·.1)).Sublist l:=by
 constructor
 ·intro h
  obtain ⟨l1,l2,e,h1,h2⟩:=List.sublist_append_iff.mp h
  obtain ⟨c,d,rfl,e1,e2⟩:=List.map_eq_append_iff.mp e
  rcases List.sublist_cons_iff.mp h2 with h3 | ⟨r,h3,h4⟩
  ·have:l2=[]:=List.sublist_nil.mp h3
   rw [this] at e2
   have:d=[]:=List.map_eq_nil_iff.mp e2
   rw [this,List.append_nil,e1]
   exact .inl h1
  ·have:r=[]:=List.sublist_nil.mp h4
   rw [this] at h3
   rw [h3] at e2
   obtain ⟨x,rfl,ex⟩:∃x,d=[x]/\x.1=n:=by
    cases d with
    | nil=>cases e2
    | cons x d=>
     rw [List.map_cons] at e2
     injection e2 with a b
     have:d=[]:=List.map_eq_nil_iff.mp b
     exact ⟨x,by rw [this],a⟩
   exact .inr ⟨c,x.2,by rw [<-ex],by rw [e1];exact h1⟩
 ·rintro (h | ⟨c,b,rfl,h⟩)
  ·exact h.trans (List.sublist_append_left _ _)
  ·rw [List.map_append]
   exact h.append (List.Sublist.refl _)
theorem comp_un {K:PySem.W.Frag} {U:Addr} {cs:List Addr} {ev:Addr->Str->Bool} {n:Str} {j:Nat} {σ:St} {H2:Hp} {Q:VK} (neg:Bool) {tt:CB->TT} (htt:tt=fun _=>if neg then tNot (tB (tDGet (tVar 0) (tVar 1))) else tB (tDGet (tVar 0) (tVar 1))) (hU:H2 U=some (.lst (List.map V.ref cs))) (rows:∀a∈cs,∃kvs,H2 a=some (.dK kvs)/\valV kvs (Sum.inr n)=some (.bl (ev a n))) (hj:σ[j]? = some (some (.str n))) (hl:cs.length<=900)
  (q:∀Z H',Same H2 H'->H2 Z=none->H' Z=some (.lst (List.map V.ref (cs.filter fun a=>!(ev a n == neg))))->Q (.ref Z) H') :
  CompAll (Itl K U) 1 [j] (fun _=>gName 0) tt (fun _=>tVar 0) σ Q H2:=by
 subst htt
 obtain ⟨Pc,hPc⟩:∃Pc:Addr->Nat->List V->Hp->Prop,∀Z i ys H',Pc Z i ys H'↔ys=List.map V.ref ((cs.take i).filter fun a=>!(ev a n == neg))/\Same H2 H'/\H' Z=some (.lst ys):=⟨_,fun _ _ _ _=>Iff.rfl⟩
 refine compAll_list (zs:=List.map V.ref cs) Pc (fun Z hZ=>(hPc _ _ _ _).mpr ⟨rfl,same_new hZ _,upd_same⟩) (fun Z hZ i ys H' _ pv=>?_) (fun Z hZ i z ys H' hz pv cb=>?_) (fun Z hZ ys H' pv=>?_)
 ·obtain ⟨_,s,_⟩:=(hPc _ _ _ _).mp pv
  exact s _ _ hU
 ·obtain ⟨ey,sZ,hZZ⟩:=(hPc _ _ _ _).mp pv
  obtain ⟨a,ea,rfl⟩:=ref_at hz
  obtain ⟨kvs,hk,hv⟩:=rows a (List.mem_of_getElem? ea)
  have hi:i < cs.length:=(List.getElem?_eq_some_iff.mp ea).1
  have ly:ys.length<=900:=by
   rw [ey,List.length_map]
   have:=List.length_filter_le (fun a=>!(ev a n == neg)) (cs.take i)
   rw [List.length_take] at this
   lia
  have hk1:=sZ _ _ hk
  have dg:DGet H' a (.str n) (some (.bl (ev a n))):=by have:=DGet.k (k:=Sum.inr n) hk1;rw [hv] at this;exact this
  have stp:(cs.take (i+1)).filter (fun a=>!(ev a n == neg))=(cs.take i).filter (fun a=>!(ev a n == neg))++(if (!(ev a n == neg))=true then [a] else []):=by
   rw [take_at ea,List.filter_append]
   congr 1
   by_cases h:(!(ev a n == neg))=true
   ·rw [if_pos h];simp only [List.filter_cons,List.filter_nil];rw [if_pos h]
   ·rw [if_neg h];simp only [List.filter_cons,List.filter_nil];rw [if_neg h]
  have yes:(!(ev a n == neg))=true->H' Z=some (.lst ys)/\ys.length < sizeLine/\Pc Z (i+1) (ys++[.ref a]) (upd H' Z (.lst (ys++[.ref a]))):=fun h=>⟨hZZ,small1000 (by lia),(hPc _ _ _ _).mpr ⟨by rw [stp,if_pos h,List.map_append,<-ey];rfl,same_put' sZ hZ,upd_same⟩⟩
  have no:(!(ev a n == neg))≠true->Pc Z (i+1) ys H':=fun h=>(hPc _ _ _ _).mpr ⟨by rw [stp,if_neg h,List.append_nil];exact ey,sZ,hZZ⟩
  cases neg with
  | false=>
   simp only [Bool.false_eq_true,if_false]
   walk_at "rc"
   repeat (first | walk_at "rl" | simp only [tDGet,hj,Option.join_some])
   refine ⟨_,dg,_,rfl,?_⟩
   by_cases h:ev a n=true
   ·rw [if_pos h]
    exact yes (by simp [h])
   ·rw [if_neg h]
    exact no (by simpa using h)
  | true=>
   simp only [if_true]
   walk_at "rc"
   repeat (first | walk_at "rl" | simp only [tDGet,hj,Option.join_some])
   refine ⟨_,dg,_,rfl,?_⟩
   by_cases h:ev a n=true
   ·first | rw [if_neg (by simp [h])] | rw [if_pos h]
    exact no (by simp [h])
   ·first | rw [if_pos (by simpa using h)] | rw [if_neg h]
    exact yes (by simpa using h)
 ·obtain ⟨ey,sZ,hZZ⟩:=(hPc _ _ _ _).mp pv
  rw [List.length_map,List.take_length] at ey
  rw [ey] at hZZ
  exact q Z H' sZ hZ hZZ
def spOver (P:Program) (w:World):Sp:=fun vs H Q _=>∃N R,vs=[.ref N,.ref R]/\∃(ns:List Str) (bs:List Addr) (ev:Addr->Str->Bool),H N=some (.lst (List.map V.str ns))/\ns.length<=6/\H R=some (.lst (List.map V.ref bs))/\bs.length<=900/\
 (∀b∈bs,∃kvs,H b=some (.dK kvs)/\Fact kvs ns/\∀n∈ns,envK kvs n=ev b n)/\
 ∀d ks H',Same H H'->H d=none->H' d=some (DCl P w d ks)->(∀k∈ks,ClAt H' k.1 k.2)->(ks.map (·.1)).Nodup->ks.length<=900->(∀cl,cl∈ks.map (·.1)↔(cl.map (·.1)).Sublist ns/\∀b∈bs,∃x∈cl,ev b x.1=x.2)->Q (.ref d) H'
section
variable {P:Program} {w:World} {K:PySem.W.Frag} {mg:Str->Option Value} {base:Heap} {t:Adr}
theorem ok_over (T:Txt K mg t):FnOk P w K mg base CX0 1 t.a_following_over t.d_following_over ["names","rows"] (spOver P w):=by
 refine T.F_following_over.okZ sc_following_over (fun vs H Q E h=>?_) (fun cdv A outer s H vs Q E hr h hc hf=>?_)
 ·obtain ⟨N,R,rfl,_⟩:=h;rfl
 obtain ⟨N,R,rfl,ns,bs,ev,hN,l6,hR,lb,rows,q⟩:=h
 have hu:=hu_of hr
 have hu0:=hr.units0
 refine ⟨_,(by apply zqss_cons;exact (zpsk_set hc sc_following_over.nd hf 2 (by decide +kernel) (zpe_lst (zpa_cons (zpe_tup (zpa_cons (zpe_tup zpa_nil) (zpa_cons (zpvk hc 1 (by decide +kernel)) zpa_nil))) zpa_nil)));apply zqss_cons;exact (zqs_for PassesOwn.never rfl (zpi_list (zpvk hc 0 (by decide +kernel))) (zpgk hc sc_following_over.nd hf 3 (by decide +kernel)) (by apply zqss_cons;exact (zpsk_set hc sc_following_over.nd hf 4 (by decide +kernel) (zpe_lst zpa_nil));apply zqss_cons;exact (zqs_for PassesOwn.never rfl (zpi_list (zpvk hc 2 (by decide +kernel))) (zpg_tup rfl (zpgs_cons (zpgk hc sc_following_over.nd hf 5 (by decide +kernel)) (zpgs_cons (zpgk hc sc_following_over.nd hf 6 (by decide +kernel)) zpgs_nil))) (by apply zqss_cons;exact (zps_expr (zpe_bm PySem.F.plainAttrs_list PySem.F.slot_list_append PySem.F.type_list_append mt_append (zpvk hc 4 (by decide +kernel)) (zpa_cons (zpe_tup (zpa_cons (zpvk hc 5 (by decide +kernel)) (zpa_cons (zpvk hc 6 (by decide +kernel)) zpa_nil))) zpa_nil)));apply zqss_cons;exact (zps_expr (zpe_bm PySem.F.plainAttrs_list PySem.F.slot_list_append PySem.F.type_list_append mt_append (zpvk hc 4 (by decide +kernel)) (zpa_cons (zpe_tup (zpa_cons (zpe_op op_catTQ (zpvk hc 5 (by decide +kernel)) (zpe_tup (zpa_cons (zpe_tup (zpa_cons (zpvk hc 3 (by decide +kernel)) (zpa_cons zpe_bl zpa_nil))) zpa_nil))) (zpa_cons (zpek_comp hc ["facts"] [3] rfl (by decide +kernel) (zpi_list (zpvk hc 6 (by decide +kernel))) (fun _ hc=>zpgb hc (by decide +kernel) 0 (by decide +kernel)) (fun _ hc=>zpifs_one (zpt_val (zpe_dget hu (zpvk hc 0 (by decide +kernel)) (zpvk hc 1 (by decide +kernel)) (fun _ _=>rfl)))) (fun _ hc=>(zpvk hc 0 (by decide +kernel)))) zpa_nil))) zpa_nil)));exact zqss_one (zps_expr (zpe_bm PySem.F.plainAttrs_list PySem.F.slot_list_append PySem.F.type_list_append mt_append (zpvk hc 4 (by decide +kernel)) (zpa_cons (zpe_tup (zpa_cons (zpe_op op_catTQ (zpvk hc 5 (by decide +kernel)) (zpe_tup (zpa_cons (zpe_tup (zpa_cons (zpvk hc 3 (by decide +kernel)) (zpa_cons zpe_bl zpa_nil))) zpa_nil))) (zpa_cons (zpek_comp hc ["facts"] [3] rfl (by decide +kernel) (zpi_list (zpvk hc 6 (by decide +kernel))) (fun _ hc=>zpgb hc (by decide +kernel) 0 (by decide +kernel)) (fun _ hc=>zpifs_one (zpt_not (zpt_val (zpe_dget hu (zpvk hc 0 (by decide +kernel)) (zpvk hc 1 (by decide +kernel)) (fun _ _=>rfl))))) (fun _ hc=>(zpvk hc 0 (by decide +kernel)))) zpa_nil))) zpa_nil)))));exact zqss_one (zpsk_set hc sc_following_over.nd hf 2 (by decide +kernel) (zpvk hc 4 (by decide +kernel)))));apply zqss_cons;exact (zpsk_set hc sc_following_over.nd hf 7 (by decide +kernel) zpe_dnewC);apply zqss_cons;exact (zqs_for PassesOwn.never rfl (zpi_list (zpvk hc 2 (by decide +kernel))) (zpg_tup rfl (zpgs_cons (zpgk hc sc_following_over.nd hf 5 (by decide +kernel)) (zpgs_cons (zpgk hc sc_following_over.nd hf 6 (by decide +kernel)) zpgs_nil))) (by exact zqss_one (zqs_if (zpt_cmpR (op_eqNil hu) (zpvk hc 6 (by decide +kernel)) (zpe_lst zpa_nil) (nomark _)) (by exact zqss_one (zps_dputC hr.units (zpvk hc 7 (by decide +kernel)) (zpvk hc 5 (by decide +kernel)) zpe_bl rfl)) zqss_nil)));exact zqss_one (zps_ret (zpvk hc 7 (by decide +kernel)))),?_⟩
 repeat (walk_at "rl")
 refine ⟨by decide,fun e0 he0=>?_⟩
 have s0:=same_new he0 (.tup [])
 have g0:ClAt (upd H e0 (.tup [])) [] e0:=⟨[],upd_same,Lits.nil⟩
 generalize upd H e0 (.tup [])=H0 at s0 g0 ⊢
 refine ⟨by decide,fun p0 hp0=>?_⟩
 have s1:=same_new hp0 (.tup [V.ref e0,V.ref R])
 have g1:upd H0 p0 (.tup [V.ref e0,V.ref R]) p0=some (.tup [V.ref e0,V.ref R]):=upd_same
 generalize upd H0 p0 (.tup [V.ref e0,V.ref R])=H1 at s1 g1 ⊢
 refine ⟨by decide,fun L0 hL0=>?_⟩
 have s2:=same_new hL0 (.lst [V.ref p0])
 have g2:upd H1 L0 (.lst [V.ref p0]) L0=some (.lst (List.map V.ref [p0])):=upd_same
 have hR1:=s1 _ _ (s0 _ _ hR)
 have hRL:R≠L0:=ne_of_none hR1 hL0
 have pr0:Prs bs ev L0 (upd H1 L0 (.lst [V.ref p0])) [p0] [[]]:=Prs.nil.snoc ⟨e0,R,s2 _ _ g1,g0.mono (tups_of (s1.trans s2)),hRL,by rw [un_nil];exact s2 _ _ hR1⟩
 generalize upd H1 L0 (.lst [V.ref p0])=H2 at s2 g2 pr0 ⊢
 have s02:=(s0.trans s1).trans s2
 repeat (walk_at "rl")
 refine ⟨⟨_,sqL_of (s02 _ _ hN)⟩,?_⟩
 obtain ⟨Pv,hPv⟩:∃Pv:Nat->St->Hp->Prop,∀i σ' H',Pv i σ' H'↔∃(Lp:Addr) (x1 x2 x3 x4:Option V) (ps:List Addr) (cls:List Cl),σ'=[some (.ref N),some (.ref R),some (.ref Lp),x1,x2,x3,x4,none]/\Same H H'/\H' Lp=some (.lst (List.map V.ref ps))/\Prs bs ev Lp H' ps cls/\cls.length=3 ^ i/\∀cl,cl∈cls↔(cl.map (·.1)).Sublist (ns.take i):=⟨_,fun _ _ _=>Iff.rfl⟩
 refine forAll_list (xs:=List.map V.str ns) Pv ((hPv _ _ _).mpr ⟨L0,none,none,none,none,[p0],[[]],rfl,s02,g2,pr0,rfl,fun cl=>by simp⟩) (fun i σ' H' _ pv=>?_) (fun i z σ' H3 hz pv=>?_) (fun σ' H3 pv=>?_)
 ·obtain ⟨_,_,_,_,_,_,_,_,s,_⟩:=(hPv _ _ _).mp pv
  exact s _ _ hN
 ·obtain ⟨Lp,x1,x2,x3,x4,ps,cls,rfl,s3,hLp,prs,lcl,mem⟩:=(hPv _ _ _).mp pv
  obtain ⟨n,en,rfl⟩:=str_at hz
  have hin:n∈ns:=List.mem_of_getElem? en
  have hi:i < ns.length:=(List.getElem?_eq_some_iff.mp en).1
  have l3:3 ^ i<=243:=Nat.le_trans (Nat.pow_le_pow_right (by decide) (by lia:i<=5)) (by decide)
  have lps:=prs.1
  repeat (walk_at "rl")
  refine ⟨by decide,fun M hM=>?_⟩
  have s4:=same_new hM (.lst [])
  have g4:upd H3 M (.lst []) M=some (.lst (List.map V.ref [])):=upd_same
  generalize upd H3 M (.lst [])=H4 at s4 g4 ⊢
  repeat (walk_at "rl")
  refine ⟨⟨_,sqL_of (s4 _ _ hLp)⟩,?_⟩
  have prM:=prs.other hM
  obtain ⟨Pw,hPw⟩:∃Pw:Nat->St->Hp->Prop,∀j σ' H',Pw j σ' H'↔∃(x3 x4:Option V) (qs:List Addr) (ds:List Cl),σ'=[some (.ref N),some (.ref R),some (.ref Lp),some (.str n),some (.ref M),x3,x4,none]/\Same H3 H'/\H' M=some (.lst (List.map V.ref qs))/\Prs bs ev M H' qs ds/\ds.length=3 * j/\∀cl,cl∈ds↔∃c∈cls.take j,cl=c\/∃b,cl=c++[(n,b)]:=⟨_,fun _ _ _=>Iff.rfl⟩
  refine forAll_list (xs:=List.map V.ref ps) Pw ((hPw _ _ _).mpr ⟨_,_,[],[],rfl,s4,g4,Prs.nil,rfl,fun cl=>by simp⟩) (fun j σ' H' _ pw=>?_) (fun j z σ' H5 hz pw=>?_) (fun σ' H5 pw=>?_)
  ·obtain ⟨_,_,_,_,_,s,_⟩:=(hPw _ _ _).mp pw
   exact s _ _ hLp
  ·obtain ⟨x3,x4,qs,ds,rfl,s5,hM5,prq,lds,memd⟩:=(hPw _ _ _).mp pw
   obtain ⟨p,ep,rfl⟩:=ref_at hz
   have hj:j < ps.length:=(List.getElem?_eq_some_iff.mp ep).1
   have ec:cls[j]? = some (cls[j]'(by lia)):=List.getElem?_eq_getElem (by lia)
   obtain ⟨c,u,hp,hc0,huM,hu0'⟩:=prM.2 j p _ ep ec
   generalize cls[j]'(by lia)=cl at ec hc0 hu0'
   refine ⟨p,_,rfl,sqT_of (s5 _ _ hp),rfl,?_⟩
   repeat (first | walk_at "rl" | simp only [gCons,gNil])
   obtain ⟨qc,hqc,lcq⟩:=hc0
   have lcc:=lcq.1
   have lcl2:cl.length<=6:=by
    have:=((mem cl).mp (List.mem_of_getElem? ec)).length_le
    rw [List.length_map,List.length_take] at this
    lia
   have rowv:∀a∈bs,∃kvs,H a=some (.dK kvs)/\valV kvs (Sum.inr n)=some (.bl (ev a n)):=fun a ha=>by
    obtain ⟨kvs,hk,fa,he⟩:=rows a ha
    obtain ⟨v,hv⟩:=fa n hin
    exact ⟨kvs,hk,by rw [<-he n hin,envK_of hv];exact hv⟩
   refine ⟨.inl ⟨rfl,_,sqL_of hM5⟩,by decide,fun p1 hp1=>?_⟩
   have t1:=same_new hp1 (.tup [V.ref c,V.ref u])
   have gp1:upd H5 p1 (.tup [V.ref c,V.ref u]) p1=some (.tup [V.ref c,V.ref u]):=upd_same
   generalize upd H5 p1 (.tup [V.ref c,V.ref u])=H5a at t1 gp1 ⊢
   have hM5a:=t1 _ _ hM5
   have s35:=s5.trans t1
   have lds2:ds.length<=729:=by lia
   refine ⟨_,hM5a,by rw [List.length_map];exact small1000 (by have:=prq.1;lia),?_⟩
   have pr5a:Prs bs ev M H5a (qs++[p1]) (ds++[cl]):=(prq.mono (Kx.of t1)).snoc ⟨c,u,gp1,⟨qc,s35 _ _ hqc,lcq.mono (tups_of s35)⟩,huM,s35 _ _ hu0'⟩
   have prH6:=pr5a.mono (Kx.put (o:=.lst (List.map V.ref qs++[V.ref p1])) hM5a)
   have sH6:Same H3 (upd H5a M (.lst (List.map V.ref qs++[V.ref p1]))):=same_put' s35 hM
   have hMH6:upd H5a M (.lst (List.map V.ref qs++[V.ref p1])) M=some (.lst (List.map V.ref (qs++[p1]))):=by rw [upd_same,List.map_append];rfl
   generalize upd H5a M (.lst (List.map V.ref qs++[V.ref p1]))=H6 at prH6 sH6 hMH6 ⊢
   repeat (walk_at "rl")
   refine ⟨.inl ⟨rfl,_,sqL_of hMH6⟩,?_⟩
   refine ⟨by decide,fun a2 ha2=>?_⟩
   have u21:=same_new ha2 (.tup [.str n,.bl false])
   have la2:LitAt (upd H6 a2 (.tup [.str n,.bl false])) a2 (n,false):=upd_same
   generalize upd H6 a2 (.tup [.str n,.bl false])=Ha2 at u21 la2 ⊢
   refine ⟨by decide,fun b2 hb2=>?_⟩
   have u22:=same_new hb2 (.tup [V.ref a2])
   generalize upd Ha2 b2 (.tup [V.ref a2])=Hb2 at u22 ⊢
   have v22:=u21.trans u22
   have sb2:=sH6.trans v22
   refine ⟨_,sb2 _ _ hqc,by rw [List.length_map,lcc];exact small1000 (by lia),fun c2 Hc2 u23 _ hc2=>?_⟩
   have v23:=v22.trans u23
   have sc2:=sH6.trans v23
   have clc2:ClAt Hc2 (cl++[(n,false)]) c2:=⟨qc++[a2],by rw [hc2,List.map_append];rfl,(lcq.mono (tups_of sc2)).snoc (u23 _ _ (u22 _ _ la2))⟩
   refine ⟨⟨_,sqL_of (sc2 _ _ hu0')⟩,?_⟩
   refine comp_un (ev:=ev) (n:=n) false rfl (sc2 _ _ hu0') (fun a ha=>?_) rfl (by have:=List.length_filter_le (fun b=>cl.all fun x=>!(ev b x.1 == x.2)) bs;exact Nat.le_trans this lb) fun Z Hd2 u24 hZ hZd=>?_
   ·obtain ⟨kvs,hk,hv⟩:=rowv a (List.mem_filter.mp ha).1
    exact ⟨kvs,sc2 _ _ (s3 _ _ hk),hv⟩
   rw [<-un_snoc] at hZd
   have v24:=v23.trans u24
   refine ⟨by decide,fun p2 hp2=>?_⟩
   have u25:=same_new hp2 (.tup [V.ref c2,V.ref Z])
   have gp2:upd Hd2 p2 (.tup [V.ref c2,V.ref Z]) p2=some (.tup [V.ref c2,V.ref Z]):=upd_same
   generalize upd Hd2 p2 (.tup [V.ref c2,V.ref Z])=He2 at u25 gp2 ⊢
   have v25:=v24.trans u25
   have hMe2:=v25 _ _ hMH6
   have hZM2:Z≠M:=fun e=>by rw [e] at hZ;rw [v23 _ _ hMH6] at hZ;cases hZ
   refine ⟨_,hMe2,by rw [List.length_map];exact small1000 (by have:=prH6.1;simp at this ⊢;lia),?_⟩
   have pre2:Prs bs ev M He2 ((qs++[p1])++[p2]) ((ds++[cl])++[cl++[(n,false)]]):=(prH6.mono (Kx.of v25)).snoc ⟨c2,Z,gp2,clc2.mono (tups_of (u24.trans u25)),hZM2,u25 _ _ hZd⟩
   have prH7:=pre2.mono (Kx.put (o:=.lst (List.map V.ref (qs++[p1])++[V.ref p2])) hMe2)
   have sH7:Same H3 (upd He2 M (.lst (List.map V.ref (qs++[p1])++[V.ref p2]))):=same_put' (sH6.trans v25) hM
   have hMH7:upd He2 M (.lst (List.map V.ref (qs++[p1])++[V.ref p2])) M=some (.lst (List.map V.ref (qs++[p1]++[p2]))):=by rw [upd_same,List.map_append (l₁:=qs++[p1])];rfl
   generalize upd He2 M (.lst (List.map V.ref (qs++[p1])++[V.ref p2]))=H7 at prH7 sH7 hMH7 ⊢
   repeat (walk_at "rl")
   refine ⟨.inl ⟨rfl,_,sqL_of hMH7⟩,?_⟩
   refine ⟨by decide,fun a3 ha3=>?_⟩
   have u31:=same_new ha3 (.tup [.str n,.bl true])
   have la3:LitAt (upd H7 a3 (.tup [.str n,.bl true])) a3 (n,true):=upd_same
   generalize upd H7 a3 (.tup [.str n,.bl true])=Ha3 at u31 la3 ⊢
   refine ⟨by decide,fun b3 hb3=>?_⟩
   have u32:=same_new hb3 (.tup [V.ref a3])
   generalize upd Ha3 b3 (.tup [V.ref a3])=Hb3 at u32 ⊢
   have v32:=u31.trans u32
   have sb3:=sH7.trans v32
   refine ⟨_,sb3 _ _ hqc,by rw [List.length_map,lcc];exact small1000 (by lia),fun c3 Hc3 u33 _ hc3=>?_⟩
   have v33:=v32.trans u33
   have sc3:=sH7.trans v33
   have clc3:ClAt Hc3 (cl++[(n,true)]) c3:=⟨qc++[a3],by rw [hc3,List.map_append];rfl,(lcq.mono (tups_of sc3)).snoc (u33 _ _ (u32 _ _ la3))⟩
   refine ⟨⟨_,sqL_of (sc3 _ _ hu0')⟩,?_⟩
   refine comp_un (ev:=ev) (n:=n) true rfl (sc3 _ _ hu0') (fun a ha=>?_) rfl (by have:=List.length_filter_le (fun b=>cl.all fun x=>!(ev b x.1 == x.2)) bs;exact Nat.le_trans this lb) fun Z Hd3 u34 hZ hZd=>?_
   ·obtain ⟨kvs,hk,hv⟩:=rowv a (List.mem_filter.mp ha).1
    exact ⟨kvs,sc3 _ _ (s3 _ _ hk),hv⟩
   rw [<-un_snoc] at hZd
   have v34:=v33.trans u34
   refine ⟨by decide,fun p3 hp3=>?_⟩
   have u35:=same_new hp3 (.tup [V.ref c3,V.ref Z])
   have gp3:upd Hd3 p3 (.tup [V.ref c3,V.ref Z]) p3=some (.tup [V.ref c3,V.ref Z]):=upd_same
   generalize upd Hd3 p3 (.tup [V.ref c3,V.ref Z])=He3 at u35 gp3 ⊢
   have v35:=v34.trans u35
   have hMe3:=v35 _ _ hMH7
   have hZM3:Z≠M:=fun e=>by rw [e] at hZ;rw [v33 _ _ hMH7] at hZ;cases hZ
   refine ⟨_,hMe3,by rw [List.length_map];exact small1000 (by have:=prH7.1;simp at this ⊢;lia),?_⟩
   have pre3:Prs bs ev M He3 ((qs++[p1]++[p2])++[p3]) ((ds++[cl]++[cl++[(n,false)]])++[cl++[(n,true)]]):=(prH7.mono (Kx.of v35)).snoc ⟨c3,Z,gp3,clc3.mono (tups_of (u34.trans u35)),hZM3,u35 _ _ hZd⟩
   have prH8:=pre3.mono (Kx.put (o:=.lst (List.map V.ref (qs++[p1]++[p2])++[V.ref p3])) hMe3)
   refine (hPw _ _ _).mpr ⟨_,_,qs++[p1]++[p2]++[p3],ds++[cl]++[cl++[(n,false)]]++[cl++[(n,true)]],rfl,same_put' (sH7.trans v35) hM,by rw [upd_same,List.map_append (l₁:=qs++[p1]++[p2])];rfl,prH8,by simp;lia,fun x=>?_⟩
   rw [take_at ec]
   simp only [List.mem_append,List.mem_singleton,memd]
   constructor
   ·rintro (((⟨c,hc,h⟩ | rfl) | rfl) | rfl)
    ·exact ⟨c,.inl hc,h⟩
    ·exact ⟨_,.inr rfl,.inl rfl⟩
    ·exact ⟨_,.inr rfl,.inr ⟨_,rfl⟩⟩
    ·exact ⟨_,.inr rfl,.inr ⟨_,rfl⟩⟩
   ·rintro ⟨c,hc | rfl,h⟩
    ·exact .inl (.inl (.inl ⟨c,hc,h⟩))
    ·rcases h with rfl | ⟨b,rfl⟩
     ·exact .inl (.inl (.inr rfl))
     ·cases b
      ·exact .inl (.inr rfl)
      ·exact .inr rfl
  ·obtain ⟨x3,x4,qs,ds,rfl,s5,hM5,prq,lds,memd⟩:=(hPw _ _ _).mp pw
   rw [List.length_map,lps] at lds memd
   rw [List.take_length] at memd
   repeat (walk_at "rl")
   refine (hPv _ _ _).mpr ⟨M,_,_,_,_,qs,ds,rfl,s3.trans s5,hM5,prq,by rw [lds,lcl,Nat.pow_succ,Nat.mul_comm],fun cl=>?_⟩
   rw [take_at en,sub_snoc,memd]
   constructor
   ·rintro ⟨c,hc,rfl | ⟨b,rfl⟩⟩
    ·exact .inl ((mem _).mp hc)
    ·exact .inr ⟨c,b,rfl,(mem _).mp hc⟩
   ·rintro (h | ⟨c,b,rfl,h⟩)
    ·exact ⟨cl,(mem _).mpr h,.inl rfl⟩
    ·exact ⟨c,(mem _).mpr h,.inr ⟨b,rfl⟩⟩
 ·obtain ⟨Lp,x1,x2,x3,x4,ps,cls,rfl,s3,hLp,prs,lcl,mem⟩:=(hPv _ _ _).mp pv
  rw [List.length_map] at lcl mem
  rw [List.take_length] at mem
  have lps:=prs.1
  have l3:3 ^ ns.length<=729:=Nat.le_trans (Nat.pow_le_pow_right (by decide) l6) (by decide)
  repeat (walk_at "rl")
  intro d hd
  have s4:=same_new hd (DCl P w d [])
  repeat (walk_at "rl")
  refine ⟨⟨_,sqL_of (s4 _ _ hLp)⟩,?_⟩
  obtain ⟨Pz,hPz⟩:∃Pz:Nat->St->Hp->Prop,∀j σ' H',Pz j σ' H'↔∃(x3 x4:Option V) (ks:List (Cl×Addr)),σ'=[some (.ref N),some (.ref R),some (.ref Lp),x1,x2,x3,x4,some (.ref d)]/\Same H3 H'/\H' d=some (DCl P w d ks)/\(∀k∈ks,ClAt H' k.1 k.2)/\(ks.map (·.1)).Nodup/\ks.length<=j/\∀cl,cl∈ks.map (·.1)↔cl∈cls.take j/\un bs ev cl=[]:=⟨_,fun _ _ _=>Iff.rfl⟩
  refine forAll_list (xs:=List.map V.ref ps) Pz ((hPz _ _ _).mpr ⟨_,_,[],rfl,s4,upd_same,(fun k hk=>nomatch hk),List.nodup_nil,Nat.le_refl _,fun cl=>by simp⟩) (fun j σ' H' _ pz=>?_) (fun j z σ' H5 hz pz=>?_) (fun σ' H5 pz=>?_)
  ·obtain ⟨_,_,_,_,s,_⟩:=(hPz _ _ _).mp pz
   exact s _ _ hLp
  ·obtain ⟨x3,x4,ks,rfl,s5,hd5,all5,nd5,lk5,mem5⟩:=(hPz _ _ _).mp pz
   obtain ⟨p,ep,rfl⟩:=ref_at hz
   have hj:j < ps.length:=(List.getElem?_eq_some_iff.mp ep).1
   have ec:cls[j]? = some (cls[j]'(by lia)):=List.getElem?_eq_getElem (by lia)
   obtain ⟨c,u,hp,hc0,_,hu0'⟩:=prs.2 j p _ ep ec
   generalize cls[j]'(by lia)=cl at ec hc0 hu0'
   refine ⟨p,_,rfl,sqT_of (s5 _ _ hp),rfl,?_⟩
   repeat (first | walk_at "rl" | simp only [gCons,gNil])
   refine ⟨by decide,fun e he=>?_⟩
   have t1:=same_new he (.lst [])
   have ge:upd H5 e (.lst []) e=some (.lst []):=upd_same
   generalize upd H5 e (.lst [])=H6 at t1 ge ⊢
   have s6:=s5.trans t1
   have hd6:=t1 _ _ hd5
   have all6:∀k∈ks,ClAt H6 k.1 k.2:=fun k hk=>(all5 k hk).mono (tups_of t1)
   have up:Tups H6 (upd H6 d (DCl P w d (putC ks cl c))):=fun q xs z=>by rw [upd_ne (ne_of z hd6 (by intro y;cases y))];exact z
   have hcl6:=hc0.mono (tups_of s6)
   refine ⟨_,s6 _ _ hu0',?_⟩
   by_cases hun:un bs ev cl=[]
   ·rw [if_pos (by rw [hun];rfl)]
    refine ⟨ks,hd6,all6,cl,hcl6,nd5,small1000 (by lia),(hPz _ _ _).mpr ⟨_,_,putC ks cl c,rfl,same_put' s6 hd,upd_same,?_,?_,?_,fun x=>?_⟩⟩
    ·unfold putC
     split
     ·exact fun k hk=>(all6 k hk).mono (by unfold putC at up;rename_i hn;rw [if_pos hn] at up;exact up)
     ·rename_i hn
      unfold putC at up
      rw [if_neg hn] at up
      intro k hk
      rcases List.mem_append.mp hk with hk | hk
      ·exact (all6 k hk).mono up
      ·rw [List.mem_singleton.mp hk];exact hcl6.mono up
    ·unfold putC
     split
     ·exact nd5
     ·rename_i hn
      rw [List.map_append,List.nodup_append]
      exact ⟨nd5,by simp,fun x hx y hy z=>hn (by rw [show y=cl by simpa using hy] at z;rw [<-z];exact hx)⟩
    ·unfold putC
     split
     ·lia
     ·rw [List.length_append,List.length_singleton];lia
    ·rw [take_at ec,List.mem_append,List.mem_singleton]
     unfold putC
     split
     ·rename_i hn
      rw [mem5]
      exact ⟨fun h=>⟨.inl h.1,h.2⟩,fun h=>h.1.elim (fun z=>⟨z,h.2⟩) fun z=>by rw [z];exact (mem5 cl).mp hn⟩
     ·rw [List.map_append,List.mem_append,mem5,List.map_cons,List.map_nil,List.mem_singleton]
      exact ⟨fun h=>h.elim (fun z=>⟨.inl z.1,z.2⟩) fun z=>⟨.inr z,by rw [z];exact hun⟩,fun h=>h.1.elim (fun z=>.inl ⟨z,h.2⟩) .inr⟩
   ·rw [if_neg (fun z=>hun (List.map_eq_nil_iff.mp z))]
    refine (hPz _ _ _).mpr ⟨_,_,ks,rfl,s6,hd6,all6,nd5,by lia,fun x=>?_⟩
    rw [mem5,take_at ec,List.mem_append,List.mem_singleton]
    exact ⟨fun h=>⟨.inl h.1,h.2⟩,fun h=>h.1.elim (fun z=>⟨z,h.2⟩) fun z=>absurd (by rw [<-z];exact h.2) hun⟩
  ·obtain ⟨x3,x4,ks,rfl,s5,hd5,all5,nd5,lk5,mem5⟩:=(hPz _ _ _).mp pz
   rw [List.length_map,lps] at lk5 mem5
   rw [List.take_length] at mem5
   repeat (walk_at "rl")
   exact q d ks H5 (s3.trans s5) (s3.free hd) hd5 all5 nd5 (by lia) fun cl=>by rw [mem5,mem,un_none]
end
local macro_rules | `(tactic| walk_at "rd") => `(tactic| walk_at "rc")
local macro_rules | `(tactic| walk_at "rl") => `(tactic| first | (refine seq_op fun R hR => ?_) | walk_at "ry" | (refine Nx.to (by assumption) _ _ ?_))
def Fol (r:Rl) (cl:Cl):Prop:=∀e:Str->Bool,r.val e=true->∃x∈cl,e x.1=x.2
structure Short (r:Rl) (cl:Cl):Prop where
 inc:Inc (cl.map (·.1))
 sub:∀x∈cl,x.1∈r.names
 fol:Fol r cl
 least:∀i,i < cl.length->¬Fol r (cl.eraseIdx i)
theorem sub_of_inc:∀{m l:List Str},Inc l->Inc m->(∀x∈l,x∈m)->l.Sublist m
 | m,[],_,_,_=>List.nil_sublist _
 | [],a::l,_,_,h=>nomatch h a List.mem_cons_self
 | b::m,a::l,hl,hm,h=>by
  have hl':=List.pairwise_cons.mp hl
  have hm':=List.pairwise_cons.mp hm
  by_cases e:a=b
  ·subst e
   refine (sub_of_inc (m:=m) (l:=l) hl'.2 hm'.2 fun x hx=>?_).cons₂ _
   rcases List.mem_cons.mp (h x (List.mem_cons_of_mem _ hx)) with z | z
   ·have:=hl'.1 x hx
    rw [z] at this
    exact absurd this (List.lt_irrefl _)
   ·exact z
  ·have ha:a∈m:=(List.mem_cons.mp (h a List.mem_cons_self)).elim (fun z=>absurd z e) id
   refine (sub_of_inc (m:=m) (l:=a::l) hl hm'.2 fun x hx=>?_).cons _
   rcases List.mem_cons.mp (h x hx) with z | z
   ·have hb:=hm'.1 a ha
    rcases List.mem_cons.mp hx with y | y
    ·rw [y];exact ha
    ·have:=List.lt_trans hb (hl'.1 x y)
     rw [z] at this
     exact absurd this (List.lt_irrefl _)
   ·exact z
def evH (H:Hp) (b:Addr) (n:Str):Bool:=match H b with | some (.dK kvs)=>envK kvs n | _=>false
theorem evH_of {H:Hp} {b:Addr} {kvs:List (Key×V)} (h:H b=some (.dK kvs)) (n:Str):evH H b n=envK kvs n:=by unfold evH;rw [h]
def spShort:Sp:=fun vs H Q _=>∃p,vs=[.ref p]/\∃r,RlAt H r p/\r.deep<=6/\Few r/\
 ∀D cs us H',Same H H'->H D=none->H' D=some (.lst (List.map V.ref cs))->ClsAt H' cs us->us.Pairwise (fun x y=>clLt x y=true)->us.length<=900->(∀cl,cl∈us↔Short r cl)->Q (.ref D) H'
section
variable {P:Program} {w:World} {K:PySem.W.Frag} {mg:Str->Option Value} {base:Heap} {t:Adr}
theorem ok_short (T:Txt K mg t):FnOk P w K mg base CX0 10 t.a_shortest_of t.d_shortest_of ["rule"] spShort:=by
 have G_names_of:=ok_names_of (P:=P) (w:=w) (base:=base) T
 have G_facts_for:=ok_for (P:=P) (w:=w) (base:=base) T
 have G_following_over:=ok_over (P:=P) (w:=w) (base:=base) T
 have G_has_shorter:=ok_shorter (P:=P) (w:=w) (base:=base) T
 have G_clauses_in_order:=ok_corder (P:=P) (w:=w) (base:=base) T
 refine T.F_shortest_of.okZ sc_shortest_of (fun vs H Q E h=>?_) (fun cdv A outer s H vs Q E hr h hc hf=>?_)
 ·obtain ⟨p,rfl,_⟩:=h;rfl
 obtain ⟨p,rfl,r,ra,h6,few,q⟩:=h
 obtain ⟨us0,lus0,sub0⟩:=id few
 have hu:=hu_of hr
 have hu0:=hr.units0
 refine ⟨_,(by apply zqss_cons;exact (zpsk_set hc sc_shortest_of.nd hf 1 (by decide +kernel) (zpe_call G_following_over (hr.mono (by omega)) (glk hc (by decide +kernel)) T.m_following_over T.F_following_over.kp T.b_following_over .nil pass0 (zpa_cons (zpe_call G_names_of (hr.mono (by omega)) (glk hc (by decide +kernel)) T.m_names_of T.F_names_of.kp T.b_names_of .nil pass0 (zpa_cons (zpvk hc 0 (by decide +kernel)) zpa_nil)) (zpa_cons (zpe_call G_facts_for (hr.mono (by omega)) (glk hc (by decide +kernel)) T.m_facts_for T.F_facts_for.kp T.b_facts_for .nil pass0 (zpa_cons (zpvk hc 0 (by decide +kernel)) zpa_nil)) zpa_nil))));exact zqss_one (zps_ret (zpe_call G_clauses_in_order (hr.mono (by omega)) (glk hc (by decide +kernel)) T.m_clauses_in_order T.F_clauses_in_order.kp T.b_clauses_in_order .nil pass0 (zpa_cons (zpek_comp hc ["clause"] [1] rfl (by decide +kernel) (zpi_dictC (zpvk hc 1 (by decide +kernel))) (fun _ hc=>zpgb hc (by decide +kernel) 0 (by decide +kernel)) (fun _ hc=>zpifs_one (zpt_not (zpt_val (zpe_call G_has_shorter (hr.mono (by omega)) (glk hc (by decide +kernel)) T.m_has_shorter T.F_has_shorter.kp T.b_has_shorter .nil pass0 (zpa_cons (zpvk hc 0 (by decide +kernel)) (zpa_cons (zpvk hc 1 (by decide +kernel)) zpa_nil)))))) (fun _ hc=>(zpvk hc 0 (by decide +kernel)))) zpa_nil)))),?_⟩
 repeat (walk_at "rl")
 refine ⟨p,rfl,r,ra,h6,fun N ts H1 s1 hN hN1 mem nd srt=>?_⟩
 have lts:ts.length<=6:=Nat.le_trans (nodup_sub nd fun z hz=>sub0 z ((mem z).mp hz)) lus0
 have inc:=inc_of srt nd
 refine ⟨p,rfl,r,ra.mono (tups_of s1),h6,few,fun R bs H2 s2 hR hR2 lbs gd al=>?_⟩
 have s12:=s1.trans s2
 refine ⟨N,R,rfl,ts,bs,evH H2,s2 _ _ hN1,lts,hR2,by lia,(fun b hb=>?_),fun d ks H3 s3 hd hd3 all nk lk memk=>?_⟩
 ·obtain ⟨kvs,hk,fx,_⟩:=gd b hb
  exact ⟨kvs,hk,(fun x hx=>fx.fact x ((mem x).mp hx)),fun n _=>(evH_of hk n).symm⟩
 have s13:=s12.trans s3
 have fol:∀{cl:Cl},(∀x∈cl,x.1∈r.names)->((∀b∈bs,∃x∈cl,evH H2 b x.1=x.2)↔Fol r cl):=fun {cl} hs=>by
  constructor
  ·intro h e he
   obtain ⟨b,hb,kvs,hk,ee⟩:=al e he
   obtain ⟨x,hx,ex⟩:=h b hb
   exact ⟨x,hx,by rw [<-ee x.1 (hs x hx),<-evH_of hk];exact ex⟩
  ·intro h b hb
   obtain ⟨kvs,hk,_,hv⟩:=gd b hb
   obtain ⟨x,hx,ex⟩:=h _ hv
   exact ⟨x,hx,by rw [evH_of hk];exact ex⟩
 have key:∀cl,cl∈ks.map (·.1)↔(Inc (cl.map (·.1))/\∀x∈cl,x.1∈r.names)/\Fol r cl:=fun cl=>by
  rw [memk]
  constructor
  ·rintro ⟨h1,h2⟩
   have hs:∀x∈cl,x.1∈r.names:=fun x hx=>(mem _).mp (h1.subset (List.mem_map.mpr ⟨x,hx,rfl⟩))
   exact ⟨⟨inc.sublist h1,hs⟩,(fol hs).mp h2⟩
  ·rintro ⟨⟨h1,hs⟩,h2⟩
   refine ⟨sub_of_inc h1 inc fun x hx=>?_,(fol hs).mpr h2⟩
   obtain ⟨y,hy,rfl⟩:=List.mem_map.mp hx
   exact (mem _).mpr (hs y hy)
 have short:∀cl,Short r cl↔cl∈ks.map (·.1)/\¬∃i,i < cl.length/\cl.eraseIdx i∈ks.map (·.1):=fun cl=>by
  constructor
  ·intro h
   exact ⟨(key cl).mpr ⟨⟨h.inc,h.sub⟩,h.fol⟩,fun ⟨i,hi,hk⟩=>h.least i hi ((key _).mp hk).2⟩
  ·rintro ⟨h1,h2⟩
   obtain ⟨⟨a,b⟩,c⟩:=(key cl).mp h1
   have sl:∀i,(cl.eraseIdx i).Sublist cl:=fun i=>List.eraseIdx_sublist ..
   exact ⟨a,b,c,fun i hi hf=>h2 ⟨i,hi,(key _).mpr ⟨⟨a.sublist (List.Sublist.map _ (sl i)),fun x hx=>b x ((sl i).subset hx)⟩,hf⟩⟩⟩
 have lenk:∀cl∈ks.map (·.1),cl.length<=6:=fun cl hc=>by
  have:=((memk cl).mp hc).1.length_le
  rw [List.length_map] at this
  lia
 repeat (walk_at "rl")
 refine ⟨ks,hd3,fun o=>?_⟩
 have hdH:H d=none:=s12.free hd
 have s4:Same H (upd H3 d (.frz o (DCl P w d ks))):=same_put' s13 hdH
 have up:Tups H3 (upd H3 d (.frz o (DCl P w d ks))):=fun q xs z=>by rw [upd_ne (ne_of z hd3 (by intro y;cases y))];exact z
 have all4:∀k∈ks,ClAt (upd H3 d (.frz o (DCl P w d ks))) k.1 k.2:=fun k hk=>(all k hk).mono up
 have hd4:upd H3 d (.frz o (DCl P w d ks)) d=some (.frz o (DCl P w d ks)):=upd_same
 change CompAll (Itc P w d o ks) _ _ _ _ _ _ _ (upd H3 d (.frz o (DCl P w d ks)))
 generalize upd H3 d (.frz o (DCl P w d ks))=H4 at s4 all4 hd4 ⊢
 have dat:DAt P w H4 d ks:=⟨.inr ⟨o,hd4⟩,all4,nk⟩
 obtain ⟨Pc,hPc⟩:∃Pc:Addr->Nat->List V->Hp->Prop,∀Z i ys H',Pc Z i ys H'↔∃(cs:List Addr) (us:List Cl),ys=List.map V.ref cs/\Same H4 H'/\H' Z=some (.lst ys)/\ClsAt H' cs us/\us.length<=i/\∀cl,cl∈us↔(∃k∈ks.take i,k.1=cl)/\¬∃i,i < cl.length/\cl.eraseIdx i∈ks.map (·.1):=⟨_,fun _ _ _ _=>Iff.rfl⟩
 refine compAll_dictC Pc (fun Z hZ=>(hPc _ _ _ _).mpr ⟨[],[],rfl,same_new hZ _,upd_same,⟨rfl,fun i b t e=>by simp at e⟩,Nat.le_refl _,fun cl=>by simp⟩) (fun Z hZ i ys H' _ pv=>?_) (fun Z hZ i k ys H' hk pv cb=>?_) (fun Z hZ ys H' pv=>?_)
 ·obtain ⟨_,_,_,s,_⟩:=(hPc _ _ _ _).mp pv
  exact s _ _ hd4
 ·obtain ⟨cs,us,rfl,sZ,hZZ,cat,lus,memu⟩:=(hPc _ _ _ _).mp pv
  have hi:i < ks.length:=(List.getElem?_eq_some_iff.mp hk).1
  have hkm:k∈ks:=List.mem_of_getElem? hk
  have hck:=(all4 k hkm).mono (tups_of sZ)
  have lcs:=cat.1
  walk_at "rc"
  repeat (walk_at "rl")
  refine ⟨k.2,d,rfl,k.1,ks,hck,Nat.le_trans (lenk k.1 (List.mem_map.mpr ⟨k,hkm,rfl⟩)) (by decide),dat.mono sZ,fun b H'' s'' hb=>?_⟩
  repeat (walk_at "rl")
  have tk:ks.take (i+1)=ks.take i++[k]:=take_at hk
  cases b with
  | true=>
   obtain hsh:=hb.mp rfl
   rw [if_neg (by simp)]
   refine (hPc _ _ _ _).mpr ⟨cs,us,rfl,sZ.trans s'',s'' _ _ hZZ,cat.mono (tups_of s''),by lia,fun cl=>?_⟩
   rw [memu,tk]
   constructor
   ·rintro ⟨⟨k',h1,h2⟩,h3⟩
    exact ⟨⟨k',List.mem_append_left _ h1,h2⟩,h3⟩
   ·rintro ⟨⟨k',h1,h2⟩,h3⟩
    rcases List.mem_append.mp h1 with z | z
    ·exact ⟨⟨k',z,h2⟩,h3⟩
    ·rw [List.mem_singleton.mp z] at h2
     rw [<-h2] at h3
     exact absurd hsh h3
  | false=>
   have hsh:¬∃i,i < k.1.length/\k.1.eraseIdx i∈ks.map (·.1):=fun z=>by cases hb.mpr z
   rw [if_pos (by simp)]
   refine ⟨s'' _ _ hZZ,small1000 (by lia),(hPc _ _ _ _).mpr ⟨cs++[k.2],us++[k.1],by simp,same_put' (sZ.trans s'') hZ,upd_same,?_,by simp;lia,fun cl=>?_⟩⟩
   ·have cat2:=cat.mono (tups_of s'')
    have hk2:=hck.mono (tups_of s'')
    have kx:=tups_put (o:=.lst (List.map V.ref cs++[V.ref k.2])) (s'' _ _ hZZ)
    refine ⟨by simp [lcs],fun j b t eb et=>?_⟩
    by_cases hj:j < cs.length
    ·rw [List.getElem?_append_left hj] at eb
     rw [List.getElem?_append_left (by lia)] at et
     exact (cat2.2 j b t eb et).mono kx
    ·have l:=(List.getElem?_eq_some_iff.mp eb).1
     rw [List.length_append,List.length_singleton] at l
     have hj':j=cs.length:=by lia
     rw [hj',List.getElem?_append_right (Nat.le_refl _),Nat.sub_self] at eb
     rw [hj',lcs,List.getElem?_append_right (Nat.le_refl _),Nat.sub_self] at et
     cases eb
     cases et
     exact hk2.mono kx
   ·rw [List.mem_append,memu,tk,List.mem_singleton]
    constructor
    ·rintro (⟨⟨k',h1,h2⟩,h3⟩ | h)
     ·exact ⟨⟨k',List.mem_append_left _ h1,h2⟩,h3⟩
     ·rw [h];exact ⟨⟨k,by simp,rfl⟩,hsh⟩
    ·rintro ⟨⟨k',h1,h2⟩,h3⟩
     rcases List.mem_append.mp h1 with z | z
     ·exact .inl ⟨⟨k',z,h2⟩,h3⟩
     ·rw [List.mem_singleton.mp z] at h2
      exact .inr h2.symm
 ·obtain ⟨cs,us,rfl,sZ,hZZ,cat,lus,memu⟩:=(hPc _ _ _ _).mp pv
  rw [List.take_length] at memu
  refine ⟨Z,rfl,cs,us,hZZ,cat,by lia,fun D H5 ds vs s5 hD hD5 catD srtD memD=>?_⟩
  have hZ4:=s4.trans sZ
  refine q D ds vs H5 (hZ4.trans s5) (hZ4.free hD) hD5 catD srtD ?_ fun cl=>?_
  ·have nds:vs.Nodup:=srtD.imp fun {x y} h1 h2=>by rw [h2] at h1;unfold clLt at h1;rw [lexC_irr] at h1;simp at h1
   have:=len_sub nds fun x hx=>(memD x).mp hx
   lia
  ·rw [memD,memu,short,List.mem_map]
end
local macro_rules | `(tactic| walk_at "rd") => `(tactic| walk_at "rc")
local macro_rules | `(tactic| walk_at "rl") => `(tactic| first | (refine seq_op fun R hR => ?_) | walk_at "ry" | (refine Nx.to (by assumption) _ _ ?_))
def spAllCl:Sp:=fun vs H Q _=>∃N,vs=[.ref N]/\∃ns:List Str,H N=some (.lst (List.map V.str ns))/\ns.length<=6/\ns.Nodup/\
 ∀L cs us H',Same H H'->H L=none->H' L=some (.lst (List.map V.ref cs))->ClsAt H' cs us->us.Nodup->us.length<=729->(∀cl,cl∈us↔(cl.map (·.1)).Sublist ns)->Q (.ref L) H'
def spSits:Sp:=fun vs H Q _=>∃R C,vs=[.ref R,.ref C]/\∃(bs:List Addr) (cl:Cl) (ev:Addr->Str->Bool),H R=some (.lst (List.map V.ref bs))/\ClAt H cl C/\(∀b∈bs,∃kvs,H b=some (.dK kvs)/\Fact kvs (cl.map (·.1))/\∀n∈cl.map (·.1),envK kvs n=ev b n)/\
 Q (.bl (decide (un bs ev cl=[]))) H
section
variable {P:Program} {w:World} {K:PySem.W.Frag} {mg:Str->Option Value} {base:Heap} {t:Adr}
theorem ok_sits (T:Txt K mg t):FnOk P w K mg base CX0 2 t.a__law_sits t.d__law_sits ["_law_rows","_law_clause"] spSits:=by
 have G__law_stands:=ok_stands (P:=P) (w:=w) (base:=base) T
 refine T.F__law_sits.okZ sc__law_sits (fun vs H Q E h=>?_) (fun cdv A outer s H vs Q E hr h hc hf=>?_)
 ·obtain ⟨R,C,rfl,_⟩:=h;rfl
 obtain ⟨R,C,rfl,bs,cl,ev,hR,hC,rows,q⟩:=h
 have hu:=hu_of hr
 have hu0:=hr.units0
 refine ⟨_,(by apply zqss_cons;exact (zqs_for PassesOwn.never rfl (zpi_list (zpvk hc 0 (by decide +kernel))) (zpgk hc sc__law_sits.nd hf 2 (by decide +kernel)) (by exact zqss_one (zqs_if (zpt_not (zpt_val (zpe_call G__law_stands (hr.mono (by omega)) (glk hc (by decide +kernel)) T.m__law_stands T.F__law_stands.kp T.b__law_stands .nil pass0 (zpa_cons (zpvk hc 1 (by decide +kernel)) (zpa_cons (zpvk hc 2 (by decide +kernel)) zpa_nil))))) (by exact zqss_one (zps_ret zpe_bl)) zqss_nil)));exact zqss_one (zps_ret zpe_bl)),?_⟩
 repeat (walk_at "rd")
 refine ⟨⟨_,sqL_of hR⟩,?_⟩
 have yes:∀{b kvs},(∀n∈cl.map (·.1),envK kvs n=ev b n)->((cl.any fun x=>envK kvs x.1 == x.2)=true↔∃x∈cl,ev b x.1=x.2):=fun {b kvs} he=>by
  rw [List.any_eq_true]
  constructor
  ·rintro ⟨x,hx,ex⟩
   exact ⟨x,hx,by rw [<-he x.1 (List.mem_map.mpr ⟨x,hx,rfl⟩)];simpa using ex⟩
  ·rintro ⟨x,hx,ex⟩
   exact ⟨x,hx,by rw [he x.1 (List.mem_map.mpr ⟨x,hx,rfl⟩)];simpa using ex⟩
 obtain ⟨Pv,hPv⟩:∃Pv:Nat->St->Hp->Prop,∀i σ' H',Pv i σ' H'↔∃(x:Option V),σ'=[some (.ref R),some (.ref C),x]/\H'=H/\∀b∈bs.take i,∃x∈cl,ev b x.1=x.2:=⟨_,fun _ _ _=>Iff.rfl⟩
 refine forAll_list (xs:=List.map V.ref bs) Pv ((hPv _ _ _).mpr ⟨none,rfl,rfl,fun b hb=>by simp at hb⟩) (fun i σ' H' _ pv=>?_) (fun i z σ' H1 hz pv=>?_) (fun σ' H1 pv=>?_)
 ·obtain ⟨_,_,rfl,_⟩:=(hPv _ _ _).mp pv
  exact hR
 ·obtain ⟨x,rfl,rfl,al⟩:=(hPv _ _ _).mp pv
  obtain ⟨b,eb,rfl⟩:=ref_at hz
  obtain ⟨kvs,hk,fa,he⟩:=rows b (List.mem_of_getElem? eb)
  repeat (walk_at "rd")
  refine ⟨C,b,rfl,cl,kvs,hC,hk,fa,_,rfl,?_⟩
  by_cases hs:(cl.any fun x=>envK kvs x.1 == x.2)=true
  ·rw [hs,if_neg (by simp)]
   refine (hPv _ _ _).mpr ⟨_,rfl,rfl,fun b' hb'=>?_⟩
   rw [take_at eb] at hb'
   rcases List.mem_append.mp hb' with z | z
   ·exact al b' z
   ·rw [List.mem_singleton.mp z];exact (yes he).mp hs
  ·rw [Bool.eq_false_iff.mpr hs,if_pos (by simp)]
   have e:decide (un bs ev cl=[])=false:=decide_eq_false fun z=>hs ((yes he).mpr (un_none.mp z b (List.mem_of_getElem? eb)))
   rw [e] at q
   exact q
 ·obtain ⟨x,rfl,rfl,al⟩:=(hPv _ _ _).mp pv
  rw [List.length_map,List.take_length] at al
  repeat (walk_at "rd")
  rw [decide_eq_true (un_none.mpr al)] at q
  exact q
end
local macro_rules | `(tactic| walk_at "rd") => `(tactic| walk_at "rc")
local macro_rules | `(tactic| walk_at "rl") => `(tactic| first | (refine seq_op fun R hR => ?_) | walk_at "ry" | (refine Nx.to (by assumption) _ _ ?_))
theorem cls_append {H:Hp} {cs ds:List Addr} {us vs:List Cl} (h:ClsAt H cs us) (k:ClsAt H ds vs):ClsAt H (cs++ds) (us++vs):=by
 have hl:=h.1
 refine ⟨by simp [hl,k.1],fun i q x eq ex=>?_⟩
 rw [List.getElem?_append] at eq ex
 split at eq
 ·rename_i hi
  rw [if_pos (by lia)] at ex
  exact h.2 i q x eq ex
 ·rename_i hi
  rw [if_neg (by lia),<-hl] at ex
  exact k.2 _ q x eq ex
theorem cls_one {H:Hp} {c:Addr} {u:Cl} (h:ClAt H u c):ClsAt H [c] [u]:=⟨rfl,fun i q x eq ex=>by
 cases i with
 | zero=>cases eq;cases ex;exact h
 | succ n=>cases eq⟩
theorem nd_more {us vs:List Cl} {n:Str} {j:Nat} {b:Bool} (ndv:vs.Nodup) (ndu:us.Nodup) (mem:∀x∈vs,x∈us\/∃b∈[false,true].take j,∃c∈us,x=c++[(n,b)]) (no:∀c∈us,n∉c.map (·.1)) (eb:[false,true][j]? = some b):(vs++us.map (· ++ [(n,b)])).Nodup:=by
 rw [List.nodup_append]
 refine ⟨ndv,List.pairwise_map.mpr (ndu.imp fun {x y} h e=>h (List.append_cancel_right e)),fun x hx y hy e=>?_⟩
 subst e
 obtain ⟨c,hc,rfl⟩:=List.mem_map.mp hy
 rcases mem _ hx with h | ⟨b',h1,c',_,h3⟩
 ·exact no _ h (by simp)
 ·have:=List.append_inj_right' h3 rfl
  simp at this
  subst this
  match j,eb with
  | 0,eb=>cases h1
  | 1,eb=>cases eb;simp at h1
section
variable {P:Program} {w:World} {K:PySem.W.Frag} {mg:Str->Option Value} {base:Heap} {t:Adr}
theorem ok_allcl (T:Txt K mg t):FnOk P w K mg base CX0 1 t.a__law_all_clauses t.d__law_all_clauses ["_law_names_here"] spAllCl:=by
 refine T.F__law_all_clauses.okZ sc__law_all_clauses (fun vs H Q E h=>?_) (fun cdv A outer s H vs Q E hr h hc hf=>?_)
 ·obtain ⟨N,rfl,_⟩:=h;rfl
 obtain ⟨N,rfl,ns,hN,l6,nd,q⟩:=h
 refine ⟨_,(by apply zqss_cons;exact (zpsk_set hc sc__law_all_clauses.nd hf 1 (by decide +kernel) (zpe_lst (zpa_cons (zpe_tup zpa_nil) zpa_nil)));apply zqss_cons;exact (zqs_for PassesOwn.never rfl (zpi_list (zpvk hc 0 (by decide +kernel))) (zpgk hc sc__law_all_clauses.nd hf 2 (by decide +kernel)) (by apply zqss_cons;exact (zpsk_set hc sc__law_all_clauses.nd hf 3 (by decide +kernel) (zpe_callTy call_listL (glk hc (by decide +kernel)) T.z_list b_list (zpa_cons (zpvk hc 1 (by decide +kernel)) zpa_nil)));apply zqss_cons;exact (zqs_for PassesOwn.never rfl (zpi_tup (zpe_tup (zpa_cons zpe_bl (zpa_cons zpe_bl zpa_nil)))) (zpgk hc sc__law_all_clauses.nd hf 4 (by decide +kernel)) (by exact zqss_one (zpsk_set hc sc__law_all_clauses.nd hf 3 (by decide +kernel) (zpe_op op_cat (zpvk hc 3 (by decide +kernel)) (zpek_comp hc ["_law_row"] [2,4] rfl (by decide +kernel) (zpi_list (zpvk hc 1 (by decide +kernel))) (fun _ hc=>zpgb hc (by decide +kernel) 0 (by decide +kernel)) (fun _ _=>zpifs_nil) (fun _ hc=>(zpe_op op_catTQ (zpvk hc 0 (by decide +kernel)) (zpe_tup (zpa_cons (zpe_tup (zpa_cons (zpvk hc 1 (by decide +kernel)) (zpa_cons (zpvk hc 2 (by decide +kernel)) zpa_nil))) zpa_nil)))))))));exact zqss_one (zpsk_set hc sc__law_all_clauses.nd hf 1 (by decide +kernel) (zpvk hc 3 (by decide +kernel)))));exact zqss_one (zps_ret (zpvk hc 1 (by decide +kernel)))),?_⟩
 repeat (walk_at "rd")
 refine ⟨by decide,fun e0 he0=>?_⟩
 have s0:=same_new he0 (.tup [])
 have g0:ClAt (upd H e0 (.tup [])) [] e0:=⟨[],upd_same,Lits.nil⟩
 generalize upd H e0 (.tup [])=H0 at s0 g0 ⊢
 refine ⟨by decide,fun L0 hL0=>?_⟩
 have s1:=same_new hL0 (.lst [V.ref e0])
 have g1:upd H0 L0 (.lst [V.ref e0]) L0=some (.lst (List.map V.ref [e0])):=upd_same
 have g2:=g0.mono (tups_of s1)
 have f0:H L0=none:=s0.free hL0
 generalize upd H0 L0 (.lst [V.ref e0])=H1 at s1 g1 g2 ⊢
 have s01:=s0.trans s1
 refine ⟨⟨_,sqL_of (s01 _ _ hN)⟩,?_⟩
 obtain ⟨Pv,hPv⟩:∃Pv:Nat->St->Hp->Prop,∀i σ' H',Pv i σ' H'↔∃(Lp:Addr) (x1 x2 x3:Option V) (cs:List Addr) (us:List Cl),σ'=[some (.ref N),some (.ref Lp),x1,x2,x3]/\Same H H'/\H Lp=none/\H' Lp=some (.lst (List.map V.ref cs))/\ClsAt H' cs us/\us.Nodup/\us.length=3 ^ i/\∀cl,cl∈us↔(cl.map (·.1)).Sublist (ns.take i):=⟨_,fun _ _ _=>Iff.rfl⟩
 refine forAll_list (xs:=List.map V.str ns) Pv ((hPv _ _ _).mpr ⟨L0,none,none,none,[e0],[[]],rfl,s01,f0,g1,cls_one g2,by simp,rfl,fun cl=>by simp⟩) (fun i σ' H' _ pv=>?_) (fun i z σ' H3 hz pv=>?_) (fun σ' H3 pv=>?_)
 ·obtain ⟨_,_,_,_,_,_,_,s,_⟩:=(hPv _ _ _).mp pv
  exact s _ _ hN
 ·obtain ⟨Lp,x1,x2,x3,cs,us,rfl,s3,fL,hLp,cat,ndu,lus,mem⟩:=(hPv _ _ _).mp pv
  obtain ⟨n,en,rfl⟩:=str_at hz
  have hi:i < ns.length:=(List.getElem?_eq_some_iff.mp en).1
  have hni:n∉ns.take i:=fun hm=>by
   have:=nd.sublist (List.take_sublist (i+1) ns)
   rw [take_at en,List.nodup_append] at this
   exact this.2.2 n hm n (by simp) rfl
  have l3:3 ^ i<=243:=Nat.le_trans (Nat.pow_le_pow_right (by decide) (by lia:i<=5)) (by decide)
  have lcs:=cat.1
  repeat (first | walk_at "rd" | simp only [hLp])
  intro M hM
  have s4:=same_new hM (.lst (List.map V.ref cs))
  have g4:upd H3 M (.lst (List.map V.ref cs)) M=some (.lst (List.map V.ref cs)):=upd_same
  generalize upd H3 M (.lst (List.map V.ref cs))=H4 at s4 g4 ⊢
  refine ⟨by decide,fun B hB=>?_⟩
  have s5:=same_new hB (.tup [V.bl false,V.bl true])
  have g5:upd H4 B (.tup [V.bl false,V.bl true]) B=some (.tup [V.bl false,V.bl true]):=upd_same
  generalize upd H4 B (.tup [V.bl false,V.bl true])=H5 at s5 g5 ⊢
  have s35:=s4.trans s5
  refine ⟨⟨_,sqT_of g5⟩,?_⟩
  obtain ⟨Pw,hPw⟩:∃Pw:Nat->St->Hp->Prop,∀j σ' H',Pw j σ' H'↔∃(M:Addr) (x3:Option V) (ds:List Addr) (vs:List Cl),σ'=[some (.ref N),some (.ref Lp),some (.str n),some (.ref M),x3]/\Same H5 H'/\H3 M=none/\H' M=some (.lst (List.map V.ref ds))/\ClsAt H' ds vs/\vs.Nodup/\vs.length=us.length * (j+1)/\∀cl,cl∈vs↔cl∈us\/∃b∈[false,true].take j,∃c∈us,cl=c++[(n,b)]:=⟨_,fun _ _ _=>Iff.rfl⟩
  refine forAll_tup (xs:=[V.bl false,V.bl true]) Pw ((hPw _ _ _).mpr ⟨M,_,cs,us,rfl,fun _ _ z=>z,hM,s5 _ _ g4,cat.mono (tups_of s35),ndu,by lia,fun cl=>by simp⟩) (fun j σ' H' _ pw=>?_) (fun j z σ' H6 hz pw=>?_) (fun σ' H6 pw=>?_)
  ·obtain ⟨_,_,_,_,_,s,_⟩:=(hPw _ _ _).mp pw
   exact s _ _ g5
  ·obtain ⟨M1,x3',ds,vs',rfl,s6,fM,hM6,catd,ndv,lvs,memv⟩:=(hPw _ _ _).mp pw
   obtain ⟨b,eb,rfl⟩:∃b,[false,true][j]? = some b/\z=.bl b:=by
    match j,hz with
    | 0,hz=>cases hz;exact ⟨_,rfl,rfl⟩
    | 1,hz=>cases hz;exact ⟨_,rfl,rfl⟩
   have hj:j < 2:=(List.getElem?_eq_some_iff.mp eb).1
   have s36:=s35.trans s6
   have hLp6:=s36 _ _ hLp
   have cat6:=cat.mono (tups_of s36)
   have ldd:=catd.1
   have l2:us.length * (j+1)<=486:=Nat.le_trans (Nat.mul_le_mul (by lia:us.length<=243) (by lia:j+1<=2)) (by decide)
   repeat (first | walk_at "rd" | simp only [hM6])
   refine ⟨⟨_,sqL_of hLp6⟩,?_⟩
   obtain ⟨Pc,hPc⟩:∃Pc:Addr->Nat->List V->Hp->Prop,∀Z k ys H',Pc Z k ys H'↔∃ks:List Addr,ys=List.map V.ref ks/\Same H6 H'/\H' Z=some (.lst ys)/\ClsAt H' ks ((us.take k).map (· ++ [(n,b)])):=⟨_,fun _ _ _ _=>Iff.rfl⟩
   refine compAll_list (zs:=List.map V.ref cs) Pc (fun Z hZ=>(hPc _ _ _ _).mpr ⟨[],rfl,same_new hZ _,upd_same,⟨rfl,fun i b t e=>by simp at e⟩⟩) (fun Z hZ k ys H' _ pc=>?_) (fun Z hZ k z ys H' hz pc cb=>?_) (fun Z hZ ys H' pc=>?_)
   ·obtain ⟨_,_,s,_⟩:=(hPc _ _ _ _).mp pc
    exact s _ _ hLp6
   ·obtain ⟨ks,rfl,sZ,hZZ,catZ⟩:=(hPc _ _ _ _).mp pc
    obtain ⟨c,ec,rfl⟩:=ref_at hz
    have hk:k < cs.length:=(List.getElem?_eq_some_iff.mp ec).1
    have eu:us[k]? = some (us[k]'(by lia)):=List.getElem?_eq_getElem (by lia)
    obtain ⟨qc,hqc,lcq⟩:=(cat6.2 k c _ ec eu).mono (tups_of sZ)
    have lcc:=lcq.1
    have lcl:(us[k]'(by lia)).length<=6:=by
     have:=((mem _).mp (List.mem_of_getElem? eu)).length_le
     rw [List.length_map,List.length_take] at this
     lia
    generalize us[k]'(by lia)=cl at eu lcq lcl lcc
    have lks:ks.length<=k:=by have:=catZ.1;rw [List.length_map,List.length_take] at this;lia
    walk_at "rc"
    repeat (walk_at "rd")
    refine ⟨by decide,fun a2 ha2=>?_⟩
    have u1:=same_new ha2 (.tup [.str n,.bl b])
    have la2:LitAt (upd H' a2 (.tup [.str n,.bl b])) a2 (n,b):=upd_same
    generalize upd H' a2 (.tup [.str n,.bl b])=Ha at u1 la2 ⊢
    refine ⟨by decide,fun b2 hb2=>?_⟩
    have u2:=same_new hb2 (.tup [V.ref a2])
    generalize upd Ha b2 (.tup [V.ref a2])=Hb at u2 ⊢
    have v2:=u1.trans u2
    refine ⟨_,v2 _ _ hqc,by rw [List.length_map,lcc];exact small1000 (by lia),fun c2 Hc u3 _ hc2=>?_⟩
    have v3:=v2.trans u3
    have clc:ClAt Hc (cl++[(n,b)]) c2:=⟨qc++[a2],by rw [hc2,List.map_append];rfl,(lcq.mono (tups_of v3)).snoc (u3 _ _ (u2 _ _ la2))⟩
    have hZc:=v3 _ _ hZZ
    refine ⟨hZc,small1000 (by lia),(hPc _ _ _ _).mpr ⟨ks++[c2],by simp,same_put' (sZ.trans v3) hZ,upd_same,?_⟩⟩
    rw [take_at eu,List.map_append]
    exact (cls_append (catZ.mono (tups_of v3)) (cls_one clc)).mono (tups_put hZc)
   ·obtain ⟨ks,rfl,sZ,hZZ,catZ⟩:=(hPc _ _ _ _).mp pc
    rw [List.length_map,lcs,List.take_length] at catZ
    have lks:=catZ.1
    rw [List.length_map] at lks
    refine ⟨Z,rfl,_,sZ _ _ hM6,_,hZZ,by rw [List.length_map,List.length_map];exact small1000' (by lia),fun M2 hM2=>(hPw _ _ _).mpr ⟨M2,_,ds++ks,vs'++us.map (· ++ [(n,b)]),rfl,(s6.trans sZ).trans (same_new hM2 _),(s36.trans sZ).free hM2,by rw [upd_same,List.map_append],(cls_append (catd.mono (tups_of sZ)) catZ).mono (tups_new hM2),?_,?_,fun cl=>?_⟩⟩
    ·exact nd_more ndv ndu (fun x hx=>(memv x).mp hx) (fun c hc z=>hni (((mem c).mp hc).subset z)) eb
    ·rw [List.length_append,List.length_map,lvs,Nat.mul_add (us.length) (j+1) 1,Nat.mul_one]
    ·rw [List.mem_append,memv,List.mem_map,take_at eb]
     constructor
     ·rintro ((h | ⟨b',h1,h2⟩) | ⟨c,h1,h2⟩)
      ·exact .inl h
      ·exact .inr ⟨b',List.mem_append_left _ h1,h2⟩
      ·exact .inr ⟨b,by simp,c,h1,h2.symm⟩
     ·rintro (h | ⟨b',h1,c,h2,h3⟩)
      ·exact .inl (.inl h)
      ·rcases List.mem_append.mp h1 with h1 | h1
       ·exact .inl (.inr ⟨b',h1,c,h2,h3⟩)
       ·rw [List.mem_singleton.mp h1] at h3
        exact .inr ⟨c,h2,h3.symm⟩
  ·obtain ⟨M1,x3',ds,vs',rfl,s6,fM,hM6,catd,ndv,lvs,memv⟩:=(hPw _ _ _).mp pw
   repeat (walk_at "rd")
   have fM':H M1=none:=s3.free fM
   refine (hPv _ _ _).mpr ⟨M1,_,_,_,ds,vs',rfl,s3.trans (s35.trans s6),fM',hM6,catd,ndv,by rw [lvs,lus,Nat.pow_succ];rfl,fun cl=>?_⟩
   rw [take_at en,sub_snoc,memv]
   constructor
   ·rintro (h | ⟨b,_,c,h1,h2⟩)
    ·exact .inl ((mem _).mp h)
    ·exact .inr ⟨c,b,h2,(mem _).mp h1⟩
   ·rintro (h | ⟨c,b,h1,h2⟩)
    ·exact .inl ((mem _).mpr h)
    ·exact .inr ⟨b,by cases b <;> simp,c,(mem _).mpr h2,h1⟩
 ·obtain ⟨Lp,x1,x2,x3,cs,us,rfl,s3,fL,hLp,cat,ndu,lus,mem⟩:=(hPv _ _ _).mp pv
  rw [List.length_map] at lus mem
  rw [List.take_length] at mem
  have l3:3 ^ ns.length<=729:=Nat.le_trans (Nat.pow_le_pow_right (by decide) l6) (by decide)
  repeat (walk_at "rd")
  exact q Lp cs us H3 s3 fL hLp cat ndu (by lia) mem
end
local macro_rules | `(tactic| walk_at "rd") => `(tactic| walk_at "rc")
local macro_rules | `(tactic| walk_at "rl") => `(tactic| first | (refine seq_op fun R hR => ?_) | walk_at "ry" | (refine Nx.to (by assumption) _ _ ?_))
theorem clLt_tr {x y z:Cl} (h1:clLt x y=true) (h2:clLt y z=true):clLt x z=true:=by
 unfold clLt at *
 simp only [Bool.or_eq_true,Bool.and_eq_true,decide_eq_true_eq] at *
 rcases h1 with h1 | ⟨h1,l1⟩ <;> rcases h2 with h2 | ⟨h2,l2⟩
 ·exact .inl (by lia)
 ·exact .inl (by lia)
 ·exact .inl (by lia)
 ·exact .inr ⟨by lia,lexC_tr l1 l2⟩
theorem clLt_tri {x y:Cl} (ne:x≠y):clLt x y=true\/clLt y x=true:=by
 unfold clLt
 simp only [Bool.or_eq_true,Bool.and_eq_true,decide_eq_true_eq]
 rcases Nat.lt_trichotomy x.length y.length with h | h | h
 ·exact .inl (.inl h)
 ·rcases lexC_tri h ne with z | z
  ·exact .inl (.inr ⟨h,z⟩)
  ·exact .inr (.inr ⟨h.symm,z⟩)
 ·exact .inr (.inl h)
theorem cls_insert {H:Hp} {cs:List Addr} {us:List Cl} {c:Addr} {x:Cl} (h:ClsAt H cs us) (hx:ClAt H x c) {m:Nat} (hm:m<=us.length):ClsAt H (cs.take m++c::cs.drop m) (us.take m++x::us.drop m):=by
 have hl:=h.1
 refine ⟨by simp [hl],fun i b t eb et=>?_⟩
 rw [List.getElem?_append] at eb et
 rw [List.length_take] at eb et
 rw [show min m cs.length=m by lia] at eb
 rw [show min m us.length=m by lia] at et
 split at eb
 ·rename_i hi
  rw [if_pos hi] at et
  rw [List.getElem?_take,if_pos hi] at eb et
  exact h.2 i b t eb et
 ·rename_i hi
  rw [if_neg hi] at et
  cases e:i - m with
  | zero=>rw [e] at eb et;cases eb;cases et;exact hx
  | succ k=>
   rw [e,List.getElem?_cons_succ,List.getElem?_drop] at eb et
   exact h.2 _ b t eb et
theorem pw_insert {us:List Cl} {x:Cl} {m:Nat} (h:us.Pairwise fun x y=>clLt x y=true) (lo:∀y∈us.take m,clLt y x=true) (hi:∀y∈us.drop m,clLt x y=true):(us.take m++x::us.drop m).Pairwise fun x y=>clLt x y=true:=by
 rw [List.pairwise_append]
 refine ⟨h.sublist (List.take_sublist ..),List.pairwise_cons.mpr ⟨hi,h.sublist (List.drop_sublist ..)⟩,fun a ha b hb=>?_⟩
 rcases List.mem_cons.mp hb with rfl | hb
 ·exact lo a ha
 ·exact clLt_tr (lo a ha) (hi b hb)
theorem ins_mem {us:List Cl} {x z:Cl} {m:Nat}:z∈us.take m++x::us.drop m↔z∈us\/z=x:=by
 rw [List.mem_append,List.mem_cons]
 have:z∈us↔z∈us.take m\/z∈us.drop m:=by rw [<-List.mem_append,List.take_append_drop]
 rw [this]
 constructor
 ·rintro (h | h | h)
  ·exact .inl (.inl h)
  ·exact .inr h
  ·exact .inl (.inr h)
 ·rintro ((h | h) | h)
  ·exact .inl h
  ·exact .inr (.inr h)
  ·exact .inr (.inl h)
theorem short_iff {r:Rl} {bs:List Addr} {ev:Addr->Str->Bool} {ts:List Str} (inc:Inc ts) (mem:∀z,z∈ts↔z∈r.names) (fol:∀{cl:Cl},(∀x∈cl,x.1∈r.names)->((∀b∈bs,∃x∈cl,ev b x.1=x.2)↔Fol r cl)) (cl:Cl) :
  Short r cl↔((cl.map (·.1)).Sublist ts/\un bs ev cl=[])/\∀j,j < cl.length->un bs ev (cl.eraseIdx j)≠[]:=by
 have sl:∀i,(cl.eraseIdx i).Sublist cl:=fun i=>List.eraseIdx_sublist ..
 constructor
 ·intro h
  refine ⟨⟨sub_of_inc h.inc inc fun x hx=>?_,un_none.mpr ((fol h.sub).mpr h.fol)⟩,fun j hj z=>h.least j hj ((fol fun x hx=>h.sub x ((sl j).subset hx)).mp (un_none.mp z))⟩
  obtain ⟨y,hy,rfl⟩:=List.mem_map.mp hx
  exact (mem _).mpr (h.sub y hy)
 ·rintro ⟨⟨h1,h2⟩,h3⟩
  have hs:∀x∈cl,x.1∈r.names:=fun x hx=>(mem _).mp (h1.subset (List.mem_map.mpr ⟨x,hx,rfl⟩))
  exact ⟨inc.sublist h1,hs,(fol hs).mp (un_none.mp h2),fun j hj z=>h3 j hj (un_none.mpr ((fol fun x hx=>hs x ((sl j).subset hx)).mpr z))⟩
def spLShort:Sp:=fun vs H Q _=>∃p,vs=[.ref p]/\∃r,RlAt H r p/\r.deep<=6/\Few r/\
 ∀D cs us H',Same H H'->H D=none->H' D=some (.lst (List.map V.ref cs))->ClsAt H' cs us->us.Pairwise (fun x y=>clLt x y=true)->us.length<=900->(∀cl,cl∈us↔Short r cl)->Q (.ref D) H'
section
variable {P:Program} {w:World} {K:PySem.W.Frag} {mg:Str->Option Value} {base:Heap} {t:Adr}
theorem ok_lshort (T:Txt K mg t):FnOk P w K mg base CX0 8 t.a__law_shortest t.d__law_shortest ["_law_rule_here"] spLShort:=by
 have G__law_names_of:=ok_lnames (P:=P) (w:=w) (base:=base) T 6
 have G__law_all_facts:=ok_lrows (P:=P) (w:=w) (base:=base) T
 have G__law_holds:=ok_lholds (P:=P) (w:=w) (base:=base) T 6
 have G__law_all_clauses:=ok_allcl (P:=P) (w:=w) (base:=base) T
 have G__law_sits:=ok_sits (P:=P) (w:=w) (base:=base) T
 have G__law_before:=ok_before (P:=P) (w:=w) (base:=base) T
 refine T.F__law_shortest.okZ sc__law_shortest (fun vs H Q E h=>?_) (fun cdv A outer s H vs Q E hr h hc hf=>?_)
 ·obtain ⟨p,rfl,_⟩:=h;rfl
 obtain ⟨p,rfl,r,ra,h6,⟨us0,lus0,sub0⟩,q⟩:=h
 have hu:=hu_of hr
 have hu0:=hr.units0
 refine ⟨_,(by apply zqss_cons;exact (zpsk_set hc sc__law_shortest.nd hf 1 (by decide +kernel) (zpe_call G__law_names_of (hr.mono (by omega)) (glk hc (by decide +kernel)) T.m__law_names_of T.F__law_names_of.kp T.b__law_names_of .nil pass0 (zpa_cons (zpvk hc 0 (by decide +kernel)) zpa_nil)));apply zqss_cons;exact (zpsk_set hc sc__law_shortest.nd hf 2 (by decide +kernel) (zpek_comp hc ["_law_facts"] [0] rfl (by decide +kernel) (zpi_list (zpe_call G__law_all_facts (hr.mono (by omega)) (glk hc (by decide +kernel)) T.m__law_all_facts T.F__law_all_facts.kp T.b__law_all_facts .nil pass0 (zpa_cons (zpvk hc 1 (by decide +kernel)) zpa_nil))) (fun _ hc=>zpgb hc (by decide +kernel) 0 (by decide +kernel)) (fun _ hc=>zpifs_one (zpt_val (zpe_call G__law_holds (hr.mono (by omega)) (glk hc (by decide +kernel)) T.m__law_holds T.F__law_holds.kp T.b__law_holds .nil pass0 (zpa_cons (zpvk hc 1 (by decide +kernel)) (zpa_cons (zpvk hc 0 (by decide +kernel)) zpa_nil))))) (fun _ hc=>(zpvk hc 0 (by decide +kernel)))));apply zqss_cons;exact (zpsk_comp hc sc__law_shortest.nd 3 (by decide +kernel) ["_law_clause"] [2] rfl (by decide +kernel) (zpi_list (zpe_call G__law_all_clauses (hr.mono (by omega)) (glk hc (by decide +kernel)) T.m__law_all_clauses T.F__law_all_clauses.kp T.b__law_all_clauses .nil pass0 (zpa_cons (zpvk hc 1 (by decide +kernel)) zpa_nil))) (fun _ hc=>zpgb hc (by decide +kernel) 0 (by decide +kernel)) (fun _ hc=>zpifs_one (zpt_val (zpe_call G__law_sits (hr.mono (by omega)) (glk hc (by decide +kernel)) T.m__law_sits T.F__law_sits.kp T.b__law_sits .nil pass0 (zpa_cons (zpvk hc 1 (by decide +kernel)) (zpa_cons (zpvk hc 0 (by decide +kernel)) zpa_nil))))) (fun _ hc=>(zpvk hc 0 (by decide +kernel))) (by rfl));apply zqss_cons;exact (zpsk_set hc sc__law_shortest.nd hf 4 (by decide +kernel) (zpe_lst zpa_nil));apply zqss_cons;exact (zqs_for PassesOwn.never rfl (zpi_list (zpvk hc 3 (by decide +kernel))) (zpgk hc sc__law_shortest.nd hf 5 (by decide +kernel)) (by apply zqss_cons;exact (zpsk_comp hc sc__law_shortest.nd 6 (by decide +kernel) ["_law_k"] [5] rfl (by decide +kernel) (zpi_range1 (glk hc (by decide +kernel)) T.z_range (zpa_cons (zpe_callB call_lenT (glk hc (by decide +kernel)) T.z_len b_len (zpa_cons (zpvk hc 5 (by decide +kernel)) zpa_nil)) zpa_nil)) (fun _ hc=>zpgb hc (by decide +kernel) 0 (by decide +kernel)) (fun _ _=>zpifs_nil) (fun _ hc=>(zpe_op op_catTQ (zpe_slice sl_t (zpvk hc 1 (by decide +kernel)) zpo_none (zpo_some (zpvk hc 0 (by decide +kernel)))) (zpe_slice sl_t (zpvk hc 1 (by decide +kernel)) (zpo_some (zpe_op op_add (zpvk hc 0 (by decide +kernel)) zpe_int)) zpo_none))) (by rfl));exact zqss_one (zqs_if (zpt_not (zpt_val (zpe_callB (call_anyB hr.hd) (glk hc (by decide +kernel)) T.z_any b_any (zpa_cons (zpek_comp hc ["_law_one"] [2] rfl (by decide +kernel) (zpi_list (zpvk hc 6 (by decide +kernel))) (fun _ hc=>zpgb hc (by decide +kernel) 0 (by decide +kernel)) (fun _ _=>zpifs_nil) (fun _ hc=>(zpe_call G__law_sits (hr.mono (by omega)) (glk hc (by decide +kernel)) T.m__law_sits T.F__law_sits.kp T.b__law_sits .nil pass0 (zpa_cons (zpvk hc 1 (by decide +kernel)) (zpa_cons (zpvk hc 0 (by decide +kernel)) zpa_nil))))) zpa_nil)))) (by apply zqss_cons;exact (zpsk_set hc sc__law_shortest.nd hf 7 (by decide +kernel) (zpe_callB call_lenL (glk hc (by decide +kernel)) T.z_len b_len (zpa_cons (zpvk hc 4 (by decide +kernel)) zpa_nil)));apply zqss_cons;exact (zqs_while PassesOwn.never (zPWpt (zpw_and (zpt_cmpR op_gt (zpvk hc 7 (by decide +kernel)) zpe_int (nomark _)) (zpw_and1 (zpt_val (zpe_call G__law_before (hr.mono (by omega)) (glk hc (by decide +kernel)) T.m__law_before T.F__law_before.kp T.b__law_before .nil pass0 (zpa_cons (zpvk hc 5 (by decide +kernel)) (zpa_cons (zpe_ix ix_l (zpvk hc 4 (by decide +kernel)) (zpe_op op_sub (zpvk hc 7 (by decide +kernel)) zpe_int) (fun _ _=>rfl)) zpa_nil))))))) (by exact zqss_one (zpsk_aug hc sc__law_shortest.nd hf 7 (by decide +kernel) zpe_int ip_sub)));exact zqss_one (zps_expr (zpe_bm PySem.F.plainAttrs_list PySem.F.slot_list_insert PySem.F.type_list_insert mt_insert (zpvk hc 4 (by decide +kernel)) (zpa_cons (zpvk hc 7 (by decide +kernel)) (zpa_cons (zpvk hc 5 (by decide +kernel)) zpa_nil))))) zqss_nil)));exact zqss_one (zps_ret (zpvk hc 4 (by decide +kernel)))),?_⟩
 repeat (walk_at "rd")
 refine ⟨p,rfl,r,ra,h6,h6,fun N ts H1 s1 hN hN1 mem nd srt=>?_⟩
 have lts:ts.length<=6:=Nat.le_trans (nodup_sub nd fun z hz=>sub0 z ((mem z).mp hz)) lus0
 have inc:=inc_of srt nd
 repeat (walk_at "rd")
 refine ⟨N,rfl,ts,hN1,by lia,nd,fun R0 as H2 s2 hR0 hR2 hal rows=>?_⟩
 have la:as.length<=64:=by
  rw [hal]
  exact Nat.le_trans (Nat.pow_le_pow_right (by decide) lts) (by decide)
 have s12:=s1.trans s2
 repeat (walk_at "rd")
 refine ⟨⟨_,sqL_of hR2⟩,?_⟩
 obtain ⟨Pc,hPc⟩:∃Pc:Addr->Nat->List V->Hp->Prop,∀Z i ys H',Pc Z i ys H'↔∃bs:List Addr,ys=List.map V.ref bs/\bs.length<=i/\Same H2 H'/\H' Z=some (.lst ys)/\(∀b∈bs,∃kvs,H2 b=some (.dK kvs)/\FX kvs r.names/\r.val (envK kvs)=true)/\∀(k:Nat) b kvs,k < i->as[k]? = some b->H2 b=some (.dK kvs)->r.val (envK kvs)=true->b∈bs:=⟨_,fun _ _ _ _=>Iff.rfl⟩
 refine compAll_list (zs:=List.map V.ref as) Pc (fun Z hZ=>(hPc _ _ _ _).mpr ⟨[],rfl,Nat.le_refl _,same_new hZ _,upd_same,(fun b hb=>nomatch hb),fun k b kvs hk=>absurd hk (Nat.not_lt_zero _)⟩) (fun Z hZ i ys H' _ pv=>?_) (fun Z hZ i z ys H' hz pv cb=>?_) (fun R hR ys H3 pv=>?_)
 ·obtain ⟨_,_,_,s,_⟩:=(hPc _ _ _ _).mp pv
  exact s _ _ hR2
 ·obtain ⟨bs,rfl,hbl,sZ,hZZ,gd,al⟩:=(hPc _ _ _ _).mp pv
  obtain ⟨b0,eb,rfl⟩:=ref_at hz
  have hi:i < as.length:=(List.getElem?_eq_some_iff.mp eb).1
  obtain ⟨_,kvs,hb,row⟩:=rows i b0 eb
  have fx:=row.fx.sub mem
  walk_at "rc"
  repeat (walk_at "rd")
  refine ⟨p,b0,rfl,r,ra.mono (tups_of (s12.trans sZ)),h6,kvs,sZ _ _ hb,fx.fact,?_⟩
  repeat (walk_at "rd")
  split
  ·rename_i hv
   refine ⟨hZZ,small1000 (by lia),(hPc _ _ _ _).mpr ⟨bs++[b0],by simp,by simp;lia,same_put' sZ hZ,upd_same,fun b hb'=>?_,fun k b kv hk ek e hv'=>?_⟩⟩
   ·rcases List.mem_append.mp hb' with z | z
    ·exact gd b z
    ·rw [List.mem_singleton.mp z]
     exact ⟨kvs,hb,fx,hv⟩
   ·by_cases hki:k < i
    ·exact List.mem_append_left _ (al k b kv hki ek e hv')
    ·have:k=i:=by lia
     rw [this,eb] at ek
     rw [<-Option.some.inj ek]
     simp
  ·rename_i hv
   refine (hPc _ _ _ _).mpr ⟨bs,rfl,by lia,sZ,hZZ,gd,fun k b kv hk ek e hv'=>?_⟩
   by_cases hki:k < i
   ·exact al k b kv hki ek e hv'
   ·have:k=i:=by lia
    rw [this,eb] at ek
    rw [<-Option.some.inj ek,hb] at e
    rw [<-HO.dK.inj (Option.some.inj e)] at hv'
    exact absurd hv' hv
 obtain ⟨bs,rfl,hbl,s3,hR3,gd,al⟩:=(hPc _ _ _ _).mp pv
 rw [List.length_map] at hbl al
 have fol:∀{cl:Cl},(∀x∈cl,x.1∈r.names)->((∀b∈bs,∃x∈cl,evH H2 b x.1=x.2)↔Fol r cl):=fun {cl} hs=>by
  constructor
  ·intro h e he
   obtain ⟨b,hb,kvs,hk,_,ee⟩:=rows.any hal e
   have ev':∀x∈r.names,envK kvs x=e x:=fun x hx=>ee x ((mem x).mpr hx)
   obtain ⟨k,ek⟩:=List.getElem?_of_mem hb
   obtain ⟨x,hx,ex⟩:=h b (al k b kvs (List.getElem?_eq_some_iff.mp ek).1 ek hk (by rw [<-he];exact Rl.val_congr ev'))
   exact ⟨x,hx,by rw [<-ev' x.1 (hs x hx),<-evH_of hk];exact ex⟩
  ·intro h b hb
   obtain ⟨kvs,hk,_,hv⟩:=gd b hb
   obtain ⟨x,hx,ex⟩:=h _ hv
   exact ⟨x,hx,by rw [evH_of hk];exact ex⟩
 have key:=short_iff (bs:=bs) (ev:=evH H2) inc mem fol
 have facts:∀{cl:Cl} {H':Hp},Same H2 H'->(cl.map (·.1)).Sublist ts->∀b∈bs,∃kvs,H' b=some (.dK kvs)/\Fact kvs (cl.map (·.1))/\∀n∈cl.map (·.1),envK kvs n=evH H2 b n:=fun {cl H'} sm sb b hb=>by
  obtain ⟨kvs,hk,fx,_⟩:=gd b hb
  exact ⟨kvs,sm _ _ hk,(fun x hx=>fx.fact x ((mem x).mp (sb.subset hx))),fun n _=>(evH_of hk n).symm⟩
 clear fol al gd rows hPc pv Pc
 have s13:=s12.trans s3
 repeat (walk_at "rd")
 refine ⟨N,rfl,ts,s3 _ _ (s2 _ _ hN1),lts,nd,fun L cs us H4 s4 hL hL4 cat ndu lus memu=>?_⟩
 have s14:=s13.trans s4
 have s24:=s3.trans s4
 have hR4:=s4 _ _ hR3
 have lcs:=cat.1
 repeat (walk_at "rd")
 refine ⟨⟨_,sqL_of hL4⟩,?_⟩
 obtain ⟨Pc,hPc⟩:∃Pc:Addr->Nat->List V->Hp->Prop,∀Z i ys H',Pc Z i ys H'↔∃ks:List Addr,ys=List.map V.ref ks/\Same H4 H'/\H' Z=some (.lst ys)/\ClsAt H' ks ((us.take i).filter fun cl=>decide (un bs (evH H2) cl=[])):=⟨_,fun _ _ _ _=>Iff.rfl⟩
 refine compAll_list (zs:=List.map V.ref cs) Pc (fun Z hZ=>(hPc _ _ _ _).mpr ⟨[],rfl,same_new hZ _,upd_same,⟨rfl,fun i b t e=>by simp at e⟩⟩) (fun Z hZ i ys H' _ pv=>?_) (fun Z hZ i z ys H' hz pv cb=>?_) (fun S hS ys H5 pv=>?_)
 ·obtain ⟨_,_,s,_⟩:=(hPc _ _ _ _).mp pv
  exact s _ _ hL4
 ·obtain ⟨ks,rfl,sZ,hZZ,catZ⟩:=(hPc _ _ _ _).mp pv
  obtain ⟨c,ec,rfl⟩:=ref_at hz
  have hi:i < cs.length:=(List.getElem?_eq_some_iff.mp ec).1
  have eu:us[i]? = some (us[i]'(by lia)):=List.getElem?_eq_getElem (by lia)
  have hcl:=(cat.2 i c _ ec eu).mono (tups_of sZ)
  have hsb:=(memu _).mp (List.mem_of_getElem? eu)
  generalize us[i]'(by lia)=cl at eu hcl hsb
  have lks:ks.length<=729:=by
   rw [catZ.1]
   have:=List.length_filter_le (fun cl=>decide (un bs (evH H2) cl=[])) (us.take i)
   rw [List.length_take] at this
   lia
  walk_at "rc"
  repeat (walk_at "rd")
  refine ⟨R,c,rfl,bs,cl,evH H2,sZ _ _ hR4,hcl,facts (s24.trans sZ) hsb,?_⟩
  have stp:(us.take (i+1)).filter (fun cl=>decide (un bs (evH H2) cl=[]))=(us.take i).filter (fun cl=>decide (un bs (evH H2) cl=[]))++(if un bs (evH H2) cl=[] then [cl] else []):=by
   rw [take_at eu,List.filter_append]
   congr 1
   by_cases h:un bs (evH H2) cl=[] <;> simp [h]
  repeat (walk_at "rd")
  split
  ·rename_i hv
   refine ⟨hZZ,small1000 (by lia),(hPc _ _ _ _).mpr ⟨ks++[c],by simp,same_put' sZ hZ,upd_same,?_⟩⟩
   rw [stp,if_pos hv]
   exact (cls_append catZ (cls_one hcl)).mono (tups_put hZZ)
  ·rename_i hv
   refine (hPc _ _ _ _).mpr ⟨ks,rfl,sZ,hZZ,?_⟩
   rw [stp,if_neg hv,List.append_nil]
   exact catZ
 obtain ⟨ks,rfl,s5,hS5,catS⟩:=(hPc _ _ _ _).mp pv
 rw [List.length_map,lcs,List.take_length] at catS
 have memv:∀cl,cl∈us.filter (fun cl=>decide (un bs (evH H2) cl=[]))↔(cl.map (·.1)).Sublist ts/\un bs (evH H2) cl=[]:=fun cl=>by rw [List.mem_filter,memu,decide_eq_true_eq]
 have ndv:(us.filter fun cl=>decide (un bs (evH H2) cl=[])).Nodup:=ndu.filter _
 have lvs:(us.filter fun cl=>decide (un bs (evH H2) cl=[])).length<=729:=Nat.le_trans (List.length_filter_le ..) lus
 generalize us.filter (fun cl=>decide (un bs (evH H2) cl=[]))=vs at catS memv ndv lvs
 clear hPc pv Pc
 have s15:=s14.trans s5
 have s25:=s24.trans s5
 have hR5:=s5 _ _ hR4
 have lks:=catS.1
 repeat (walk_at "rd")
 refine ⟨by decide,fun D hD=>?_⟩
 have s0:=same_new hD (.lst [])
 refine ⟨⟨_,sqL_of (s0 _ _ hS5)⟩,?_⟩
 obtain ⟨Pv,hPv⟩:∃Pv:Nat->St->Hp->Prop,∀i σ' H',Pv i σ' H'↔∃(x y z:Option V) (ds:List Addr) (ws:List Cl),σ'=[some (.ref p),some (.ref N),some (.ref R),some (.ref S),some (.ref D),x,y,z]/\Same H5 H'/\H' D=some (.lst (List.map V.ref ds))/\ClsAt H' ds ws/\ws.Pairwise (fun x y=>clLt x y=true)/\ws.length<=i/\∀z,z∈ws↔z∈vs.take i/\∀j,j < z.length->un bs (evH H2) (z.eraseIdx j)≠[]:=⟨_,fun _ _ _=>Iff.rfl⟩
 refine forAll_list (xs:=List.map V.ref ks) Pv ((hPv _ _ _).mpr ⟨none,none,none,[],[],rfl,s0,upd_same,⟨rfl,fun i b t e=>by simp at e⟩,.nil,Nat.le_refl _,fun z=>by simp⟩) (fun i σ' H1 _ pv=>?_) (fun i x σ' H6 hx pv=>?_) (fun σ' H6 pv=>?_)
 ·obtain ⟨_,_,_,_,_,_,s,_⟩:=(hPv _ _ _).mp pv
  exact s _ _ hS5
 ·obtain ⟨x0,y0,z0,ds,ws,rfl,s6,hD6,catD,srtD,lws,memw⟩:=(hPv _ _ _).mp pv
  obtain ⟨c,ec,rfl⟩:=ref_at hx
  have hi:i < ks.length:=(List.getElem?_eq_some_iff.mp ec).1
  have es:vs[i]? = some (vs[i]'(by lia)):=List.getElem?_eq_getElem (by lia)
  have hcl:=(catS.2 i c _ ec es).mono (tups_of s6)
  have hsb:=((memv _).mp (List.mem_of_getElem? es)).1
  have new:(vs[i]'(by lia))∉vs.take i:=fun hm=>by
   have:=ndv.sublist (List.take_sublist (i+1) vs)
   rw [take_at es,List.nodup_append] at this
   exact this.2.2 _ hm _ (by simp) rfl
  generalize vs[i]'(by lia)=cl at es hcl hsb new
  have lcl:cl.length<=6:=by
   have:=hsb.length_le
   rw [List.length_map] at this
   lia
  have tk:∀z,z∈vs.take (i+1)↔z∈vs.take i\/z=cl:=fun z=>by rw [take_at es,List.mem_append,List.mem_singleton]
  have hR6:=s6 _ _ hR5
  obtain ⟨qs,hC,lits⟩:=id hcl
  have lq:=lits.1
  repeat (first | walk_at "rd" | simp only [hC])
  refine ⟨by lia,by lia,?_⟩
  obtain ⟨Pe,hPe⟩:∃Pe:Addr->Nat->List V->Hp->Prop,∀Z k ys H',Pe Z k ys H'↔∃es:List Addr,ys=List.map V.ref es/\Same H6 H'/\H' Z=some (.lst ys)/\ClsAt H' es ((List.range k).map fun j=>cl.eraseIdx j):=⟨_,fun _ _ _ _=>Iff.rfl⟩
  refine compAll_rng Pe (fun Z hZ=>(hPe _ _ _ _).mpr ⟨[],rfl,same_new hZ _,upd_same,⟨rfl,fun i b t e=>by simp at e⟩⟩) (fun Z hZ n ys H' hn pe cb=>?_) (fun Z hZ ys H7 pe=>?_)
  ·obtain ⟨es',rfl,sZ,hZZ,catZ⟩:=(hPe _ _ _ _).mp pe
   have hn':n < qs.length:=by lia
   have hC1:=sZ _ _ hC
   have les:=catZ.1
   rw [List.length_map,List.length_range] at les
   walk_at "rc"
   repeat (first | walk_at "rd" | simp only [hC1])
   have ct:cutV (List.map V.ref qs) none (some (n:Int))=List.map V.ref (qs.take n):=by rw [cutV_to' _ (by lia),Int.toNat_natCast,List.map_take]
   have cd:cutV (List.map V.ref qs) (some ((n:Int)+1)) none=List.map V.ref (qs.drop (n+1)):=by rw [cutV_from' _ (by lia),show ((n:Int)+1).toNat=n+1 by lia,List.map_drop]
   have w1:¬(HT.sIx qs.length 0 none=0/\HT.sIx qs.length qs.length (some (n:Int))=qs.length):=fun z=>by
    have:=z.2
    rw [HT.sIx_nat] at this
    lia
   have w2:¬(HT.sIx (List.map V.ref qs).length 0 (some ((n:Int)+1))=0/\HT.sIx (List.map V.ref qs).length (List.map V.ref qs).length none=(List.map V.ref qs).length):=fun z=>by
    have:=z.1
    rw [show (n:Int)+1=((n+1:Nat):Int) by lia,HT.sIx_nat,List.length_map] at this
    lia
   refine ⟨w1,fun p1 hp1=>?_⟩
   rw [ct]
   have t1:=same_new hp1 (.tup (List.map V.ref (qs.take n)))
   have g1:upd H' p1 (.tup (List.map V.ref (qs.take n))) p1=some (.tup (List.map V.ref (qs.take n))):=upd_same
   generalize upd H' p1 (.tup (List.map V.ref (qs.take n)))=Ha at t1 g1 ⊢
   refine ⟨_,t1 _ _ hC1,w2,fun p2 hp2=>?_⟩
   rw [cd]
   have t2:=same_new hp2 (.tup (List.map V.ref (qs.drop (n+1))))
   generalize upd Ha p2 (.tup (List.map V.ref (qs.drop (n+1))))=Hb at t2 ⊢
   refine ⟨_,t2 _ _ g1,by rw [List.length_map,List.length_map,List.length_take,List.length_drop];exact Nat.le_of_lt (small1000 (by lia)),fun p3 Hc t3 _ hp3=>?_⟩
   have t13:=(t1.trans t2).trans t3
   have e':cl.take n++cl.drop (n+1)=cl.eraseIdx n:=(List.eraseIdx_eq_take_drop_succ ..).symm
   have hcl3:ClAt Hc (cl.eraseIdx n) p3:=by
    rw [<-e']
    exact ⟨qs.take n++qs.drop (n+1),by rw [hp3,List.map_append],(lits_append (lits_take lits n) (lits_drop lits (n+1))).mono (tups_of (sZ.trans t13))⟩
   have hZc:=t13 _ _ hZZ
   refine ⟨hZc,small1000 (by lia),(hPe _ _ _ _).mpr ⟨es'++[p3],by simp,same_put' (sZ.trans t13) hZ,upd_same,?_⟩⟩
   rw [List.range_succ,List.map_append]
   exact (cls_append (catZ.mono (tups_of t13)) (cls_one hcl3)).mono (tups_put hZc)
  obtain ⟨es',rfl,s7,hZ7,catZ⟩:=(hPe _ _ _ _).mp pe
  have les:=catZ.1
  rw [List.length_map,List.length_range] at les
  clear hPe pe Pe
  have hR7:=s7 _ _ hR6
  have le':es'.length=cl.length:=les.trans (by simp [lq])
  repeat (walk_at "rd")
  refine ⟨⟨_,sqL_of hZ7⟩,?_⟩
  obtain ⟨Pe,hPe⟩:∃Pe:Addr->Nat->List V->Hp->Prop,∀Y k ys H',Pe Y k ys H'↔∃bs':List Bool,ys=List.map V.bl bs'/\bs'.length=k/\(bs'.any id=true↔∃j,j < k/\un bs (evH H2) (cl.eraseIdx j)=[])/\Same H7 H'/\H' Y=some (.lst ys):=⟨_,fun _ _ _ _=>Iff.rfl⟩
  refine compAll_list (zs:=List.map V.ref es') Pe (fun Y hY=>(hPe _ _ _ _).mpr ⟨[],rfl,rfl,by simp,same_new hY _,upd_same⟩) (fun Y hY k ys H' _ pe=>?_) (fun Y hY k z ys H' hz pe cb=>?_) (fun Y hY ys H8 pe=>?_)
  ·obtain ⟨_,_,_,_,s,_⟩:=(hPe _ _ _ _).mp pe
   exact s _ _ hZ7
  ·obtain ⟨bs',rfl,lb',an,sY,hYY⟩:=(hPe _ _ _ _).mp pe
   obtain ⟨b0,eb,rfl⟩:=ref_at hz
   have hk:k < es'.length:=(List.getElem?_eq_some_iff.mp eb).1
   have hb0:=(catZ.2 k b0 (cl.eraseIdx k) eb (by rw [List.getElem?_map,List.getElem?_range (by lia)];rfl)).mono (tups_of sY)
   walk_at "rc"
   repeat (walk_at "rd")
   refine ⟨R,b0,rfl,bs,_,evH H2,sY _ _ hR7,hb0,facts (s25.trans (s6.trans (s7.trans sY))) ((List.Sublist.map _ (List.eraseIdx_sublist ..)).trans hsb),?_⟩
   refine ⟨hYY,small1000 (by lia),(hPe _ _ _ _).mpr ⟨bs'++[decide (un bs (evH H2) (List.eraseIdx cl k)=[])],by simp,by simp [lb'],?_,same_put' sY hY,upd_same⟩⟩
   rw [List.any_append,Bool.or_eq_true,an]
   simp only [List.any_cons,List.any_nil,Bool.or_false,id,decide_eq_true_eq]
   constructor
   ·rintro (⟨j,hj,h⟩ | h)
    ·exact ⟨j,by lia,h⟩
    ·exact ⟨k,Nat.lt_succ_self _,h⟩
   ·rintro ⟨j,hj,h⟩
    rcases Nat.lt_or_ge j k with z | z
    ·exact .inl ⟨j,z,h⟩
    ·have:j=k:=by lia
     rw [this] at h
     exact .inr h
  obtain ⟨bs',rfl,lb',an,s8,hY8⟩:=(hPe _ _ _ _).mp pe
  rw [List.length_map] at lb' an
  rw [le'] at an
  clear hPe pe Pe
  have s68:=s7.trans s8
  have hD8:=s68 _ _ hD6
  have catD8:=catD.mono (tups_of s68)
  have hcl8:=hcl.mono (tups_of s68)
  have s58:=s6.trans s68
  have lcd:=catD.1
  refine ⟨Y,rfl,bs',hY8,?_⟩
  by_cases hany:bs'.any id=true
  ·rw [hany,if_neg (by simp)]
   refine (hPv _ _ _).mpr ⟨_,_,_,ds,ws,rfl,s58,hD8,catD8,srtD,by lia,fun z=>?_⟩
   rw [memw,tk]
   refine ⟨fun h=>⟨.inl h.1,h.2⟩,fun h=>⟨h.1.elim id fun e=>?_,h.2⟩⟩
   obtain ⟨j,hj,e2⟩:=an.mp hany
   rw [e] at h
   exact absurd e2 (h.2 j hj)
  ·rw [Bool.eq_false_iff.mpr hany,if_pos (by simp)]
   have good:∀j,j < cl.length->un bs (evH H2) (cl.eraseIdx j)≠[]:=fun j hj z=>hany (an.mpr ⟨j,hj,z⟩)
   have ne:∀y∈ws,y≠cl:=fun y hy e=>new (by rw [<-e];exact ((memw y).mp hy).1)
   simp only [hD8]
   repeat (first | walk_at "rd" | simp only [hD8])
   obtain ⟨W,hW⟩:∃W:Nat->St->Hp->Prop,∀m σ' H',W m σ' H'↔σ'=[some (.ref p),some (.ref N),some (.ref R),some (.ref S),some (.ref D),some (.ref c),some (.ref Z),some (.int (m:Int))]/\H'=H8/\m<=ws.length/\∀y∈ws.drop m,clLt cl y=true:=⟨_,fun _ _ _=>Iff.rfl⟩
   have ins:∀m:Nat,m<=ws.length->(∀y∈ws.drop m,clLt cl y=true)->(∀y∈ws.take m,clLt y cl=true)->Pv (i+1) [some (.ref p),some (.ref N),some (.ref R),some (.ref S),some (.ref D),some (.ref c),some (.ref Z),some (.int (m:Int))] (upd H8 D (.lst (List.take m (List.map V.ref ds)++V.ref c::List.drop m (List.map V.ref ds)))):=fun m hm hgt hlt=>by
    refine (hPv _ _ _).mpr ⟨_,_,_,ds.take m++c::ds.drop m,ws.take m++cl::ws.drop m,rfl,same_put' s58 hD,?_,(cls_insert catD8 hcl8 hm).mono (tups_put hD8),pw_insert srtD hlt hgt,?_,fun z=>?_⟩
    ·rw [upd_same,List.map_append,List.map_cons,List.map_take,List.map_drop]
    ·rw [List.length_append,List.length_cons,List.length_take,List.length_drop];lia
    ·rw [ins_mem,tk,memw]
     exact ⟨fun h=>h.elim (fun h=>⟨.inl h.1,h.2⟩) fun e=>⟨.inr e,by rw [e];exact good⟩,fun h=>h.1.elim (fun z=>.inl ⟨z,h.2⟩) .inr⟩
   refine ⟨W,⟨ds.length,(hW _ _ _).mpr ⟨rfl,rfl,by lia,fun y hy=>?_⟩⟩,fun m σ' H9 hw=>?_⟩
   ·rw [lcd,List.drop_length] at hy
    cases hy
   obtain ⟨rfl,rfl,hm,hgt⟩:=(hW _ _ _).mp hw
   cases m with
   | zero=>
    repeat (walk_at "rd")
    rw [if_neg (by simp)]
    refine ⟨.inl ⟨rfl,_,sqL_of hD8⟩,_,hD8,by simp,by simp,by rw [List.length_map];lia,?_⟩
    exact ins 0 (Nat.zero_le _) hgt (fun y hy=>by cases hy)
   | succ n=>
    have hn:n < ws.length:=by lia
    have e1:ds[n]? = some (ds[n]'(by lia)):=List.getElem?_eq_getElem (by lia)
    have e2:ws[n]? = some ws[n]:=List.getElem?_eq_getElem hn
    have cu:=catD8.2 n _ _ e1 e2
    have an':atI (List.map V.ref ds) (((n+1:Nat):Int) - 1)=some (.ref (ds[n]'(by lia))):=by
     rw [show (((n+1:Nat):Int) - 1)=(n:Int) by lia]
     exact atI_nat (by rw [List.getElem?_map,e1];rfl)
    repeat (first | walk_at "rd" | simp only [hD8,an'])
    rw [if_pos (by lia)]
    refine ⟨c,_,rfl,cl,_,hcl8,cu,by lia,_,rfl,?_⟩
    by_cases hlt:clLt cl ws[n]=true
    ·rw [if_pos hlt]
     refine ⟨W n,fun σ' H' hw'=>⟨n,Nat.lt_succ_self _,hw'⟩,?_⟩
     repeat (first | walk_at "rd" | simp only [tAug])
     refine (hW _ _ _).mpr ⟨by simp,rfl,by lia,fun y hy=>?_⟩
     rw [List.drop_eq_getElem_cons hn] at hy
     rcases List.mem_cons.mp hy with rfl | hy
     ·exact hlt
     ·exact hgt y hy
    ·rw [if_neg hlt]
     refine ⟨.inl ⟨rfl,_,sqL_of hD8⟩,_,hD8,by lia,by rw [List.length_map];lia,by rw [List.length_map];lia,?_⟩
     have hl:clLt ws[n] cl=true:=(clLt_tri (ne _ (List.getElem_mem hn))).elim id fun z=>absurd z hlt
     refine ins (n+1) (by lia) hgt fun y hy=>?_
     rw [List.take_add_one,e2] at hy
     rcases List.mem_append.mp hy with hy | hy
     ·obtain ⟨j,hj,rfl⟩:=List.mem_iff_getElem.mp hy
      rw [List.length_take] at hj
      rw [List.getElem_take]
      exact clLt_tr (List.pairwise_iff_getElem.mp srtD j n (by lia) hn (by lia)) hl
     ·rw [show y=ws[n] by simpa using hy];exact hl
 ·obtain ⟨x0,y0,z0,ds,ws,rfl,s6,hD6,catD,srtD,lws,memw⟩:=(hPv _ _ _).mp pv
  rw [List.length_map,lks] at lws memw
  rw [List.take_length] at memw
  repeat (walk_at "rd")
  exact q D ds ws H6 (s15.trans s6) (s15.free hD) hD6 catD srtD (by lia) fun cl=>by rw [memw,memv,key]
end
local macro_rules | `(tactic| walk_at "rd") => `(tactic| walk_at "rc")
local macro_rules | `(tactic| walk_at "rl") => `(tactic| first | (refine seq_op fun R hR => ?_) | walk_at "ry" | (refine Nx.to (by assumption) _ _ ?_))
def spLaw (K:PySem.W.Frag):Sp:=fun vs H Q _=>∃(a:Addr) (ns:List Int),vs=[.ref a]/\SqL K H a (List.map V.int ns)/\ns.length<=63/\∀H',Q (.bl true) H'
theorem sorted_same {us vs:List Cl} (a:us.Pairwise fun x y=>clLt x y=true) (b:vs.Pairwise fun x y=>clLt x y=true) (m:∀x,x∈us↔x∈vs):us=vs:=by
 have nd:∀{l:List Cl},l.Pairwise (fun x y=>clLt x y=true)->l.Nodup:=fun h=>h.imp fun {x y} h1 h2=>by rw [h2,clLt_irr] at h1;cases h1
 exact List.Perm.eq_of_pairwise (le:=fun x y:Cl=>clLt x y=true) (fun x y _ _ h h'=>absurd (clLt_tr h h') (by rw [clLt_irr];simp)) a b (perm_all (nd a) (nd b) m)
theorem short_nil {r:Rl} {cl:Cl} (h:Short r cl) (hn:r.names=[]):cl=[]:=by
 cases cl with
 | nil=>rfl
 | cons x l=>have:=h.sub x List.mem_cons_self;rw [hn] at this;cases this
theorem short_yes {us:List Cl} (m:∀cl,cl∈us↔Short .yes cl):us=[]:=by
 cases us with
 | nil=>rfl
 | cons x l=>
  have h:=(m x).mp List.mem_cons_self
  have e:=short_nil h rfl
  obtain ⟨y,hy,_⟩:=h.fol (fun _=>true) rfl
  rw [e] at hy
  cases hy
theorem short_no {us:List Cl} (srt:us.Pairwise fun x y=>clLt x y=true) (m:∀cl,cl∈us↔Short .no cl):us=[[]]:=by
 refine sorted_same srt (List.pairwise_singleton ..) fun x=>?_
 rw [m,List.mem_singleton]
 refine ⟨fun h=>short_nil h rfl,fun e=>?_⟩
 rw [e]
 exact ⟨.nil,(fun _ z=>nomatch z),(fun _ z=>nomatch z),fun i hi=>absurd hi (Nat.not_lt_zero _)⟩
section
variable {P:Program} {w:World} {K:PySem.W.Frag} {mg:Str->Option Value} {base:Heap} {t:Adr}
theorem ok_law (T:Txt K mg t):FnOk P w K mg base CX0 11 t.a_law t.d_law ["_law_script"] (spLaw K):=by
 have G__law_draw:=ok_draw (P:=P) (w:=w) (base:=base) T
 have G__law_hand:=ok_hand (P:=P) (w:=w) (base:=base) T
 have G__law_names:=ok_names (P:=P) (w:=w) (base:=base) T
 have G__law_rule:=ok_rule (P:=P) (w:=w) (base:=base) T 6
 have G__law_shortest:=ok_lshort (P:=P) (w:=w) (base:=base) T
 have G_shortest_of:=ok_short (P:=P) (w:=w) (base:=base) T
 have G__law_is_clause:=ok_isc (P:=P) (w:=w) (base:=base) T
 refine T.F_law.okZ sc_law (fun vs H Q E h=>?_) (fun cdv A outer s H vs Q E hr h hc hf=>?_)
 ·obtain ⟨a,ns,rfl,_⟩:=h;rfl
 obtain ⟨a,ns,rfl,hS,h63,q⟩:=h
 have hu:=hu_of hr
 have hu0:=hr.units0
 refine ⟨_,(by apply zqss_cons;exact (zpsk_set hc sc_law.nd hf 1 (by decide +kernel) (zpe_call G__law_hand (hr.mono (by omega)) (glk hc (by decide +kernel)) T.m__law_hand T.F__law_hand.kp T.b__law_hand .nil pass0 (zpa_cons (zpvk hc 0 (by decide +kernel)) zpa_nil)));apply zqss_cons;exact (zpsk_set hc sc_law.nd hf 2 (by decide +kernel) (zpe_call G__law_names (hr.mono (by omega)) (glk hc (by decide +kernel)) T.m__law_names T.F__law_names.kp T.b__law_names .nil pass0 (zpa_cons (zpvk hc 1 (by decide +kernel)) (zpa_cons (zpe_call G__law_draw (hr.mono (by omega)) (glk hc (by decide +kernel)) T.m__law_draw T.F__law_draw.kp T.b__law_draw .nil pass0 (zpa_cons (zpvk hc 1 (by decide +kernel)) (zpa_cons zpe_int zpa_nil))) zpa_nil))));apply zqss_cons;exact (zpsk_set hc sc_law.nd hf 3 (by decide +kernel) (zpe_call G__law_rule (hr.mono (by omega)) (glk hc (by decide +kernel)) T.m__law_rule T.F__law_rule.kp T.b__law_rule .nil pass0 (zpa_cons (zpvk hc 1 (by decide +kernel)) (zpa_cons (zpvk hc 2 (by decide +kernel)) (zpa_cons (zpe_op op_add zpe_int (zpe_call G__law_draw (hr.mono (by omega)) (glk hc (by decide +kernel)) T.m__law_draw T.F__law_draw.kp T.b__law_draw .nil pass0 (zpa_cons (zpvk hc 1 (by decide +kernel)) (zpa_cons zpe_int zpa_nil)))) zpa_nil)))));apply zqss_cons;exact (zpsk_set hc sc_law.nd hf 4 (by decide +kernel) (zpe_call G__law_shortest (hr.mono (by omega)) (glk hc (by decide +kernel)) T.m__law_shortest T.F__law_shortest.kp T.b__law_shortest .nil pass0 (zpa_cons (zpvk hc 3 (by decide +kernel)) zpa_nil)));apply zqss_cons;exact (zqs_for PassesOwn.never rfl (zpi_range1 (glk hc (by decide +kernel)) T.z_range (zpa_cons zpe_int zpa_nil)) (zpgk hc sc_law.nd hf 5 (by decide +kernel)) (by apply zqss_cons;exact (zpsk_set hc sc_law.nd hf 6 (by decide +kernel) (zpe_call G_shortest_of (hr.mono (by omega)) (glk hc (by decide +kernel)) T.m_shortest_of T.F_shortest_of.kp T.b_shortest_of .nil pass0 (zpa_cons (zpvk hc 3 (by decide +kernel)) zpa_nil)));apply zqss_cons;exact (zqs_if (zPWpt (zpw_or (zpt_not (zpt_val (zpe_callB call_isiT (glk hc (by decide +kernel)) T.z_isinstance b_isinstance (zpa_cons (zpvk hc 6 (by decide +kernel)) (zpa_cons (zpe_bltn (v:=V.ty "list") (glk hc (by decide +kernel)) T.z_list b_list rfl) zpa_nil))))) (zpw_or (zpt_not (zpt_val (zpe_callB (call_allB hr.hd) (glk hc (by decide +kernel)) T.z_all b_all (zpa_cons (zpek_comp hc ["_law_one"] [] rfl (by decide +kernel) (zpi_list (zpvk hc 6 (by decide +kernel))) (fun _ hc=>zpgb hc (by decide +kernel) 0 (by decide +kernel)) (fun _ _=>zpifs_nil) (fun _ hc=>(zpe_call G__law_is_clause (hr.mono (by omega)) (glk hc (by decide +kernel)) T.m__law_is_clause T.F__law_is_clause.kp T.b__law_is_clause .nil pass0 (zpa_cons (zpvk hc 0 (by decide +kernel)) zpa_nil)))) zpa_nil)))) (zpw_or1 (zpt_cmpR (op_neLC hr.units) (zpvk hc 6 (by decide +kernel)) (zpvk hc 4 (by decide +kernel)) (nomark _)))))) (by exact zqss_one (zps_ret zpe_bl)) zqss_nil);exact zqss_one (zps_expr (zpe_bm0 PySem.F.plainAttrs_list PySem.F.slot_list_clear PySem.F.type_list_clear mt_clear (zpvk hc 6 (by decide +kernel)) ))));exact zqss_one (zps_ret (zpe_and (zpe_cmpR (op_eqLC hr.units) (zpe_call G_shortest_of (hr.mono (by omega)) (glk hc (by decide +kernel)) T.m_shortest_of T.F_shortest_of.kp T.b_shortest_of .nil pass0 (zpa_cons (zpe_tup (zpa_cons zpe_str zpa_nil)) zpa_nil)) (zpe_lst zpa_nil) (nomark _)) (zpe_one (zpe_cmpR (op_eqLC hr.units) (zpe_call G_shortest_of (hr.mono (by omega)) (glk hc (by decide +kernel)) T.m_shortest_of T.F_shortest_of.kp T.b_shortest_of .nil pass0 (zpa_cons (zpe_tup (zpa_cons zpe_str zpa_nil)) zpa_nil)) (zpe_lst (zpa_cons (zpe_tup zpa_nil) zpa_nil)) (nomark _)))))),?_⟩
 repeat (walk_at "rd")
 refine ⟨a,ns,rfl,hS,fun h H1 s1 hh hd=>?_⟩
 repeat (walk_at "rd")
 refine draw_by hd Dr.refl (by decide) (by decide) fun m H2 m0 m7 d2 k2=>?_
 repeat (walk_at "rd")
 refine ⟨h,_,rfl,by lia,by lia,d2.handAt hd,fun N ss H3 d3 hN hN3 ls nd nm=>?_⟩
 have d13:=d2.trans d3
 have hd3:=d13.handAt hd
 have l5:ss.length<=5:=by lia
 clear d2 k2 d3 d13 hN hh
 repeat (walk_at "rd")
 refine draw_by hd3 Dr.refl (by decide) (by decide) fun dp H4 dp0 dp6 d4 e4=>?_
 have hd4:=d4.handAt hd3
 have hN4:H4 N=some (.lst (List.map V.str ss)):=by rw [e4 N (hd3.nstr hN3)];exact hN3
 repeat (walk_at "rd")
 refine ⟨h,N,_,rfl,by lia,by lia,ss,hd4,hN4,by lia,fun p r H5 d5 ra dr sub=>?_⟩
 have few:Few r:=⟨ss,by lia,sub⟩
 refine ⟨p,rfl,r,ra,by lia,few,fun O os ds H6 s6 hO hO6 catO srtO lds memO=>?_⟩
 have ra6:=ra.mono (tups_of s6)
 repeat (walk_at "rd")
 obtain ⟨Pv,hPv⟩:∃Pv:Nat->St->Hp->Prop,∀i σ' H',Pv i σ' H'↔∃(x y:Option V),σ'=[some (.ref a),some (.ref h),some (.ref N),some (.ref p),some (.ref O),x,y]/\Same H6 H':=⟨_,fun _ _ _=>Iff.rfl⟩
 refine forAll_rng Pv ((hPv _ _ _).mpr ⟨none,none,rfl,fun _ _ z=>z⟩) (fun i σ' H7 hi pv=>?_) (fun σ' H7 pv=>?_)
 ·obtain ⟨x,y,rfl,s7⟩:=(hPv _ _ _).mp pv
  repeat (walk_at "rd")
  refine ⟨p,rfl,r,ra6.mono (tups_of s7),by lia,few,fun D cs us H8 s8 hD hD8 cat srtU lus memU=>?_⟩
  have eu:us=ds:=sorted_same srtU srtO fun x=>(memU x).trans (memO x).symm
  subst eu
  have s68:=s7.trans s8
  have lcs:=cat.1
  refine ⟨_,.lst hD8,true,kit_same _ _,?_⟩
  rw [if_neg (by simp)]
  refine ⟨D,rfl,⟨_,sqL_of hD8⟩,?_⟩
  obtain ⟨Pc,hPc⟩:∃Pc:Addr->Nat->List V->Hp->Prop,∀Z i ys H',Pc Z i ys H'↔∃bs:List Bool,ys=List.map V.bl bs/\bs.length=i/\bs.all id=true/\Same H8 H'/\H' Z=some (.lst ys):=⟨_,fun _ _ _ _=>Iff.rfl⟩
  refine compAll_list (zs:=List.map V.ref cs) Pc (fun Z hZ=>(hPc _ _ _ _).mpr ⟨[],rfl,rfl,rfl,same_new hZ _,upd_same⟩) (fun Z hZ j ys H' _ pc=>?_) (fun Z hZ j z ys H' hz pc cb=>?_) (fun Z hZ ys H' pc=>?_)
  ·obtain ⟨_,_,_,_,s,_⟩:=(hPc _ _ _ _).mp pc
   exact s _ _ hD8
  ·obtain ⟨bs,rfl,hbl,al,sZ,hZZ⟩:=(hPc _ _ _ _).mp pc
   obtain ⟨b0,eb,rfl⟩:=ref_at hz
   have hj:j < cs.length:=(List.getElem?_eq_some_iff.mp eb).1
   have eu:us[j]? = some (us[j]'(by lia)):=List.getElem?_eq_getElem (by lia)
   have hcl:=(cat.2 j _ _ eb eu).mono (tups_of sZ)
   have hsh:=(memU _).mp (List.mem_of_getElem? eu)
   generalize us[j]'(by lia)=cl at eu hcl hsh
   have lcl:cl.length<=5:=by
    have:=len_sub (inc_nodup hsh.inc) fun x hx=>by
     obtain ⟨y,hy,rfl⟩:=List.mem_map.mp hx
     exact sub _ (hsh.sub y hy)
    rw [List.length_map] at this
    lia
   walk_at "rc"
   repeat (walk_at "rd")
   refine ⟨b0,rfl,cl,⟨hcl,hsh.inc,by lia⟩,fun H'' s''=>?_⟩
   exact ⟨s'' _ _ hZZ,small1000 (by lia),(hPc _ _ _ _).mpr ⟨bs++[true],by simp,by simp [hbl],by rw [List.all_append,al];rfl,same_put' (sZ.trans s'') hZ,upd_same⟩⟩
  ·obtain ⟨bs,rfl,hbl,al,sZ,hZZ⟩:=(hPc _ _ _ _).mp pc
   refine ⟨Z,rfl,bs,hZZ,?_⟩
   rw [al,if_neg (by simp)]
   have s6Z:=s68.trans sZ
   have hDZ:=sZ _ _ hD8
   have hD6:H6 D=none:=s7.free hD
   refine ⟨D,rfl,cs,hDZ,os,s6Z _ _ hO6,us,cat.mono (tups_of sZ),us,catO.mono (tups_of s6Z),?_⟩
   rw [if_neg (by simp)]
   refine ⟨.inl ⟨rfl,_,sqL_of hDZ⟩,D,rfl,_,hDZ,?_⟩
   exact (hPv _ _ _).mpr ⟨_,_,rfl,same_put' s6Z hD6⟩
 ·obtain ⟨x,y,rfl,s7⟩:=(hPv _ _ _).mp pv
  repeat (walk_at "rd")
  refine ⟨by decide,fun y1 hy1=>?_⟩
  refine ⟨y1,rfl,.yes,upd_same,by decide,⟨[],by decide,fun _ z=>nomatch z⟩,fun D cs us H8 s8 hD hD8 cat srtU lus memU=>?_⟩
  have eu:=short_yes memU
  subst eu
  refine ⟨by decide,fun e1 he1=>?_⟩
  have s9:=same_new he1 (.lst [])
  refine ⟨D,rfl,cs,s9 _ _ hD8,[],rfl,[],cat.mono (tups_of s9),[],⟨rfl,fun i b t e=>by simp at e⟩,?_⟩
  rw [if_pos rfl]
  refine ⟨by decide,fun y2 hy2=>?_⟩
  refine ⟨y2,rfl,.no,upd_same,by decide,⟨[],by decide,fun _ z=>nomatch z⟩,fun D cs us H8 s8 hD hD8 cat srtU lus memU=>?_⟩
  have eu:=short_no srtU memU
  subst eu
  refine ⟨by decide,fun e2 he2=>⟨by decide,fun e3 he3=>?_⟩⟩
  have t1:=same_new he2 (.tup [])
  have g1:ClAt (upd H8 e2 (.tup [])) [] e2:=⟨[],upd_same,Lits.nil⟩
  generalize upd H8 e2 (.tup [])=H9 at t1 g1 he3 ⊢
  have t2:=same_new he3 (.lst [V.ref e2])
  refine ⟨D,rfl,cs,t2 _ _ (t1 _ _ hD8),[e2],rfl,[[]],cat.mono (tups_of (t1.trans t2)),[[]],cls_one (g1.mono (tups_of t2)),?_⟩
  exact q _
end
local macro_rules | `(tactic| walk_at "rd") => `(tactic| walk_at "rc")
local macro_rules | `(tactic| walk_at "rl") => `(tactic| first | (refine seq_op fun R hR => ?_) | walk_at "ry" | (refine Nx.to (by assumption) _ _ ?_))
theorem all_mk {l:PySem.W.OpenLaw} {w:World} {K:PySem.W.Frag} {h:Heap} {mg:Str->Option Value} {fa f0 f1 f2 f3 f4 f5 f6 f7 f8 f9 f10 f11 f12 f13 f14 f15 f16 f17 f18 f19 f20 f21 f22 f23 f24 f25 f26 f27 f28:Addr} (X:K.In h) (G:h.Ns mainGlobals mg) (hfa:mg "law" = some (.ref fa))
  {od0 an0 od1 an1 od2 an2 od3 an3 od4 an4 od5 an5 od6 an6 od7 an7 od8 an8 od9 an9 od10 an10 od11 an11 od12 an12 od13 an13 od14 an14 od15 an15 od16 an16 od17 an17 od18 an18 od19 an19 od20 an20 od21 an21 od22 an22 od23 an23 od24 an24 od25 an25 od26 an26 od27 an27 od28 an28:Option Addr} {sl0 sl1 sl2 sl3 sl4 sl5 sl6 sl7 sl8 sl9 sl10 sl11 sl12 sl13 sl14 sl15 sl16 sl17 sl18 sl19 sl20 sl21 sl22 sl23 sl24 sl25 sl26 sl27 sl28:Array (Option Value)} {oc0 kV0 dc0 pm0 cd0 ct0 oc1 kV1 dc1 pm1 cd1 ct1 oc2 kV2 dc2 pm2 cd2 ct2 oc3 kV3 dc3 pm3 cd3 ct3 oc4 kV4 dc4 pm4 cd4 ct4 oc5 kV5 dc5 pm5 cd5 ct5 oc6 kV6 dc6 pm6 cd6 ct6 oc7 kV7 dc7 pm7 cd7 ct7 oc8 kV8 dc8 pm8 cd8 ct8 oc9 kV9 dc9 pm9 cd9 ct9 oc10 kV10 dc10 pm10 cd10 ct10 oc11 kV11 dc11 pm11 cd11 ct11 oc12 kV12 dc12 pm12 cd12 ct12 oc13 kV13 dc13 pm13 cd13 ct13 oc14 kV14 dc14 pm14 cd14 ct14 oc15 kV15 dc15 pm15 cd15 ct15 oc16 kV16 dc16 pm16 cd16 ct16 oc17 kV17 dc17 pm17 cd17 ct17 oc18 kV18 dc18 pm18 cd18 ct18 oc19 kV19 dc19 pm19 cd19 ct19 oc20 kV20 dc20 pm20 cd20 ct20 oc21 kV21 dc21 pm21 cd21 ct21 oc22 kV22 dc22 pm22 cd22 ct22 oc23 kV23 dc23 pm23 cd23 ct23 oc24 kV24 dc24 pm24 cd24 ct24 oc25 kV25 dc25 pm25 cd25 ct25 oc26 kV26 dc26 pm26 cd26 ct26 oc27 kV27 dc27 pm27 cd27 ct27 oc28 kV28 dc28 pm28 cd28 ct28:Value}
  (a0:PySem.W.nsIn K mainGlobals "names_of" = some (some (.ref f0))) (l0:K.lookup f0=some ⟨oc0,od0,.func (PySem.W.fnOf "names_of" "names_of" (defArgs s_names_of) (defBody s_names_of) (defScope s_names_of) .none kV0 dc0 pm0 an0 cd0 ct0),sl0⟩) (c0:PySem.W.codeIn K cd0 "names_of" = true) (k0:PySem.W.keepIn K (.ref f0)=true)
  (a1:PySem.W.nsIn K mainGlobals "names_within" = some (some (.ref f1))) (l1:K.lookup f1=some ⟨oc1,od1,.func (PySem.W.fnOf "names_within" "names_within" (defArgs s_names_within) (defBody s_names_within) (defScope s_names_within) .none kV1 dc1 pm1 an1 cd1 ct1),sl1⟩) (c1:PySem.W.codeIn K cd1 "names_within" = true) (k1:PySem.W.keepIn K (.ref f1)=true)
  (a2:PySem.W.nsIn K mainGlobals "each_once_in_order" = some (some (.ref f2))) (l2:K.lookup f2=some ⟨oc2,od2,.func (PySem.W.fnOf "each_once_in_order" "each_once_in_order" (defArgs s_each_once_in_order) (defBody s_each_once_in_order) (defScope s_each_once_in_order) .none kV2 dc2 pm2 an2 cd2 ct2),sl2⟩) (c2:PySem.W.codeIn K cd2 "each_once_in_order" = true) (k2:PySem.W.keepIn K (.ref f2)=true)
  (a3:PySem.W.nsIn K mainGlobals "order_of" = some (some (.ref f3))) (l3:K.lookup f3=some ⟨oc3,od3,.func (PySem.W.fnOf "order_of" "order_of" (defArgs s_order_of) (defBody s_order_of) (defScope s_order_of) .none kV3 dc3 pm3 an3 cd3 ct3),sl3⟩) (c3:PySem.W.codeIn K cd3 "order_of" = true) (k3:PySem.W.keepIn K (.ref f3)=true)
  (a4:PySem.W.nsIn K mainGlobals "clauses_in_order" = some (some (.ref f4))) (l4:K.lookup f4=some ⟨oc4,od4,.func (PySem.W.fnOf "clauses_in_order" "clauses_in_order" (defArgs s_clauses_in_order) (defBody s_clauses_in_order) (defScope s_clauses_in_order) .none kV4 dc4 pm4 an4 cd4 ct4),sl4⟩) (c4:PySem.W.codeIn K cd4 "clauses_in_order" = true) (k4:PySem.W.keepIn K (.ref f4)=true)
  (a5:PySem.W.nsIn K mainGlobals "truth_of" = some (some (.ref f5))) (l5:K.lookup f5=some ⟨oc5,od5,.func (PySem.W.fnOf "truth_of" "truth_of" (defArgs s_truth_of) (defBody s_truth_of) (defScope s_truth_of) .none kV5 dc5 pm5 an5 cd5 ct5),sl5⟩) (c5:PySem.W.codeIn K cd5 "truth_of" = true) (k5:PySem.W.keepIn K (.ref f5)=true)
  (a6:PySem.W.nsIn K mainGlobals "truth_of_two" = some (some (.ref f6))) (l6:K.lookup f6=some ⟨oc6,od6,.func (PySem.W.fnOf "truth_of_two" "truth_of_two" (defArgs s_truth_of_two) (defBody s_truth_of_two) (defScope s_truth_of_two) .none kV6 dc6 pm6 an6 cd6 ct6),sl6⟩) (c6:PySem.W.codeIn K cd6 "truth_of_two" = true) (k6:PySem.W.keepIn K (.ref f6)=true)
  (a7:PySem.W.nsIn K mainGlobals "all_facts" = some (some (.ref f7))) (l7:K.lookup f7=some ⟨oc7,od7,.func (PySem.W.fnOf "all_facts" "all_facts" (defArgs s_all_facts) (defBody s_all_facts) (defScope s_all_facts) .none kV7 dc7 pm7 an7 cd7 ct7),sl7⟩) (c7:PySem.W.codeIn K cd7 "all_facts" = true) (k7:PySem.W.keepIn K (.ref f7)=true)
  (a8:PySem.W.nsIn K mainGlobals "with_fact" = some (some (.ref f8))) (l8:K.lookup f8=some ⟨oc8,od8,.func (PySem.W.fnOf "with_fact" "with_fact" (defArgs s_with_fact) (defBody s_with_fact) (defScope s_with_fact) .none kV8 dc8 pm8 an8 cd8 ct8),sl8⟩) (c8:PySem.W.codeIn K cd8 "with_fact" = true) (k8:PySem.W.keepIn K (.ref f8)=true)
  (a9:PySem.W.nsIn K mainGlobals "facts_for" = some (some (.ref f9))) (l9:K.lookup f9=some ⟨oc9,od9,.func (PySem.W.fnOf "facts_for" "facts_for" (defArgs s_facts_for) (defBody s_facts_for) (defScope s_facts_for) .none kV9 dc9 pm9 an9 cd9 ct9),sl9⟩) (c9:PySem.W.codeIn K cd9 "facts_for" = true) (k9:PySem.W.keepIn K (.ref f9)=true)
  (a10:PySem.W.nsIn K mainGlobals "shortest_of" = some (some (.ref f10))) (l10:K.lookup f10=some ⟨oc10,od10,.func (PySem.W.fnOf "shortest_of" "shortest_of" (defArgs s_shortest_of) (defBody s_shortest_of) (defScope s_shortest_of) .none kV10 dc10 pm10 an10 cd10 ct10),sl10⟩) (c10:PySem.W.codeIn K cd10 "shortest_of" = true) (k10:PySem.W.keepIn K (.ref f10)=true)
  (a11:PySem.W.nsIn K mainGlobals "following_over" = some (some (.ref f11))) (l11:K.lookup f11=some ⟨oc11,od11,.func (PySem.W.fnOf "following_over" "following_over" (defArgs s_following_over) (defBody s_following_over) (defScope s_following_over) .none kV11 dc11 pm11 an11 cd11 ct11),sl11⟩) (c11:PySem.W.codeIn K cd11 "following_over" = true) (k11:PySem.W.keepIn K (.ref f11)=true)
  (a12:PySem.W.nsIn K mainGlobals "has_shorter" = some (some (.ref f12))) (l12:K.lookup f12=some ⟨oc12,od12,.func (PySem.W.fnOf "has_shorter" "has_shorter" (defArgs s_has_shorter) (defBody s_has_shorter) (defScope s_has_shorter) .none kV12 dc12 pm12 an12 cd12 ct12),sl12⟩) (c12:PySem.W.codeIn K cd12 "has_shorter" = true) (k12:PySem.W.keepIn K (.ref f12)=true)
  (a13:PySem.W.nsIn K mainGlobals "_law_hand" = some (some (.ref f13))) (l13:K.lookup f13=some ⟨oc13,od13,.func (PySem.W.fnOf "_law_hand" "_law_hand" (defArgs s__law_hand) (defBody s__law_hand) (defScope s__law_hand) .none kV13 dc13 pm13 an13 cd13 ct13),sl13⟩) (c13:PySem.W.codeIn K cd13 "_law_hand" = true) (k13:PySem.W.keepIn K (.ref f13)=true)
  (a14:PySem.W.nsIn K mainGlobals "_law_next" = some (some (.ref f14))) (l14:K.lookup f14=some ⟨oc14,od14,.func (PySem.W.fnOf "_law_next" "_law_next" (defArgs s__law_next) (defBody s__law_next) (defScope s__law_next) .none kV14 dc14 pm14 an14 cd14 ct14),sl14⟩) (c14:PySem.W.codeIn K cd14 "_law_next" = true) (k14:PySem.W.keepIn K (.ref f14)=true)
  (a15:PySem.W.nsIn K mainGlobals "_law_take" = some (some (.ref f15))) (l15:K.lookup f15=some ⟨oc15,od15,.func (PySem.W.fnOf "_law_take" "_law_take" (defArgs s__law_take) (defBody s__law_take) (defScope s__law_take) .none kV15 dc15 pm15 an15 cd15 ct15),sl15⟩) (c15:PySem.W.codeIn K cd15 "_law_take" = true) (k15:PySem.W.keepIn K (.ref f15)=true)
  (a16:PySem.W.nsIn K mainGlobals "_law_draw" = some (some (.ref f16))) (l16:K.lookup f16=some ⟨oc16,od16,.func (PySem.W.fnOf "_law_draw" "_law_draw" (defArgs s__law_draw) (defBody s__law_draw) (defScope s__law_draw) .none kV16 dc16 pm16 an16 cd16 ct16),sl16⟩) (c16:PySem.W.codeIn K cd16 "_law_draw" = true) (k16:PySem.W.keepIn K (.ref f16)=true)
  (a17:PySem.W.nsIn K mainGlobals "_law_names" = some (some (.ref f17))) (l17:K.lookup f17=some ⟨oc17,od17,.func (PySem.W.fnOf "_law_names" "_law_names" (defArgs s__law_names) (defBody s__law_names) (defScope s__law_names) .none kV17 dc17 pm17 an17 cd17 ct17),sl17⟩) (c17:PySem.W.codeIn K cd17 "_law_names" = true) (k17:PySem.W.keepIn K (.ref f17)=true)
  (a18:PySem.W.nsIn K mainGlobals "_law_rule" = some (some (.ref f18))) (l18:K.lookup f18=some ⟨oc18,od18,.func (PySem.W.fnOf "_law_rule" "_law_rule" (defArgs s__law_rule) (defBody s__law_rule) (defScope s__law_rule) .none kV18 dc18 pm18 an18 cd18 ct18),sl18⟩) (c18:PySem.W.codeIn K cd18 "_law_rule" = true) (k18:PySem.W.keepIn K (.ref f18)=true)
  (a19:PySem.W.nsIn K mainGlobals "_law_holds" = some (some (.ref f19))) (l19:K.lookup f19=some ⟨oc19,od19,.func (PySem.W.fnOf "_law_holds" "_law_holds" (defArgs s__law_holds) (defBody s__law_holds) (defScope s__law_holds) .none kV19 dc19 pm19 an19 cd19 ct19),sl19⟩) (c19:PySem.W.codeIn K cd19 "_law_holds" = true) (k19:PySem.W.keepIn K (.ref f19)=true)
  (a20:PySem.W.nsIn K mainGlobals "_law_names_of" = some (some (.ref f20))) (l20:K.lookup f20=some ⟨oc20,od20,.func (PySem.W.fnOf "_law_names_of" "_law_names_of" (defArgs s__law_names_of) (defBody s__law_names_of) (defScope s__law_names_of) .none kV20 dc20 pm20 an20 cd20 ct20),sl20⟩) (c20:PySem.W.codeIn K cd20 "_law_names_of" = true) (k20:PySem.W.keepIn K (.ref f20)=true)
  (a21:PySem.W.nsIn K mainGlobals "_law_all_facts" = some (some (.ref f21))) (l21:K.lookup f21=some ⟨oc21,od21,.func (PySem.W.fnOf "_law_all_facts" "_law_all_facts" (defArgs s__law_all_facts) (defBody s__law_all_facts) (defScope s__law_all_facts) .none kV21 dc21 pm21 an21 cd21 ct21),sl21⟩) (c21:PySem.W.codeIn K cd21 "_law_all_facts" = true) (k21:PySem.W.keepIn K (.ref f21)=true)
  (a22:PySem.W.nsIn K mainGlobals "_law_is_clause" = some (some (.ref f22))) (l22:K.lookup f22=some ⟨oc22,od22,.func (PySem.W.fnOf "_law_is_clause" "_law_is_clause" (defArgs s__law_is_clause) (defBody s__law_is_clause) (defScope s__law_is_clause) .none kV22 dc22 pm22 an22 cd22 ct22),sl22⟩) (c22:PySem.W.codeIn K cd22 "_law_is_clause" = true) (k22:PySem.W.keepIn K (.ref f22)=true)
  (a23:PySem.W.nsIn K mainGlobals "_law_stands" = some (some (.ref f23))) (l23:K.lookup f23=some ⟨oc23,od23,.func (PySem.W.fnOf "_law_stands" "_law_stands" (defArgs s__law_stands) (defBody s__law_stands) (defScope s__law_stands) .none kV23 dc23 pm23 an23 cd23 ct23),sl23⟩) (c23:PySem.W.codeIn K cd23 "_law_stands" = true) (k23:PySem.W.keepIn K (.ref f23)=true)
  (a24:PySem.W.nsIn K mainGlobals "_law_before" = some (some (.ref f24))) (l24:K.lookup f24=some ⟨oc24,od24,.func (PySem.W.fnOf "_law_before" "_law_before" (defArgs s__law_before) (defBody s__law_before) (defScope s__law_before) .none kV24 dc24 pm24 an24 cd24 ct24),sl24⟩) (c24:PySem.W.codeIn K cd24 "_law_before" = true) (k24:PySem.W.keepIn K (.ref f24)=true)
  (a25:PySem.W.nsIn K mainGlobals "_law_all_clauses" = some (some (.ref f25))) (l25:K.lookup f25=some ⟨oc25,od25,.func (PySem.W.fnOf "_law_all_clauses" "_law_all_clauses" (defArgs s__law_all_clauses) (defBody s__law_all_clauses) (defScope s__law_all_clauses) .none kV25 dc25 pm25 an25 cd25 ct25),sl25⟩) (c25:PySem.W.codeIn K cd25 "_law_all_clauses" = true) (k25:PySem.W.keepIn K (.ref f25)=true)
  (a26:PySem.W.nsIn K mainGlobals "_law_sits" = some (some (.ref f26))) (l26:K.lookup f26=some ⟨oc26,od26,.func (PySem.W.fnOf "_law_sits" "_law_sits" (defArgs s__law_sits) (defBody s__law_sits) (defScope s__law_sits) .none kV26 dc26 pm26 an26 cd26 ct26),sl26⟩) (c26:PySem.W.codeIn K cd26 "_law_sits" = true) (k26:PySem.W.keepIn K (.ref f26)=true)
  (a27:PySem.W.nsIn K mainGlobals "_law_shortest" = some (some (.ref f27))) (l27:K.lookup f27=some ⟨oc27,od27,.func (PySem.W.fnOf "_law_shortest" "_law_shortest" (defArgs s__law_shortest) (defBody s__law_shortest) (defScope s__law_shortest) .none kV27 dc27 pm27 an27 cd27 ct27),sl27⟩) (c27:PySem.W.codeIn K cd27 "_law_shortest" = true) (k27:PySem.W.keepIn K (.ref f27)=true)
  (a28:PySem.W.nsIn K mainGlobals "law" = some (some (.ref f28))) (l28:K.lookup f28=some ⟨oc28,od28,.func (PySem.W.fnOf "law" "law" (defArgs s_law) (defBody s_law) (defScope s_law) .none kV28 dc28 pm28 an28 cd28 ct28),sl28⟩) (c28:PySem.W.codeIn K cd28 "law" = true) (k28:PySem.W.keepIn K (.ref f28)=true)
  (z_abs:PySem.W.nsIn K mainGlobals "abs" = some none)
  (z_all:PySem.W.nsIn K mainGlobals "all" = some none)
  (z_any:PySem.W.nsIn K mainGlobals "any" = some none)
  (z_bool:PySem.W.nsIn K mainGlobals "bool" = some none)
  (z_dict:PySem.W.nsIn K mainGlobals "dict" = some none)
  (z_isinstance:PySem.W.nsIn K mainGlobals "isinstance" = some none)
  (z_len:PySem.W.nsIn K mainGlobals "len" = some none)
  (z_list:PySem.W.nsIn K mainGlobals "list" = some none)
  (z_range:PySem.W.nsIn K mainGlobals "range" = some none)
  (z_set:PySem.W.nsIn K mainGlobals "set" = some none)
  (z_sorted:PySem.W.nsIn K mainGlobals "sorted" = some none)
  (z_str:PySem.W.nsIn K mainGlobals "str" = some none)
  (z_tuple:PySem.W.nsIn K mainGlobals "tuple" = some none)
  : ∃fd:FuncData,(∀(s:Shared) (v:Value),BindsTo s fd ⟨[v],[]⟩ [("_law_script",v)])/\∀base:Heap,K.In base->base.Ns mainGlobals mg->FnOk l.prog w K mg base CX0 11 fa fd ["_law_script"] (spLaw K):=by
 have e:=hfa.symm.trans (PySem.W.mg_of X G a28)
 cases e
 have F0:=fun_mk (st:=s_names_of) l0 c0 k0
 have b0:=F0.binds (ps:=["rule"]) fun _ _ _ _ _ _=>of1 fun _=>rfl
 have F1:=fun_mk (st:=s_names_within) l1 c1 k1
 have b1:=F1.binds (ps:=["rule"]) fun _ _ _ _ _ _=>of1 fun _=>rfl
 have F2:=fun_mk (st:=s_each_once_in_order) l2 c2 k2
 have b2:=F2.binds (ps:=["tuples"]) fun _ _ _ _ _ _=>of1 fun _=>rfl
 have F3:=fun_mk (st:=s_order_of) l3 c3 k3
 have b3:=F3.binds (ps:=["one"]) fun _ _ _ _ _ _=>of1 fun _=>rfl
 have F4:=fun_mk (st:=s_clauses_in_order) l4 c4 k4
 have b4:=F4.binds (ps:=["clauses"]) fun _ _ _ _ _ _=>of1 fun _=>rfl
 have F5:=fun_mk (st:=s_truth_of) l5 c5 k5
 have b5:=F5.binds (ps:=["rule","facts"]) fun _ _ _ _ _ _=>of2 fun _ _=>rfl
 have F6:=fun_mk (st:=s_truth_of_two) l6 c6 k6
 have b6:=F6.binds (ps:=["word","one","other"]) fun _ _ _ _ _ _=>of3 fun _ _ _=>rfl
 have F7:=fun_mk (st:=s_all_facts) l7 c7 k7
 have b7:=F7.binds (ps:=["names"]) fun _ _ _ _ _ _=>of1 fun _=>rfl
 have F8:=fun_mk (st:=s_with_fact) l8 c8 k8
 have b8:=F8.binds (ps:=["facts","name","truth"]) fun _ _ _ _ _ _=>of3 fun _ _ _=>rfl
 have F9:=fun_mk (st:=s_facts_for) l9 c9 k9
 have b9:=F9.binds (ps:=["rule"]) fun _ _ _ _ _ _=>of1 fun _=>rfl
 have F10:=fun_mk (st:=s_shortest_of) l10 c10 k10
 have b10:=F10.binds (ps:=["rule"]) fun _ _ _ _ _ _=>of1 fun _=>rfl
 have F11:=fun_mk (st:=s_following_over) l11 c11 k11
 have b11:=F11.binds (ps:=["names","rows"]) fun _ _ _ _ _ _=>of2 fun _ _=>rfl
 have F12:=fun_mk (st:=s_has_shorter) l12 c12 k12
 have b12:=F12.binds (ps:=["clause","following"]) fun _ _ _ _ _ _=>of2 fun _ _=>rfl
 have F13:=fun_mk (st:=s__law_hand) l13 c13 k13
 have b13:=F13.binds (ps:=["_law_script"]) fun _ _ _ _ _ _=>of1 fun _=>rfl
 have F14:=fun_mk (st:=s__law_next) l14 c14 k14
 have b14:=F14.binds (ps:=["_law_hand_here"]) fun _ _ _ _ _ _=>of1 fun _=>rfl
 have F15:=fun_mk (st:=s__law_take) l15 c15 k15
 have b15:=F15.binds (ps:=["_law_hand_here"]) fun _ _ _ _ _ _=>of1 fun _=>rfl
 have F16:=fun_mk (st:=s__law_draw) l16 c16 k16
 have b16:=F16.binds (ps:=["_law_hand_here","_law_many"]) fun _ _ _ _ _ _=>of2 fun _ _=>rfl
 have F17:=fun_mk (st:=s__law_names) l17 c17 k17
 have b17:=F17.binds (ps:=["_law_hand_here","_law_many"]) fun _ _ _ _ _ _=>of2 fun _ _=>rfl
 have F18:=fun_mk (st:=s__law_rule) l18 c18 k18
 have b18:=F18.binds (ps:=["_law_hand_here","_law_names_here","_law_deep"]) fun _ _ _ _ _ _=>of3 fun _ _ _=>rfl
 have F19:=fun_mk (st:=s__law_holds) l19 c19 k19
 have b19:=F19.binds (ps:=["_law_rule_here","_law_facts"]) fun _ _ _ _ _ _=>of2 fun _ _=>rfl
 have F20:=fun_mk (st:=s__law_names_of) l20 c20 k20
 have b20:=F20.binds (ps:=["_law_rule_here"]) fun _ _ _ _ _ _=>of1 fun _=>rfl
 have F21:=fun_mk (st:=s__law_all_facts) l21 c21 k21
 have b21:=F21.binds (ps:=["_law_names_here"]) fun _ _ _ _ _ _=>of1 fun _=>rfl
 have F22:=fun_mk (st:=s__law_is_clause) l22 c22 k22
 have b22:=F22.binds (ps:=["_law_thing"]) fun _ _ _ _ _ _=>of1 fun _=>rfl
 have F23:=fun_mk (st:=s__law_stands) l23 c23 k23
 have b23:=F23.binds (ps:=["_law_clause","_law_facts"]) fun _ _ _ _ _ _=>of2 fun _ _=>rfl
 have F24:=fun_mk (st:=s__law_before) l24 c24 k24
 have b24:=F24.binds (ps:=["_law_one","_law_other"]) fun _ _ _ _ _ _=>of2 fun _ _=>rfl
 have F25:=fun_mk (st:=s__law_all_clauses) l25 c25 k25
 have b25:=F25.binds (ps:=["_law_names_here"]) fun _ _ _ _ _ _=>of1 fun _=>rfl
 have F26:=fun_mk (st:=s__law_sits) l26 c26 k26
 have b26:=F26.binds (ps:=["_law_rows","_law_clause"]) fun _ _ _ _ _ _=>of2 fun _ _=>rfl
 have F27:=fun_mk (st:=s__law_shortest) l27 c27 k27
 have b27:=F27.binds (ps:=["_law_rule_here"]) fun _ _ _ _ _ _=>of1 fun _=>rfl
 have F28:=fun_mk (st:=s_law) l28 c28 k28
 have b28:=F28.binds (ps:=["_law_script"]) fun _ _ _ _ _ _=>of1 fun _=>rfl
 have T:Txt K mg ⟨_,_,_,_,_,_,_,_,_,_,_,_,_,_,_,_,_,_,_,_,_,_,_,_,_,_,_,_,_,_,_,_,_,_,_,_,_,_,_,_,_,_,_,_,_,_,_,_,_,_,_,_,_,_,_,_,_,_⟩:=⟨F0,b0,PySem.W.mg_of X G a0,F1,b1,PySem.W.mg_of X G a1,F2,b2,PySem.W.mg_of X G a2,F3,b3,PySem.W.mg_of X G a3,F4,b4,PySem.W.mg_of X G a4,F5,b5,PySem.W.mg_of X G a5,F6,b6,PySem.W.mg_of X G a6,F7,b7,PySem.W.mg_of X G a7,F8,b8,PySem.W.mg_of X G a8,F9,b9,PySem.W.mg_of X G a9,F10,b10,PySem.W.mg_of X G a10,F11,b11,PySem.W.mg_of X G a11,F12,b12,PySem.W.mg_of X G a12,F13,b13,PySem.W.mg_of X G a13,F14,b14,PySem.W.mg_of X G a14,F15,b15,PySem.W.mg_of X G a15,F16,b16,PySem.W.mg_of X G a16,F17,b17,PySem.W.mg_of X G a17,F18,b18,PySem.W.mg_of X G a18,F19,b19,PySem.W.mg_of X G a19,F20,b20,PySem.W.mg_of X G a20,F21,b21,PySem.W.mg_of X G a21,F22,b22,PySem.W.mg_of X G a22,F23,b23,PySem.W.mg_of X G a23,F24,b24,PySem.W.mg_of X G a24,F25,b25,PySem.W.mg_of X G a25,F26,b26,PySem.W.mg_of X G a26,F27,b27,PySem.W.mg_of X G a27,F28,b28,PySem.W.mg_of X G a28,PySem.W.mg_none_of X G z_abs,PySem.W.mg_none_of X G z_all,PySem.W.mg_none_of X G z_any,PySem.W.mg_none_of X G z_bool,PySem.W.mg_none_of X G z_dict,PySem.W.mg_none_of X G z_isinstance,PySem.W.mg_none_of X G z_len,PySem.W.mg_none_of X G z_list,PySem.W.mg_none_of X G z_range,PySem.W.mg_none_of X G z_set,PySem.W.mg_none_of X G z_sorted,PySem.W.mg_none_of X G z_str,PySem.W.mg_none_of X G z_tuple⟩
 exact ⟨PySem.W.fnOf "law" "law" (defArgs s_law) (defBody s_law) (defScope s_law) .none kV28 dc28 pm28 an28 cd28 ct28,fun s v=>.of_eq rfl,fun base _ _=>ok_law (P:=l.prog) (w:=w) (base:=base) T⟩
theorem walk {l:PySem.W.OpenLaw} {q:Program} {loose:List Str} {XP:(Str->Option Value)->Heap->Prop} {YP:World->Heap->Prop} {d:DefRec} {K:Params->PySem.W.Frag} (hn:l.most=some 63) (hdf:d.params.defaults=[])
  (hY:∀(w:World) (h:Heap),YP w h->(K w.params).In h)
  (F:∀(w:World) (mg:Str->Option Value) (fa:Addr) (h:Heap),(K w.params).In h->h.Ns mainGlobals mg->mg d.name=some (.ref fa)->
   ∃fd:FuncData,(∀(s:Shared) (u:Value),BindsTo s fd ⟨[u],[]⟩ [("_law_script",u)])/\∀base:Heap,(K w.params).In base->base.Ns mainGlobals mg->FnOk l.prog w (K w.params) mg base CX0 11 fa fd ["_law_script"] (spLaw (K w.params))) :
  PySem.W.WalkO q loose XP YP l.row.toRowW d [] (fun f vs=>PySem.call f vs):=
 L2.walk_of (n:=63) (k:=11) (x:="_law_script") (CX:=fun _=>CX0) (sp:=fun w=>spLaw (K w.params)) hn (by decide) hdf ⟨rfl,by decide,by decide⟩ hY F (fun _ _ a ns hl _ hS=>⟨a,ns,rfl,hS,hl,fun _=>rfl⟩) fun _ _ _ _ _ z=>z
def view:Program:={ PySem.Challenge.pw_truceroll_k26_shortest_clauses with main:={ PySem.Challenge.pw_truceroll_k26_shortest_clauses.main with body:=[top 1,top 2,top 4,top 5,top 7,top 9,top 10,top 11,top 12,top 14,top 15,top 16,top 17,top 19,top 20,top 21,top 22,top 23,top 24,top 25,top 26,top 27,top 28,top 29,top 30,top 31,top 32,top 33,top 34] } }
end My
open PySem PySem.W PyProof.Rows
local macro_rules | `(tactic| o_head $H:term) => `(tactic| (
  refine holds_open (q := My.view) (loose := []) (Xt := fun s => xlAt My.view [] s && recOk (RowW.records (OpenRow.toRowW PySem.Challenge.rw_truceroll_k26_shortest_clauses.row)) s) (XP := XL My.view []) (Yf := Hook.obs $H) (Ya := Hook.val $H) (YP := Hook.says $H) (N := 40000) ?hl (Hook.of $H) (Hook.keeps $H) (fun s e => xl_of s (Bool.and_eq_true_iff.mp e).1) XL.keeps (by rfl) (by rfl) (by rfl) (fun s e => recFacts_of (Bool.and_eq_true_iff.mp e).2) (by rfl) (by first | assumption | decide +kernel) (by decide +kernel) ⟨rfl, rfl, rfl, rfl, rfl, by decide +kernel⟩ ?hw ?hc
  case hl => intro w; kernel_rfl))
theorem PySem.Challenge.cw_truceroll_k26_shortest_clauses_holds : PySem.Challenge.rw_truceroll_k26_shortest_clauses.Holds := by
 w_on;o_law;k_head;(case hw=>w_witness2)
 k_fill
 refine My.walk (l:=PySem.Challenge.rw_truceroll_k26_shortest_clauses) rfl rfl (fun w h Y=>PySem.W.kIn_of Y) ?F
 case F=>
  intro w mg fa h KX G hmg
  refine' My.all_mk KX G hmg ?a0 ?l0 ?c0 ?k0 ?a1 ?l1 ?c1 ?k1 ?a2 ?l2 ?c2 ?k2 ?a3 ?l3 ?c3 ?k3 ?a4 ?l4 ?c4 ?k4 ?a5 ?l5 ?c5 ?k5 ?a6 ?l6 ?c6 ?k6 ?a7 ?l7 ?c7 ?k7 ?a8 ?l8 ?c8 ?k8 ?a9 ?l9 ?c9 ?k9 ?a10 ?l10 ?c10 ?k10 ?a11 ?l11 ?c11 ?k11 ?a12 ?l12 ?c12 ?k12 ?a13 ?l13 ?c13 ?k13 ?a14 ?l14 ?c14 ?k14 ?a15 ?l15 ?c15 ?k15 ?a16 ?l16 ?c16 ?k16 ?a17 ?l17 ?c17 ?k17 ?a18 ?l18 ?c18 ?k18 ?a19 ?l19 ?c19 ?k19 ?a20 ?l20 ?c20 ?k20 ?a21 ?l21 ?c21 ?k21 ?a22 ?l22 ?c22 ?k22 ?a23 ?l23 ?c23 ?k23 ?a24 ?l24 ?c24 ?k24 ?a25 ?l25 ?c25 ?k25 ?a26 ?l26 ?c26 ?k26 ?a27 ?l27 ?c27 ?k27 ?a28 ?l28 ?c28 ?k28 ?z_abs ?z_all ?z_any ?z_bool ?z_dict ?z_isinstance ?z_len ?z_list ?z_range ?z_set ?z_sorted ?z_str ?z_tuple
  (case a0=>k_is)
  (case l0=>k_is)
  (case c0=>k_is)
  (case k0=>k_is)
  (case a1=>k_is)
  (case l1=>k_is)
  (case c1=>k_is)
  (case k1=>k_is)
  (case a2=>k_is)
  (case l2=>k_is)
  (case c2=>k_is)
  (case k2=>k_is)
  (case a3=>k_is)
  (case l3=>k_is)
  (case c3=>k_is)
  (case k3=>k_is)
  (case a4=>k_is)
  (case l4=>k_is)
  (case c4=>k_is)
  (case k4=>k_is)
  (case a5=>k_is)
  (case l5=>k_is)
  (case c5=>k_is)
  (case k5=>k_is)
  (case a6=>k_is)
  (case l6=>k_is)
  (case c6=>k_is)
  (case k6=>k_is)
  (case a7=>k_is)
  (case l7=>k_is)
  (case c7=>k_is)
  (case k7=>k_is)
  (case a8=>k_is)
  (case l8=>k_is)
  (case c8=>k_is)
  (case k8=>k_is)
  (case a9=>k_is)
  (case l9=>k_is)
  (case c9=>k_is)
  (case k9=>k_is)
  (case a10=>k_is)
  (case l10=>k_is)
  (case c10=>k_is)
  (case k10=>k_is)
  (case a11=>k_is)
  (case l11=>k_is)
  (case c11=>k_is)
  (case k11=>k_is)
  (case a12=>k_is)
  (case l12=>k_is)
  (case c12=>k_is)
  (case k12=>k_is)
  (case a13=>k_is)
  (case l13=>k_is)
  (case c13=>k_is)
  (case k13=>k_is)
  (case a14=>k_is)
  (case l14=>k_is)
  (case c14=>k_is)
  (case k14=>k_is)
  (case a15=>k_is)
  (case l15=>k_is)
  (case c15=>k_is)
  (case k15=>k_is)
  (case a16=>k_is)
  (case l16=>k_is)
  (case c16=>k_is)
  (case k16=>k_is)
  (case a17=>k_is)
  (case l17=>k_is)
  (case c17=>k_is)
  (case k17=>k_is)
  (case a18=>k_is)
  (case l18=>k_is)
  (case c18=>k_is)
  (case k18=>k_is)
  (case a19=>k_is)
  (case l19=>k_is)
  (case c19=>k_is)
  (case k19=>k_is)
  (case a20=>k_is)
  (case l20=>k_is)
  (case c20=>k_is)
  (case k20=>k_is)
  (case a21=>k_is)
  (case l21=>k_is)
  (case c21=>k_is)
  (case k21=>k_is)
  (case a22=>k_is)
  (case l22=>k_is)
  (case c22=>k_is)
  (case k22=>k_is)
  (case a23=>k_is)
  (case l23=>k_is)
  (case c23=>k_is)
  (case k23=>k_is)
  (case a24=>k_is)
  (case l24=>k_is)
  (case c24=>k_is)
  (case k24=>k_is)
  (case a25=>k_is)
  (case l25=>k_is)
  (case c25=>k_is)
  (case k25=>k_is)
  (case a26=>k_is)
  (case l26=>k_is)
  (case c26=>k_is)
  (case k26=>k_is)
  (case a27=>k_is)
  (case l27=>k_is)
  (case c27=>k_is)
  (case k27=>k_is)
  (case a28=>k_is)
  (case l28=>k_is)
  (case c28=>k_is)
  (case k28=>k_is)
  (case z_abs=>k_is)
  (case z_all=>k_is)
  (case z_any=>k_is)
  (case z_bool=>k_is)
  (case z_dict=>k_is)
  (case z_isinstance=>k_is)
  (case z_len=>k_is)
  (case z_list=>k_is)
  (case z_range=>k_is)
  (case z_set=>k_is)
  (case z_sorted=>k_is)
  (case z_str=>k_is)
  (case z_tuple=>k_is)
