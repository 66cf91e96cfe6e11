import PyProof.Rows.All
import Wide.All
import OpenK.AllK
import Wide.FinOn
import Lean
import PyProof.EqAt
import PyProof.EqKinds
import PyProof.TupleCall
import PySem.Challenge.RW_truceroll_k47_first_open_part
set_option Elab.async false
set_option linter.all false
set_option maxRecDepth 100000
set_option maxHeartbeats 0
section
namespace L2
open PySem PySem.Spec PyProof.Rows
abbrev Key:=Sum Int Str
def keyIs:Key->Value->Bool
 | .inl k,v=>Value.isInt k v
 | .inr x,v=>Value.isStrOf x v
def keyH (w:World):Key->Int
 | .inl k=>hashInt k
 | .inr x=>hashStr w x
theorem keyIs_shape:∀{k:Key} {v:Value},keyIs k v=true->(∃i t,k=Sum.inl i/\v=Value.int i t)\/(∃x t,k=Sum.inr x/\v=Value.str x t)
 | .inl i,v,h=>by
  obtain ⟨t,e⟩:=Value.isInt_shape (k:=i) (v:=v) h
  exact .inl ⟨i,t,rfl,e⟩
 | .inr x,v,h=>by
  obtain ⟨t,e⟩:=Value.isStrOf_shape (x:=x) (v:=v) h
  exact .inr ⟨x,t,rfl,e⟩
theorem keyIs_int (i:Int) (t:Tok):keyIs (.inl i) (.int i t)=true:=by simp [keyIs,Value.isInt]
theorem keyIs_str (x:Str) (t:Tok):keyIs (.inr x) (.str x t)=true:=by simp [keyIs,Value.isStrOf]
theorem key_ll (a b:Int):decide ((Sum.inl a:Key)=Sum.inl b)=(a == b):=by
 by_cases e:a=b
 ·subst e;simp
 ·have h:¬(Sum.inl a:Key)=Sum.inl b:=fun q=>e (Sum.inl.inj q)
  rw [decide_eq_false h]
  exact (beq_eq_false_iff_ne.mpr e).symm
theorem key_rr (a b:Str):decide ((Sum.inr a:Key)=Sum.inr b)=decide (a=b):=by
 by_cases e:a=b
 ·subst e;simp
 ·have h:¬(Sum.inr a:Key)=Sum.inr b:=fun q=>e (Sum.inr.inj q)
  rw [decide_eq_false h,decide_eq_false e]
theorem key_lr (a:Int) (b:Str):decide ((Sum.inl a:Key)=Sum.inr b)=false:=decide_eq_false (fun q=>nomatch q)
theorem key_rl (a:Str) (b:Int):decide ((Sum.inr a:Key)=Sum.inl b)=false:=decide_eq_false (fun q=>nomatch q)
def mixKind (prog:Program) (w:World):PySem.KeyKind prog w Key where
 is:=keyIs
 hash:=keyH w
 inj:=fun v a b ha hb=>by
  rcases keyIs_shape ha with ⟨i,t,rfl,rfl⟩ | ⟨x,t,rfl,rfl⟩
  ·rcases keyIs_shape hb with ⟨j,u,rfl,e⟩ | ⟨y,u,rfl,e⟩
   ·injection e with e1 _;rw [e1]
   ·exact nomatch e
  ·rcases keyIs_shape hb with ⟨j,u,rfl,e⟩ | ⟨y,u,rfl,e⟩
   ·exact nomatch e
   ·injection e with e1 _;rw [e1]
 byValue:=fun k v h=>by
  rcases keyIs_shape h with ⟨i,t,rfl,rfl⟩ | ⟨x,t,rfl,rfl⟩ <;> rfl
 pyHash:=fun hv h=>by
  rcases keyIs_shape hv with ⟨i,t,rfl,rfl⟩ | ⟨x,t,rfl,rfl⟩
  ·exact wpAny_pyHash_int h
  ·exact wpAny_pyHash_str h
 eqBool:=fun hu hv h=>by
  rcases keyIs_shape hu with ⟨i,t,rfl,rfl⟩ | ⟨x,t,rfl,rfl⟩
  ·rcases keyIs_shape hv with ⟨j,u,rfl,rfl⟩ | ⟨y,u,rfl,rfl⟩
   ·rw [key_ll] at h;exact wpAny_eqBool_int h
   ·rw [key_lr] at h;exact SeqAt.EqAt.int_str i t y u _ _ _ _ h
  ·rcases keyIs_shape hv with ⟨j,u,rfl,rfl⟩ | ⟨y,u,rfl,rfl⟩
   ·rw [key_rl] at h;exact SeqAt.EqAt.str_int x t j u _ _ _ _ h
   ·rw [key_rr] at h;exact wpAny_eqBool_str h
 «strs»:=fun k x t v h=>by
  rcases keyIs_shape h with ⟨i,u,rfl,e⟩ | ⟨y,u,rfl,e⟩
  ·exact nomatch e
  ·injection e with e1 _
   subst e1
   cases v <;> rfl
theorem mixKind_int (prog:Program) (w:World) (i:Int) (t:Tok):(mixKind prog w).is (.inl i) (.int i t)=true:=keyIs_int i t
theorem mixKind_str (prog:Program) (w:World) (x:Str) (t:Tok):(mixKind prog w).is (.inr x) (.str x t)=true:=keyIs_str x t
end L2
namespace L2
open PySem PySem.Spec PyProof.Rows
inductive V where
 | non | bl (b:Bool) | int (i:Int) | str (x:Str) | byt (b:Array UInt8) | flt (b:UInt64) | ref (a:Addr) | ty (n:String)
 deriving DecidableEq
def RelV:V->Value->Prop
 | .non,u=>u=Value.none
 | .bl b,u=>u=Value.bool b
 | .int i,u=>∃t,u=Value.int i t
 | .str x,u=>∃t,u=Value.str x t
 | .byt b,u=>∃t,u=Value.bytes b t
 | .flt b,u=>∃t,u=Value.float b t
 | .ref a,u=>u=Value.ref a
 | .ty n,u=>u=Value.type n
abbrev Vals:List V->List Value->Prop:=Paired RelV
theorem Vals.length {xs:List V} {us:List Value} (r:Vals xs us):xs.length=us.length:=Paired.length r
theorem Vals.get:∀{xs:List V} {us:List Value} {i:Nat} {x:V},Vals xs us->xs[i]? = some x->∃u,us[i]? = some u/\RelV x u
 | _,_,_,_,.nil,e=>by simp at e
 | _,_,0,_,.cons r _,e=>by simp at e;subst e;exact ⟨_,rfl,r⟩
 | _,_,i+1,x,.cons _ t,e=>by
  obtain ⟨u,h1,h2⟩:=Vals.get (i:=i) (x:=x) t (by simpa using e)
  exact ⟨u,by simpa using h1,h2⟩
theorem Vals.set {x:V} {u:Value} (r:RelV x u):∀{xs:List V} {us:List Value} (i:Nat),Vals xs us->Vals (xs.set i x) (us.set i u)
 | _,_,_,.nil=>.nil
 | _,_,0,.cons _ t=>.cons r t
 | _,_,i+1,.cons q t=>.cons q (Vals.set r i t)
theorem Vals.append:∀{xs ys:List V} {us ws:List Value},Vals xs us->Vals ys ws->Vals (xs++ys) (us++ws)
 | _,_,_,_,.nil,s=>s
 | _,_,_,_,.cons r t,s=>.cons r (Vals.append t s)
theorem Vals.take:∀{xs:List V} {us:List Value} (n:Nat),Vals xs us->Vals (xs.take n) (us.take n)
 | _,_,0,_=>.nil
 | _,_,_+1,.nil=>.nil
 | _,_,n+1,.cons r t=>.cons r (Vals.take n t)
theorem Vals.drop:∀{xs:List V} {us:List Value} (n:Nat),Vals xs us->Vals (xs.drop n) (us.drop n)
 | _,_,0,r=>r
 | _,_,_+1,.nil=>.nil
 | _,_,n+1,.cons _ t=>Vals.drop n t
def RelO:Option V->Option Value->Prop
 | some v,some u=>RelV v u
 | none,none=>True
 | _,_=>False
def KV {κ:Type}:List (κ×V)->List (κ×Value)->Prop:=Paired fun (p:κ×V) (q:κ×Value)=>p.1=q.1/\RelV p.2 q.2
def kV:Key->V
 | .inl i=>.int i
 | .inr x=>.str x
inductive HO where
 | lst (xs:List V)
 | tup (xs:List V)
 | dK (kvs:List (Key×V)) | dT (kvs:List (List Key×V))
 | set (S:Int->Bool) (n:Nat)
 | ins (C dx:Addr) (fs:List (Str×V))
 | own (x:Addr)
 | xd (fs:List (Str×V))
 | met (f x:Addr)
 | rng (lo hi:Int)
 | frz (o:Obj) (u:HO)
 | tbl (ps:Array Value)
 | ext (φ:Heap->Prop)
abbrev Hp:=Addr->Option HO
def upd (H:Hp) (a:Addr) (o:HO):Hp:=fun b=>if b=a then some o else H b
theorem upd_same {H:Hp} {a:Addr} {o:HO}:upd H a o a=some o:=by unfold upd;rw [if_pos rfl]
theorem upd_ne {H:Hp} {a b:Addr} {o:HO} (h:b≠a):upd H a o b=H b:=by unfold upd;rw [if_neg h]
theorem upd_upd {H:Hp} {a:Addr} {o u:HO}:upd (upd H a o) a u=upd H a u:=by
 funext b;unfold upd;split <;> rfl
theorem ne_of {H:Hp} {a b:Addr} {o u:HO} (h:H a=some o) (h':H b=some u) (d:o≠u):a≠b:=by
 intro e;subst e;rw [h] at h';exact d (Option.some.inj h')
theorem ne_of_none {H:Hp} {a b:Addr} {o:HO} (h:H a=some o) (h':H b=none):a≠b:=by
 intro e;subst e;rw [h] at h';cases h'
section
variable (P:Program) (w:World)
def ObjOk (H:Hp) (h:Heap) (a:Addr):HO->Prop
 | .lst xs=>xs.length<=sizeLine/\∃(its:List Value) (n:Nat),Vals xs its/\h.get? a=some { cls:=.type "list",data:=.seq its.toArray n }
 | .tup xs=>xs.length<=sizeLine/\∃its:List Value,Vals xs its/\IsTup h a its.toArray
 | .dK kvs=>kvs.length<=sizeLine/\(a == sysModules)=false/\∃vs,KV kvs vs/\h.DictOf (mixKind P w) a vs
 | .dT kvs=>kvs.length<=sizeLine/\(a == sysModules)=false/\∃xs:List (List Key×Addr×Value),
   Paired (fun (p:List Key×V) (q:List Key×Addr×Value)=>p.1=q.1/\H q.2.1=some (.tup (p.1.map kV))/\RelV p.2 q.2.2) kvs xs/\
   ∃o es ep,h.get? a=some o/\o.ExactDict/\o.data=.dict es ep/\es.toList=xs.map (entryOfKey (tupleKind (mixKind P w)))/\(xs.map (·.1)).Nodup
 | .set S n=>h.SetOf (intKind P w) a S n
 | .ins C dx fs=>H dx=some (.own a)/\fs.length<=1000/\dx≠a/\h.get? a=some (PySem.W.instObj C dx)/\
   ∃mA,h.Ns1 dx mA/\(∀f,RelO (fs.lookup f) (mA f))/\PySem.Within mA (fs.map (·.1))
 | .own _=>∃o,h.get? a=some o
 | .xd fs=>∃mA,h.Ns1 a mA/\∀f,RelO (fs.lookup f) (mA f)
 | .rng lo hi=>∃t u v,h.get? a=some { cls:=.type "range",data:=.fields #[.int lo t,.int hi u,.int 1 v] }
 | .frz o u=>h.get? a=some o/\ObjOk H h a u
 | .tbl ps=>h.get? a=some { cls:=.none,data:=.fields ps }
 | .met f x=>h.get? a=some (PySem.W.methodObj (.ref f) (.ref x))
 | .ext φ=>φ h/\(∃o,h.get? a=some o)/\∀h1 h2:Heap,φ h1->(∀o,h1.get? a=some o->h2.get? a=some o)->φ h2
def HOk (H:Hp) (h:Heap):Prop:=∀a o,H a=some o->ObjOk P w H h a o
end
section
variable {P:Program} {w:World} {H H':Hp} {h h':Heap} {a:Addr} {o:HO}
theorem ObjOk.lt (x:ObjOk P w H h a o):a < h.objs.size:=by
 cases o with
 | lst xs=>obtain ⟨_,_,_,_,e⟩:=x;exact Heap.lt_size e
 | tup xs=>obtain ⟨_,_,_,p⟩:=x;exact p.lt
 | dK kvs=>obtain ⟨_,_,_,_,o,_,_,e,_⟩:=x;exact Heap.lt_size e
 | dT kvs=>obtain ⟨_,_,_,_,o,_,_,e,_⟩:=x;exact Heap.lt_size e
 | set S n=>obtain ⟨o,_,_,_,e,_⟩:=x;exact Heap.lt_size e
 | ins C dx fs=>obtain ⟨_,_,_,e,_⟩:=x;exact Heap.lt_size e
 | own y=>obtain ⟨_,e⟩:=x;exact Heap.lt_size e
 | xd fs=>obtain ⟨_,⟨_,_,_,e,_⟩,_⟩:=x;exact Heap.lt_size e
 | rng lo hi=>obtain ⟨_,_,_,e⟩:=x;exact Heap.lt_size e
 | frz ob u=>obtain ⟨e,_⟩:=x;exact Heap.lt_size e
 | tbl ps=>exact Heap.lt_size (show h.get? a=some _ from x)
 | met f y=>exact Heap.lt_size (show h.get? a=some _ from x)
 | ext φ=>obtain ⟨_,⟨_,e⟩,_⟩:=x;exact Heap.lt_size e
theorem Paired.mapP {α β:Type} {F G:α->β->Prop}:∀{l₁:List α} {l₂:List β},Paired F l₁ l₂->(∀a b,F a b->G a b)->Paired G l₁ l₂
 | _,_,.nil,_=>.nil
 | _,_,.cons r t,f=>.cons (f _ _ r) (Paired.mapP t f)
theorem ObjOk.stay (x:ObjOk P w H h a o) (k:∀b u,(b=a\/H b=some (.own a))->h.get? b=some u->h'.get? b=some u)
  (ho:∀b,H b=some (.own a)->H' b=some (.own a)) (ht:∀b xs,H b=some (.tup xs)->H' b=some (.tup xs)):ObjOk P w H' h' a o:=by
 induction o with
 | lst xs=>obtain ⟨z,its,n,r,e⟩:=x;exact ⟨z,its,n,r,k _ _ (.inl rfl) e⟩
 | tup xs=>obtain ⟨z,its,r,ob,e,c⟩:=x;exact ⟨z,its,r,ob,k _ _ (.inl rfl) e,c⟩
 | dK kvs=>obtain ⟨z,y,vs,r,ob,es,ep,e,c⟩:=x;exact ⟨z,y,vs,r,ob,es,ep,k _ _ (.inl rfl) e,c⟩
 | dT kvs=>
  obtain ⟨z,y,xs,r,ob,es,ep,e,c⟩:=x
  exact ⟨z,y,xs,Paired.mapP r fun p q z=>⟨z.1,ht _ _ z.2.1,z.2.2⟩,ob,es,ep,k _ _ (.inl rfl) e,c⟩
 | set S n=>obtain ⟨ob,es,ep,t,e,c⟩:=x;exact ⟨ob,es,ep,t,k _ _ (.inl rfl) e,c⟩
 | ins C dx fs=>
  obtain ⟨d,z,ne,e,mA,⟨od,es,ep,e2,c⟩,r⟩:=x
  exact ⟨ho _ d,z,ne,k _ _ (.inl rfl) e,mA,⟨od,es,ep,k _ _ (.inr d) e2,c⟩,r⟩
 | own y=>obtain ⟨ob,e⟩:=x;exact ⟨ob,k _ _ (.inl rfl) e⟩
 | xd fs=>obtain ⟨mA,⟨od,es,ep,e,c⟩,r⟩:=x;exact ⟨mA,⟨od,es,ep,k _ _ (.inl rfl) e,c⟩,r⟩
 | rng lo hi=>obtain ⟨t,u,v,e⟩:=x;exact ⟨t,u,v,k _ _ (.inl rfl) e⟩
 | frz ob u ih=>obtain ⟨e,q⟩:=x;exact ⟨k _ _ (.inl rfl) e,ih q⟩
 | tbl ps=>
  have e:h.get? a=some { cls:=.none,data:=.fields ps }:=x
  show h'.get? a=some { cls:=.none,data:=.fields ps }
  exact k a _ (.inl rfl) e
 | met f y=>
  have e:h.get? a=some (PySem.W.methodObj (.ref f) (.ref y)):=x
  show h'.get? a=some (PySem.W.methodObj (.ref f) (.ref y))
  exact k a _ (.inl rfl) e
 | ext φ=>obtain ⟨p,⟨o,e⟩,st⟩:=x;exact ⟨st _ _ p fun o q=>k _ _ (.inl rfl) q,⟨o,k _ _ (.inl rfl) e⟩,st⟩
theorem HOk.lt (x:HOk P w H h) (e:H a=some o):a < h.objs.size:=(x a o e).lt
theorem HOk.fresh (x:HOk P w H h) (e:h.objs.size<=a):H a=none:=by
 cases q:H a with
 | none=>rfl
 | some u=>exact absurd (Nat.lt_of_lt_of_le (x.lt q) e) (Nat.lt_irrefl _)
theorem HOk.kept (x:HOk P w H h) (k:∀b u,h.get? b=some u->h'.get? b=some u):HOk P w H h':=fun a o e=>
 (x a o e).stay (fun b u _ q=>k b u q) (fun _ q=>q) fun _ _ q=>q
theorem HOk.laid (x:HOk P w H h) (k:∀b u,h.get? b=some u->h'.get? b=some u) (hp:h.objs.size<=a) (new:ObjOk P w (upd H a o) h' a o):HOk P w (upd H a o) h':=fun b u e=>by
 have hn:=x.fresh hp
 by_cases hb:b=a
 ·subst hb;rw [upd_same] at e;cases e;exact new
 ·rw [upd_ne hb] at e
  exact (x b u e).stay (fun c v _ q=>k c v q) (fun c q=>by rw [upd_ne (ne_of_none q hn)];exact q) fun c xs q=>by rw [upd_ne (ne_of_none q hn)];exact q
end
def Rd (H:Hp) (a:Addr) (u:HO):Prop:=H a=some u\/∃o,H a=some (.frz o u)
theorem Rd.ok {P:Program} {w:World} {H:Hp} {h:Heap} {a:Addr} {u:HO} (r:Rd H a u) (x:HOk P w H h):ObjOk P w H h a u:=by
 rcases r with r | ⟨o,r⟩
 ·exact x a u r
 ·obtain ⟨_,q⟩:=x a _ r
  exact q
def Mut:Option HO->Prop
 | some (.lst _)=>True
 | some (.dK _)=>True
 | some (.dT _)=>True
 | some (.set _ _)=>True
 | some (.ins _ _ _)=>True
 | some (.ext _)=>True
 | _=>False
section
variable {P:Program} {w:World} {H:Hp} {h h':Heap} {x e:Addr} {o':HO}
theorem HOk.write (ok:HOk P w H h) (mu:Mut (H x)) (he:e=x\/H e=some (.own x)) (k:∀b u,b≠e->h.get? b=some u->h'.get? b=some u) (heo:∃u,h'.get? e=some u)
  (new:ObjOk P w (upd H x o') h' x o'):HOk P w (upd H x o') h':=fun b u q=>by
 have nown:∀c y,H c=some (.own y)->c≠x:=fun c y r z=>by subst z;rw [r] at mu;exact mu
 have ntup:∀c xs,H c=some (.tup xs)->c≠x:=fun c xs r z=>by subst z;rw [r] at mu;exact mu
 by_cases hb:b=x
 ·subst hb;rw [upd_same] at q;cases q;exact new
 ·rw [upd_ne hb] at q
  by_cases hbe:b=e
  ·have q':H b=some (.own x):=by
    rcases he with z | z
    ·exact absurd (hbe.trans z) hb
    ·rw [hbe];exact z
   rw [q] at q';cases q'
   obtain ⟨v,hv⟩:=heo
   exact ⟨v,by rw [hbe];exact hv⟩
  ·refine (ok b u q).stay (fun c v hc r=>k c v ?_ r) (fun c r=>by rw [upd_ne (nown c b r)];exact r) fun c xs r=>by rw [upd_ne (ntup c xs r)];exact r
   rcases hc with rfl | hc
   ·exact hbe
   ·rintro rfl
    rcases he with z | z
    ·exact nown c b hc z
    ·rw [hc] at z;cases z;exact hb rfl
end
structure Un (fs ex:List Addr) (H H':Hp) (h h':Heap):Prop where
 keep:∀b o,h.get? b=some o->H b=none->b∉fs->b∉ex->h'.get? b=some o
 slot:∀b o,h.get? b=some o->H b=none->b∈fs->b∉ex->∃sl,h'.get? b=some { o with slots:=sl }
 free:∀b o,h.get? b=some o->H b=none->b∉ex->H' b=none
 there:∀b o,h.get? b=some o->b∉ex->∃o',h'.get? b=some o'
 tups:∀b xs,H b=some (.tup xs)->H' b=some (.tup xs)
 frzs:∀b o u,H b=some (.frz o u)->H' b=some (.frz o u)
 tbls:∀b ps,H b=some (.tbl ps)->∃more,H' b=some (.tbl (ps++more))
section
variable {fs fs' ex ex':List Addr} {H H1 H2:Hp} {h h1 h2 h':Heap} {a x e:Addr} {o:HO}
theorem Un.any (u:Un fs ex H H1 h h1) {b:Addr} {ob:Obj} (q:h.get? b=some ob) (n:H b=none) (hx:b∉ex):∃sl,h1.get? b=some { ob with slots:=sl }:=by
 by_cases hb:b∈fs
 ·exact u.slot b ob q n hb hx
 ·exact ⟨ob.slots,u.keep b ob q n hb hx⟩
theorem Un.trans (a:Un fs ex H H1 h h1) (b:Un fs ex H1 H2 h1 h2):Un fs ex H H2 h h2 where
 keep:=fun c ob q n hc hx=>b.keep c ob (a.keep c ob q n hc hx) (a.free c ob q n hx) hc hx
 slot:=fun c ob q n hc hx=>by
  obtain ⟨sl,e1⟩:=a.slot c ob q n hc hx
  obtain ⟨sl',e2⟩:=b.slot c _ e1 (a.free c ob q n hx) hc hx
  exact ⟨sl',e2⟩
 free:=fun c ob q n hx=>by
  obtain ⟨o',e1⟩:=a.there c ob q hx
  exact b.free c o' e1 (a.free c ob q n hx) hx
 there:=fun c ob q hx=>by
  obtain ⟨o',e1⟩:=a.there c ob q hx
  exact b.there c o' e1 hx
 tups:=fun c xs q=>b.tups c xs (a.tups c xs q)
 frzs:=fun c ob xs q=>b.frzs c ob xs (a.frzs c ob xs q)
 tbls:=fun c ps q=>by
  obtain ⟨m1,e1⟩:=a.tbls c ps q
  obtain ⟨m2,e2⟩:=b.tbls c _ e1
  exact ⟨m1++m2,by rw [e2,Array.append_assoc]⟩
theorem Un.kept (k:∀b u,h.get? b=some u->h'.get? b=some u):Un fs ex H H h h':=
 ⟨fun b ob q _ _ _=>k b ob q,fun b ob q _ _ _=>⟨ob.slots,k b ob q⟩,fun _ _ _ n _=>n,fun b ob q _=>⟨ob,k b ob q⟩,fun _ _ q=>q,fun _ _ _ q=>q,fun _ ps q=>⟨#[],by rw [q];simp⟩⟩
theorem Un.refl:Un fs ex H H h h:=Un.kept fun _ _ q=>q
theorem Un.laid (k:∀b u,h.get? b=some u->h'.get? b=some u) (hp:h.objs.size<=a) (hn:H a=none):Un fs ex H (upd H a o) h h' where
 keep:=fun b u q _ _ _=>k b u q
 slot:=fun b u q _ _ _=>⟨u.slots,k b u q⟩
 free:=fun b u q n _=>by rw [upd_ne (Nat.ne_of_lt (Nat.lt_of_lt_of_le (Heap.lt_size q) hp))];exact n
 there:=fun b u q _=>⟨u,k b u q⟩
 tups:=fun b xs q=>by rw [upd_ne (ne_of_none q hn)];exact q
 frzs:=fun b u xs q=>by rw [upd_ne (ne_of_none q hn)];exact q
 tbls:=fun b ps q=>⟨#[],by rw [upd_ne (ne_of_none q hn),q];simp⟩
theorem Un.write (mu:Mut (H x)) (he:e=x\/H e=some (.own x)) (k:∀b u,b≠e->h.get? b=some u->h'.get? b=some u) (heo:∃u,h'.get? e=some u):Un fs ex H (upd H x o) h h':=by
 have hx:∀b,H b=none->b≠x:=fun b n z=>by subst z;rw [n] at mu;exact mu
 have hb:∀b,H b=none->b≠e:=fun b n z=>by
  subst z
  rcases he with r | r
  ·exact hx b n r
  ·rw [n] at r;cases r
 have hm:∀b u,H b=some u->¬Mut (some u)->b≠x:=fun b u q nm z=>by subst z;rw [q] at mu;exact nm mu
 refine ⟨fun b u q n _ _=>k b u (hb b n) q,fun b u q n _ _=>⟨u.slots,k b u (hb b n) q⟩,fun b u q n _=>by rw [upd_ne (hx b n)];exact n,fun b u q _=>?_,
  fun b xs q=>by rw [upd_ne (hm b _ q fun z=>z)];exact q,fun b u xs q=>by rw [upd_ne (hm b _ q fun z=>z)];exact q,fun b ps q=>⟨#[],by rw [upd_ne (hm b _ q fun z=>z),q];simp⟩⟩
 by_cases hbe:b=e
 ·subst hbe;exact heo
 ·exact ⟨u,k b u hbe q⟩
end
def trk (h:Heap) (H:Hp):List Addr:=(List.range h.objs.size).filter fun a=>(H a).isSome
def hidT (h:Heap) (H:Hp):Heap:=PySem.W.hideAll h (trk h H)
theorem hidT_size (h:Heap) (H:Hp):(hidT h H).objs.size=h.objs.size:=PySem.W.hideAll_size _ _
theorem hidT_get {h:Heap} {H:Hp} {b:Addr} {o:Obj} (e:h.get? b=some o) (n:H b=none):(hidT h H).get? b=some o:=
 PySem.W.hideAll_get _ e fun hm=>by
  have q:(H b).isSome=true:=(List.mem_filter.mp hm).2
  rw [n] at q;simp at q
theorem of_hidT {h:Heap} {H:Hp} {b:Addr} {o:Obj} (e:(hidT h H).get? b=some o):h.get? b=some o/\H b=none:=by
 have e':h.get? b=some o:=PySem.W.of_hideAll (trk h H) e
 refine ⟨e',?_⟩
 cases q:H b with
 | none=>rfl
 | some x=>
  have hm:b∈trk h H:=List.mem_filter.mpr ⟨List.mem_range.mpr (Heap.lt_size e'),by simp [q]⟩
  have z:(hidT h H).get? b=none:=PySem.W.hideAll_none (trk h H) hm
  rw [z] at e;cases e
def allNews (g h:Heap) (L:Addr):List (Addr×Obj):=(List.range h.objs.size).filterMap fun a=>if a=L\/(g.get? a).isSome=true then none else (h.get? a).map fun o=>(a,o)
def rest (g h:Heap) (L d:Addr):List (Addr×Obj):=(allNews g h L).filter fun p=>decide (p.1≠d)
end L2
namespace L2
open PySem PySem.Spec PyProof.Rows
structure Mod (K:PySem.W.Frag) (mg:Str->Option Value) (base:Heap):Prop where
 kin:K.In base
 glob:base.Ns mainGlobals mg
 blt:∃mb,base.Ns builtinsNs mb/\∀x:Str,x≠"__name__"->mb x=bootBuiltins x
 nolimit:base.NoLimit
structure Cx where
 prog:Program
 w:World
 K:PySem.W.Frag
 mg:Str->Option Value
 base:Heap
 A:Around
 N:List Str
 s₀:Shared
 H₀:Hp
 env:Env
 outer:List Env
 stack:List Env
 ex:List Addr
 fn:Str->Bool
 calm:Bool
 pn:List (Addr×Obj)
 xe:Value->Shared->Prop
def frs (l:List Env):List Addr:=l.filterMap (·.frame)
abbrev Cx.fs (X:Cx):List Addr:=frs X.outer
def Vis (sc:Scope) (x:Str):Prop:=sc.names.lookup x=some .local\/sc.names.lookup x=some .cell\/sc.names.lookup x=some .free
def Loc (sc:Scope) (x:Str):Prop:=sc.names.lookup x=some .local\/sc.names.lookup x=some .cell
def Look (env:Env) (h:Heap) (m:Str->Option Value) (x:Str) (u:Value):Prop:=
 (env.kindOf x=some .local/\m x=some u)\/((env.kindOf x=some .cell\/env.kindOf x=some .free)/\∃c,env.cells.lookup x=some c/\h.IsCell c (some u))
structure Cx.Ok (X:Cx):Prop where
 mod:Mod X.K X.mg X.base
 kind:X.env.scope.kind=.function
 glob:X.env.globals=mainGlobals
 blt:X.env.builtins=builtinsNs
 above:X.s₀.heap.objs.size<=X.env.locals
 inj:∀x y c,X.env.cells.lookup x=some c->X.env.cells.lookup y=some c->x=y
 has:∀x,(X.env.kindOf x=some .cell\/X.env.kindOf x=some .free)->∃c,X.env.cells.lookup x=some c
 cab:∀x c,X.fn x=true->X.env.cells.lookup x=some c->X.s₀.heap.objs.size<=c
 hd:X.calm=true->X.A.handled=none
 frames:X.A.frames=some X.stack
 stk:X.stack=X.outer\/(X.stack=X.env::X.outer/\X.env.frame=some X.env.locals)
 exf:∀b∈X.ex,b≠X.env.locals/\∀x c,X.env.cells.lookup x=some c->c≠b
 bs:∀b o,X.base.get? b=some o->X.s₀.heap.get? b=some o/\X.H₀ b=none
 bsz:X.base.objs.size<=X.s₀.heap.objs.size
 noex:∀b o,X.base.get? b=some o->b∉X.ex
 exfs:∀b∈X.ex,b∉X.fs
 funs:X.s₀.heap.FunFrames X.base X.outer
 frf:∀b∈X.fs,X.H₀ b=none
structure Inv (X:Cx) (pins:List (Addr×Obj)) (σ:List (Option V)) (H:Hp) (s:Shared):Prop where
 ok:X.Ok
 os:s.os=X.s₀.os
 bare:AllBare s.gens
 base:Un X.fs X.ex X.H₀ H X.s₀.heap s.heap
 loc:∃m,s.heap.Ns X.env.locals m/\∀(i:Nat) (x:Str) (v:V),X.N[i]? = some x->σ[i]? = some (some v)->Vis X.env.scope x->∃u,RelV v u/\Look X.env s.heap m x u
 cell:∀x c,X.env.cells.lookup x=some c->∃v,s.heap.IsCell c v
 free:H X.env.locals=none
 freeC:∀x c,X.env.cells.lookup x=some c->H c=none
 pin:∀p∈X.pn++pins,s.heap.get? p.1=some p.2/\H p.1=none/\p.1≠X.env.locals/\p.1∉X.fs/\∀v,p.2.data≠.cell v
 hok:HOk X.prog X.w H s.heap
 len:σ.length=X.N.length
section
variable {X:Cx} {pins:List (Addr×Obj)} {σ:List (Option V)} {H H':Hp} {s:Shared} {h':Heap}
theorem Cx.Ok.nofr (ok:X.Ok) {b:Addr} {o:Obj} (e:X.base.get? b=some o):b∉X.fs:=fun hb=>by
 have:=(ok.funs.mem hb).1
 rw [e] at this;cases this
theorem Inv.bs (I:Inv X pins σ H s):∀b o,X.base.get? b=some o->s.heap.get? b=some o/\H b=none:=fun b o e=>
 ⟨I.base.keep b o (I.ok.bs b o e).1 (I.ok.bs b o e).2 (I.ok.nofr e) (I.ok.noex b o e),I.base.free b o (I.ok.bs b o e).1 (I.ok.bs b o e).2 (I.ok.noex b o e)⟩
theorem Inv.bk (I:Inv X pins σ H s):∀b o,X.base.get? b=some o->s.heap.get? b=some o:=fun b o e=>(I.bs b o e).1
theorem Inv.mod (I:Inv X pins σ H s):Mod X.K X.mg X.base:=I.ok.mod
theorem Inv.kIn (I:Inv X pins σ H s):X.K.In s.heap:=I.ok.mod.kin.keeps I.bk
theorem Inv.lt (I:Inv X pins σ H s):X.env.locals < s.heap.objs.size:=let ⟨_,hn,_⟩:=I.loc;hn.lt
theorem Inv.sz (I:Inv X pins σ H s):X.s₀.heap.objs.size<=s.heap.objs.size:=Nat.le_trans I.ok.above (Nat.le_of_lt I.lt)
theorem Inv.nofs (I:Inv X pins σ H s) {a:Addr} (h:s.heap.objs.size<=a):a∉X.fs:=fun hb=>by
 obtain ⟨_,o,ho,_⟩:=I.ok.funs.mem hb
 exact absurd (Nat.lt_of_lt_of_le (Heap.lt_size ho) (Nat.le_trans I.sz h)) (Nat.lt_irrefl _)
theorem Inv.cne (I:Inv X pins σ H s):∀x c,X.env.cells.lookup x=some c->c≠X.env.locals:=fun x c e z=>by
 obtain ⟨v,o,ho,hd⟩:=I.cell x c e
 obtain ⟨m,⟨o',es,ep,ho',hd',_⟩,_⟩:=I.loc
 rw [z,ho'] at ho;cases ho;rw [hd'] at hd;cases hd
theorem Inv.funs (I:Inv X pins σ H s):s.heap.FunFrames X.base X.outer:=by
 have all:∀(l:List Env),(∀b∈frs l,b∈X.fs)->X.s₀.heap.FunFrames X.base l->s.heap.FunFrames X.base l:=by
  intro l
  induction l with
  | nil=>intro _ _;trivial
  | cons env r ih=>
   intro hs hl
   obtain ⟨hk,⟨L,o,hf,hn,ho,hd⟩,hr⟩:=hl
   have hL:L∈X.fs:=hs L (by unfold frs;rw [List.filterMap_cons,hf];exact List.mem_cons_self)
   obtain ⟨sl,e⟩:=I.base.slot L o ho (I.ok.frf L hL) hL fun z=>I.ok.exfs L z hL
   exact ⟨hk,⟨L,_,hf,hn,e,hd⟩,ih (fun b hb=>hs b (by unfold frs;rw [List.filterMap_cons,hf];exact List.mem_cons_of_mem _ hb)) hr⟩
 exact all X.outer (fun _ hb=>hb) I.ok.funs
theorem Inv.stack (I:Inv X pins σ H s):s.heap.FunFrames X.base X.stack:=by
 rcases I.ok.stk with e | ⟨e,hf⟩
 ·rw [e];exact I.funs
 ·rw [e]
  obtain ⟨m,hn,_⟩:=I.loc
  refine .cons (by rw [I.ok.kind];decide) hf hn ?_ I.funs
  exact Heap.get?_none_of_le (Nat.le_trans I.ok.bsz I.ok.above)
theorem Inv.stkSub (I:Inv X pins σ H s):∀b∈frs X.stack,b∈X.env.locals::X.fs:=fun b hb=>by
 rcases I.ok.stk with e | ⟨e,hf⟩
 ·rw [e] at hb;exact List.mem_cons_of_mem _ hb
 ·rw [e] at hb
  unfold frs at hb
  rw [List.filterMap_cons,hf] at hb
  exact hb
theorem Inv.stkFree (I:Inv X pins σ H s):∀b∈frs X.stack,H b=none:=fun b hb=>by
 rcases List.mem_cons.mp (I.stkSub b hb) with e | hb
 ·rw [e];exact I.free
 ·obtain ⟨_,o,ho,_⟩:=I.ok.funs.mem hb
  exact I.base.free b o ho (I.ok.frf b hb) fun z=>I.ok.exfs b z hb
theorem Inv.step {g':Array GenState} {t':Nat} {d':Drawn} {ch:List Addr} (I:Inv X pins σ H s)
  (hch:∀b∈ch,(b∈X.ex\/X.s₀.heap.objs.size<=b)/\b≠X.env.locals/\(∀x c,X.env.cells.lookup x=some c->c≠b)/\∀p∈X.pn++pins,p.1≠b)
  (keep:∀b o,b≠X.env.locals->b∉X.fs->b∉ch->s.heap.get? b=some o->H b=none->h'.get? b=some o)
  (slot:∀b o,b≠X.env.locals->b∈X.fs->b∉ch->s.heap.get? b=some o->H b=none->∃sl,h'.get? b=some { o with slots:=sl }) (free:∀b o,b∉ch->s.heap.get? b=some o->H b=none->H' b=none)
  (there:∀b o,b∉ch->s.heap.get? b=some o->∃o',h'.get? b=some o')
  (tups:∀b xs,H b=some (.tup xs)->H' b=some (.tup xs)) (frzs:∀b o u,H b=some (.frz o u)->H' b=some (.frz o u)) (tbls:∀b ps,H b=some (.tbl ps)->∃more,H' b=some (.tbl (ps++more)))
  (ns:∀m,s.heap.Ns X.env.locals m->h'.Ns X.env.locals m) (hok:HOk X.prog X.w H' h') (hg:AllBare g') :
  Inv X pins σ H' { s with heap:=h',gens:=g',drawn:=d',toks:=t' }:=by
 have neL:∀b o,X.s₀.heap.get? b=some o->b≠X.env.locals:=fun b o e=>Nat.ne_of_lt (Nat.lt_of_lt_of_le (Heap.lt_size e) I.ok.above)
 have neC:∀b o,X.s₀.heap.get? b=some o->b∉X.ex->b∉ch:=fun b o e hx hb=>by
  rcases (hch b hb).1 with z | z
  ·exact hx z
  ·exact absurd (Nat.lt_of_lt_of_le (Heap.lt_size e) z) (Nat.lt_irrefl _)
 have cellK:∀x c,X.env.cells.lookup x=some c->∀v,s.heap.IsCell c v->h'.IsCell c v:=fun x c e v ⟨o,ho,hd⟩=>by
  have nch:c∉ch:=fun z=>(hch c z).2.2.1 x c e rfl
  by_cases hc:c∈X.fs
  ·obtain ⟨sl,q⟩:=slot c o (I.cne x c e) hc nch ho (I.freeC x c e)
   exact ⟨_,q,hd⟩
  ·exact ⟨o,keep c o (I.cne x c e) hc nch ho (I.freeC x c e),hd⟩
 refine ⟨I.ok,I.os,hg,⟨fun b o e n hb hx=>?_,fun b o e n hb hx=>?_,fun b o e n hx=>?_,fun b o e hx=>?_,fun b xs e=>tups b xs (I.base.tups b xs e),fun b o xs e=>frzs b o xs (I.base.frzs b o xs e),fun b ps e=>?_⟩,?_,fun x c e=>?_,?_,fun x c e=>?_,fun p hp=>?_,hok,I.len⟩
 ·exact keep b o (neL b o e) hb (neC b o e hx) (I.base.keep b o e n hb hx) (I.base.free b o e n hx)
 ·obtain ⟨sl,e1⟩:=I.base.slot b o e n hb hx
  obtain ⟨sl',e2⟩:=slot b _ (neL b o e) hb (neC b o e hx) e1 (I.base.free b o e n hx)
  exact ⟨sl',e2⟩
 ·obtain ⟨o',e1⟩:=I.base.there b o e hx
  exact free b o' (neC b o e hx) e1 (I.base.free b o e n hx)
 ·obtain ⟨o',e1⟩:=I.base.there b o e hx
  exact there b o' (neC b o e hx) e1
 ·obtain ⟨m1,e1⟩:=I.base.tbls b ps e
  obtain ⟨m2,e2⟩:=tbls b _ e1
  exact ⟨m1++m2,by rw [e2,Array.append_assoc]⟩
 ·obtain ⟨m,hn,hl⟩:=I.loc
  refine ⟨m,ns m hn,fun i x v e1 e2 e3=>?_⟩
  obtain ⟨u,r,l⟩:=hl i x v e1 e2 e3
  refine ⟨u,r,?_⟩
  rcases l with l | ⟨k,c,e,z⟩
  ·exact .inl l
  ·exact .inr ⟨k,c,e,cellK x c e _ z⟩
 ·obtain ⟨v,z⟩:=I.cell x c e
  exact ⟨v,cellK x c e v z⟩
 ·obtain ⟨m,⟨o,_,_,ho,_⟩,_⟩:=I.loc
  exact free _ o (fun z=>(hch _ z).2.1 rfl) ho I.free
 ·obtain ⟨v,o,ho,hd⟩:=I.cell x c e
  exact free c o (fun z=>(hch c z).2.2.1 x c e rfl) ho (I.freeC x c e)
 ·obtain ⟨e,n,ne,nf,d⟩:=I.pin p hp
  have nch:p.1∉ch:=fun z=>(hch p.1 z).2.2.2 p hp rfl
  exact ⟨keep p.1 p.2 ne nf nch e n,free p.1 p.2 nch e n,ne,nf,d⟩
theorem Inv.un {t':Nat} (I:Inv X pins σ H s) (u:Un X.fs [] H H' s.heap h') (hok:HOk X.prog X.w H' h'):Inv X pins σ H' { s with heap:=h',toks:=t' }:=by
 obtain ⟨m,⟨o,es,ep,ho,r⟩,_⟩:=id I.loc
 obtain ⟨sl,hL⟩:=u.any ho I.free (by simp)
 exact I.step (g':=s.gens) (d':=s.drawn) (ch:=[]) (fun _ z=>nomatch z) (fun b o _ hb _ e n=>u.keep b o e n hb (by simp)) (fun b o _ hb _ e n=>u.slot b o e n hb (by simp)) (fun b o _ e n=>u.free b o e n (by simp)) (fun b o _ e=>u.there b o e (by simp)) u.tups u.frzs u.tbls (fun m' hm=>by
  obtain ⟨o',es',ep',ho',r'⟩:=hm
  rw [ho] at ho';cases ho'
  exact ⟨_,es',ep',hL,r'⟩) hok I.bare
theorem Inv.call {g':Array GenState} {t':Nat} {d':Drawn} {ch:List Addr} (I:Inv X pins σ H s) (u:Un (frs X.stack) ch H H' s.heap h') (hok:HOk X.prog X.w H' h') (hg:AllBare g')
  (hch:∀b∈ch,(b∈X.ex\/X.s₀.heap.objs.size<=b)/\b≠X.env.locals/\(∀x c,X.env.cells.lookup x=some c->c≠b)/\∀p∈X.pn++pins,p.1≠b) :
  Inv X pins σ H' { s with heap:=h',gens:=g',drawn:=d',toks:=t' }:=by
 obtain ⟨m,⟨o,es,ep,ho,r⟩,_⟩:=id I.loc
 obtain ⟨sl,hL⟩:=u.any ho I.free fun z=>(hch _ z).2.1 rfl
 exact I.step (ch:=ch) hch (fun b o hL hb hc e n=>u.keep b o e n (fun z=>(List.mem_cons.mp (I.stkSub b z)).elim hL hb) hc) (fun b o _ _ hc e n=>u.any e n hc) (fun b o hc e n=>u.free b o e n hc) (fun b o hc e=>u.there b o e hc) u.tups u.frzs u.tbls (fun m' hm=>by
  obtain ⟨o',es',ep',ho',r'⟩:=hm
  rw [ho] at ho';cases ho'
  exact ⟨_,es',ep',hL,r'⟩) hok hg
theorem Inv.turned {t':Nat} {it:Addr} (I:Inv X pins σ H s) (k:∀b o,b≠it->s.heap.get? b=some o->h'.get? b=some o) (hn:H it=none) (hL:it≠X.env.locals)
  (h1:it∈X.ex\/X.s₀.heap.objs.size<=it) (h2:∀x c,X.env.cells.lookup x=some c->c≠it) (h3:∀p∈X.pn++pins,p.1≠it):Inv X pins σ H { s with heap:=h',toks:=t' }:=by
 have nit:∀b u,H b=some u->b≠it:=fun b u e z=>by rw [z,hn] at e;cases e
 refine I.step (g':=s.gens) (d':=s.drawn) (ch:=[it]) (fun b hb=>?_) (fun b o _ _ hc e _=>k b o (fun z=>hc (by simp [z])) e) (fun b o _ _ hc e _=>⟨o.slots,k b o (fun z=>hc (by simp [z])) e⟩) (fun _ _ _ _ n=>n)
  (fun b o hc e=>⟨o,k b o (fun z=>hc (by simp [z])) e⟩) (fun _ _ e=>e) (fun _ _ _ e=>e) (fun b ps e=>⟨#[],by rw [e];simp⟩) (fun m hm=>?_) (fun b u e=>?_) I.bare
 ·have e:b=it:=by simpa using hb
  subst e
  exact ⟨h1,hL,h2,h3⟩
 ·obtain ⟨o,es,ep,ho,r⟩:=hm
  exact ⟨o,es,ep,k _ o (Ne.symm hL) ho,r⟩
 ·refine (I.hok b u e).stay (fun c v hc q=>k c v ?_ q) (fun _ q=>q) fun _ _ q=>q
  rcases hc with z | z
  ·rw [z];exact nit b u e
  ·exact nit c _ z
theorem Inv.tok (I:Inv X pins σ H s) (t:Nat):Inv X pins σ H { s with toks:=t }:=I.un (h':=s.heap) (t':=t) Un.refl I.hok
theorem Inv.kept {t':Nat} (I:Inv X pins σ H s) (k:∀b u,s.heap.get? b=some u->h'.get? b=some u):Inv X pins σ H { s with heap:=h',toks:=t' }:=I.un (Un.kept k) (I.hok.kept k)
theorem Inv.laid {a:Addr} {o:HO} {t':Nat} (I:Inv X pins σ H s) (k:∀b u,s.heap.get? b=some u->h'.get? b=some u) (hp:s.heap.objs.size<=a) (new:ObjOk X.prog X.w (upd H a o) h' a o) :
  Inv X pins σ (upd H a o) { s with heap:=h',toks:=t' }:=I.un (Un.laid k hp (I.hok.fresh hp)) (I.hok.laid k hp new)
theorem Inv.write {x e:Addr} {o:HO} {t':Nat} (I:Inv X pins σ H s) (mu:Mut (H x)) (he:e=x\/H e=some (.own x)) (k:∀b u,b≠e->s.heap.get? b=some u->h'.get? b=some u) (heo:∃u,h'.get? e=some u)
  (new:ObjOk X.prog X.w (upd H x o) h' x o):Inv X pins σ (upd H x o) { s with heap:=h',toks:=t' }:=I.un (Un.write mu he k heo) (I.hok.write mu he k heo new)
theorem Inv.pins_of {pins':List (Addr×Obj)} (I:Inv X pins σ H s) (h:∀p∈pins',s.heap.get? p.1=some p.2/\H p.1=none/\p.1≠X.env.locals/\p.1∉X.fs/\∀v,p.2.data≠.cell v):Inv X pins' σ H s:=
 ⟨I.ok,I.os,I.bare,I.base,I.loc,I.cell,I.free,I.freeC,fun p hp=>(List.mem_append.mp hp).elim (fun z=>I.pin p (List.mem_append_left _ z)) (h p),I.hok,I.len⟩
theorem nodup_ix {N:List Str} (hN:N.Nodup) {i j:Nat} {x:Str} (a:N[i]? = some x) (b:N[j]? = some x):i=j:=by
 obtain ⟨h1,e1⟩:=List.getElem?_eq_some_iff.mp a
 obtain ⟨h2,e2⟩:=List.getElem?_eq_some_iff.mp b
 exact (List.getElem_inj hN).mp (e1.trans e2.symm)
theorem store_ok2 {M:Model} {A:Around} {E:Value->Shared->Prop} {i:Nat} {x:Str} {v:V} {u:Value} {Q:Unit->Shared->Prop} (I:Inv X pins σ H s) (hN:X.N.Nodup) (hi:X.N[i]? = some x) (hx:Loc X.env.scope x) (r:RelV v u)
  (h:∀s',Inv X pins (σ.set i (some v)) H s'->(∃a,Heap.SameBut a s.heap s'.heap/\(a=X.env.locals\/X.env.cells.lookup x=some a))->Q () s') (hf:X.fn x=true\/X.env.scope.names.lookup x=some .local:=by first | exact .inl rfl | exact .inr rfl | assumption):wpAny M A (storeName X.env x u) Q E s:=by
 obtain ⟨m,hn,hl⟩:=id I.loc
 have hcls:(X.env.scope.kind == .class || (X.env.scope.kind == .module && X.env.locals != X.env.globals))=false:=by rw [I.ok.kind];rfl
 have hiσ:i < σ.length:=by rw [I.len];exact (List.getElem?_eq_some_iff.mp hi).1
 have cne:=I.cne
 have tracked:∀{a:Addr} {h':Heap},(∃o,s.heap.get? a=some o/\H a=none)->Heap.SameBut a s.heap h'->HOk X.prog X.w H h':=fun {a h'} ha hs b ob e=>by
  obtain ⟨_,_,hfree⟩:=ha
  refine (I.hok b ob e).stay (fun c w' hc q=>(hs.2 c ?_).trans q) (fun _ q=>q) fun _ _ q=>q
  rintro rfl
  rcases hc with rfl | hc
  ·rw [hfree] at e;cases e
  ·rw [hfree] at hc;cases hc
 rcases hx with hk | hk
 ·refine wpAny_storeName_local hk hn (fun h' hn' hs=>?_) hcls
  obtain ⟨oL,_,_,hoL,_⟩:=id hn
  refine h _ ⟨I.ok,I.os,I.bare,⟨fun b o e n hb hx=>?_,fun b o e n hb hx=>?_,I.base.free,fun b o e hx=>?_,I.base.tups,I.base.frzs,I.base.tbls⟩,⟨_,hn',fun j y v' e1 e2 e3=>?_⟩,fun y c e=>?_,I.free,I.freeC,fun p hp=>?_,tracked ⟨oL,hoL,I.free⟩ hs,by simpa using I.len⟩ ⟨_,hs,.inl rfl⟩
  ·exact (hs.2 b (Nat.ne_of_lt (Nat.lt_of_lt_of_le (Heap.lt_size e) I.ok.above))).trans (I.base.keep b o e n hb hx)
  ·obtain ⟨sl,e1⟩:=I.base.slot b o e n hb hx
   exact ⟨sl,(hs.2 b (Nat.ne_of_lt (Nat.lt_of_lt_of_le (Heap.lt_size e) I.ok.above))).trans e1⟩
  ·obtain ⟨o',e1⟩:=I.base.there b o e hx
   exact ⟨o',(hs.2 b (Nat.ne_of_lt (Nat.lt_of_lt_of_le (Heap.lt_size e) I.ok.above))).trans e1⟩
  ·by_cases hj:j=i
   ·subst hj
    rw [hi] at e1;cases e1
    rw [List.getElem?_set_self hiσ] at e2
    cases e2
    exact ⟨u,r,.inl ⟨hk,by simp⟩⟩
   ·rw [List.getElem?_set_ne (Ne.symm hj)] at e2
    obtain ⟨u',r',q⟩:=hl j y v' e1 e2 e3
    refine ⟨u',r',?_⟩
    rcases q with ⟨k,e⟩ | ⟨k,c,e,z⟩
    ·refine .inl ⟨k,?_⟩
     have:y≠x:=fun e=>hj (nodup_ix hN e1 (e ▸ hi))
     simp [this,e]
    ·exact .inr ⟨k,c,e,z.sameBut hs (cne y c e)⟩
  ·obtain ⟨w',z⟩:=I.cell y c e
   exact ⟨w',z.sameBut hs (cne y c e)⟩
  ·obtain ⟨e,n,ne,nf,d⟩:=I.pin p hp
   exact ⟨(hs.2 p.1 ne).trans e,n,ne,nf,d⟩
 ·have hfn:X.fn x=true:=by
   rcases hf with z | z
   ·exact z
   ·rw [z] at hk;cases hk
  obtain ⟨c,hc⟩:=I.ok.has x (.inl hk)
  obtain ⟨w',z⟩:=I.cell x c hc
  refine wpAny_storeName_cell I.ok.kind hk hc z (fun h' hc' hs=>?_)
  obtain ⟨oc,hoc,hocd⟩:=id z
  refine h { s with heap:=h' } ⟨I.ok,I.os,I.bare,⟨fun b o e n hb hx=>?_,fun b o e n hb hx=>?_,I.base.free,fun b o e hx=>?_,I.base.tups,I.base.frzs,I.base.tbls⟩,⟨m,hn.sameBut hs (Ne.symm (cne x c hc)),fun j y v' e1 e2 e3=>?_⟩,fun y c' e=>?_,I.free,I.freeC,fun p hp=>?_,tracked ⟨oc,hoc,I.freeC x c hc⟩ hs,by simpa using I.len⟩ ⟨c,hs,.inr hc⟩
  ·exact (hs.2 b (Nat.ne_of_lt (Nat.lt_of_lt_of_le (Heap.lt_size e) (I.ok.cab x c hfn hc)))).trans (I.base.keep b o e n hb hx)
  ·obtain ⟨sl,e1⟩:=I.base.slot b o e n hb hx
   exact ⟨sl,(hs.2 b (Nat.ne_of_lt (Nat.lt_of_lt_of_le (Heap.lt_size e) (I.ok.cab x c hfn hc)))).trans e1⟩
  ·obtain ⟨o',e1⟩:=I.base.there b o e hx
   exact ⟨o',(hs.2 b (Nat.ne_of_lt (Nat.lt_of_lt_of_le (Heap.lt_size e) (I.ok.cab x c hfn hc)))).trans e1⟩
  ·by_cases hj:j=i
   ·subst hj
    rw [hi] at e1;cases e1
    rw [List.getElem?_set_self hiσ] at e2
    cases e2
    exact ⟨u,r,.inr ⟨.inl hk,c,hc,hc'⟩⟩
   ·rw [List.getElem?_set_ne (Ne.symm hj)] at e2
    obtain ⟨u',r',q⟩:=hl j y v' e1 e2 e3
    refine ⟨u',r',?_⟩
    rcases q with q | ⟨k,c',e,z'⟩
    ·exact .inl q
    ·refine .inr ⟨k,c',e,z'.sameBut hs ?_⟩
     rintro rfl
     exact hj (nodup_ix hN e1 (I.ok.inj _ _ _ e hc ▸ hi))
  ·by_cases hcc:c'=c
   ·subst hcc;exact ⟨_,hc'⟩
   ·obtain ⟨w2,z2⟩:=I.cell y c' e
    exact ⟨w2,z2.sameBut hs hcc⟩
  ·obtain ⟨e,n,ne,nf,d⟩:=I.pin p hp
   refine ⟨(hs.2 p.1 ?_).trans e,n,ne,nf,d⟩
   intro q
   rw [q,hoc] at e
   have q':oc=p.2:=Option.some.inj e
   exact d w' (by rw [<-q'];exact hocd)
theorem store_ok {M:Model} {A:Around} {E:Value->Shared->Prop} {i:Nat} {x:Str} {v:V} {u:Value} {Q:Unit->Shared->Prop} (I:Inv X pins σ H s) (hN:X.N.Nodup) (hi:X.N[i]? = some x) (hx:Loc X.env.scope x) (r:RelV v u)
  (h:∀s',Inv X pins (σ.set i (some v)) H s'->Q () s') (hf:X.fn x=true\/X.env.scope.names.lookup x=some .local:=by first | exact .inl rfl | exact .inr rfl | assumption):wpAny M A (storeName X.env x u) Q E s:=
 store_ok2 I hN hi hx r (fun s' I' _=>h s' I') hf
theorem Inv.call' {s':Shared} {ch:List Addr} (I:Inv X pins σ H s) (ho:s'.os=s.os) (u:Un (frs X.stack) ch H H' s.heap s'.heap) (hok:HOk X.prog X.w H' s'.heap) (hg:AllBare s'.gens)
  (hch:∀b∈ch,(b∈X.ex\/X.s₀.heap.objs.size<=b)/\b≠X.env.locals/\(∀x c,X.env.cells.lookup x=some c->c≠b)/\∀p∈X.pn++pins,p.1≠b):Inv X pins σ H' s':=by
 obtain ⟨h',g',d',t',o'⟩:=s'
 have e:o'=s.os:=ho
 subst e
 exact I.call (g':=g') (t':=t') (d':=d') u hok hg hch
end
abbrev XK:=Value->Option Addr->Hp->Prop
abbrev St:=List (Option V)
abbrev VK:=V->Hp->Prop
abbrev TE:=St->Hp->VK->Prop
abbrev TT:=St->Hp->(Bool->Hp->Prop)->Prop
abbrev TA:=St->Hp->(List V->Hp->Prop)->Prop
structure Ends where
 nx:St->Hp->Prop
 rt:VK
 bk:St->Hp->Prop:=fun _ _=>False
 ct:St->Hp->Prop:=fun _ _=>False
abbrev TS:=Ends->St->Hp->Prop
def EP (X:Cx) (pins:List (Addr×Obj)) (σ:St) (Q:VK) (u:Value) (s':Shared):Prop:=∃v H',Inv X pins σ H' s'/\RelV v u/\Q v H'
def TP (X:Cx) (pins:List (Addr×Obj)) (σ:St) (Q:Bool->Hp->Prop) (b:Bool) (s':Shared):Prop:=∃H',Inv X pins σ H' s'/\Q b H'
def AP (X:Cx) (pins:List (Addr×Obj)) (σ:St) (Q:List V->Hp->Prop) (us:List Value) (s':Shared):Prop:=∃vs H',Inv X pins σ H' s'/\Vals vs us/\Q vs H'
def SP (X:Cx) (pins:List (Addr×Obj)) (D:Ends) (f:Flow) (s':Shared):Prop:=
 match f with
 | .next=>∃σ' H',Inv X pins σ' H' s'/\D.nx σ' H'
 | .brk=>∃σ' H',Inv X pins σ' H' s'/\D.bk σ' H'
 | .cont=>∃σ' H',Inv X pins σ' H' s'/\D.ct σ' H'
 | .ret u=>∃v σ' H',Inv X pins σ' H' s'/\RelV v u/\D.rt v H'
def PE (X:Cx) (e:Expr) (t:TE):Prop:=
 ∀(pins:List (Addr×Obj)) (s:Shared) (σ:St) (H:Hp) (Q:VK),Inv X pins σ H s->t σ H Q->wpAny (model X.prog X.w) X.A (eval e X.env) (EP X pins σ Q) X.xe s
def PT (X:Cx) (e:Expr) (t:TT):Prop:=
 ∀(pins:List (Addr×Obj)) (s:Shared) (σ:St) (H:Hp) (Q:Bool->Hp->Prop),Inv X pins σ H s->t σ H Q->wpAny (model X.prog X.w) X.A (isTrue e X.env (eval e X.env)) (TP X pins σ Q) X.xe s
def PW (X:Cx) (e:Expr) (t:TT):Prop:=
 ∀(whole:Sem Value) (pins:List (Addr×Obj)) (s:Shared) (σ:St) (H:Hp) (Q:Bool->Hp->Prop),Inv X pins σ H s->t σ H Q->wpAny (model X.prog X.w) X.A (isTrue e X.env whole) (TP X pins σ Q) X.xe s
theorem PW.pt {X:Cx} {e:Expr} {t:TT} (h:PW X e t):PT X e t:=h _
def PA (X:Cx) (es:List Expr) (t:TA):Prop:=
 ∀(pos:Pos) (pins:List (Addr×Obj)) (s:Shared) (σ:St) (H:Hp) (Q:List V->Hp->Prop),Inv X pins σ H s->t σ H Q->wpAny (model X.prog X.w) X.A (spliced (backTo pos (starEach es X.env))) (AP X pins σ Q) X.xe s
def PS (X:Cx) (st:Stmt) (t:TS):Prop:=
 ∀(pins:List (Addr×Obj)) (s:Shared) (σ:St) (H:Hp) (D:Ends),Inv X pins σ H s->t D σ H->wpAny (model X.prog X.w) X.A (exec st X.env) (SP X pins D) X.xe s
def PSs (X:Cx) (st:List Stmt) (t:TS):Prop:=
 ∀(pins:List (Addr×Obj)) (s:Shared) (σ:St) (H:Hp) (D:Ends),Inv X pins σ H s->t D σ H->wpAny (model X.prog X.w) X.A (execs st X.env) (SP X pins D) X.xe s
theorem thn {α:Type} {t:Sem α} {Q Q':α->Shared->Prop} {M:Model} {A:Around} {E:Value->Shared->Prop} {s:Shared} (h:wpAny M A t Q E s) (hQ:∀a s,Q a s->Q' a s):wpAny M A t Q' E s:=wpAny_mono h hQ fun _ _ x=>x
end L2
namespace L2
open PySem PySem.Spec PyProof.Rows
section
variable {X:Cx}
theorem bin {a b:Expr} {ta tb:TE} (ha:PE X a ta) (hb:PE X b tb) {pins:List (Addr×Obj)} {s:Shared} {σ:St} {H:Hp} {R:V->V->Hp->Prop} (I:Inv X pins σ H s) (h:ta σ H fun x H1=>tb σ H1 fun y H2=>R x y H2)
  {α:Type} {Q:α->Shared->Prop} {f:Value->Value->Sem α}
  (hf:∀v u s2 x y H2,Inv X pins σ H2 s2->RelV x v->RelV y u->R x y H2->wpAny (model X.prog X.w) X.A (f v u) Q X.xe s2) :
  wpAny (model X.prog X.w) X.A (eval a X.env) (fun v s₁=>wpAny (model X.prog X.w) X.A (eval b X.env) (fun u s₂=>wpAny (model X.prog X.w) X.A (f v u) Q X.xe s₂) X.xe s₁) X.xe s:=by
 refine thn (ha pins s σ H _ I h) fun v s1 ⟨x,H1,I1,r1,q1⟩=>?_
 refine thn (hb pins s1 σ H1 _ I1 q1) fun u s2 ⟨y,H2,I2,r2,q2⟩=>?_
 exact hf v u s2 x y H2 I2 r1 r2 q2
def tVar (i:Nat):TE:=fun σ H Q=>∃v,σ[i]? = some (some v)/\Q v H
def tC (v:V):TE:=fun _ H Q=>Q v H
theorem pe_var {i:Nat} {x:Str} {pos:Pos} (hN:X.N[i]? = some x) (hv:Vis X.env.scope x) (hd:(x == ("__debug__" : Str))=false:=by decide) (hcd:(x == ("__classdict__" : Str))=false:=by decide):PE X (.Name x pos) (tVar i):=by
 intro pins s σ H Q I h
 obtain ⟨v,e,h⟩:=h
 obtain ⟨m,hn,hl⟩:=I.loc
 obtain ⟨u,r,l⟩:=hl i x v hN e hv
 have fin:EP X pins σ Q u s:=⟨v,H,I,r,h⟩
 rcases l with ⟨hk,hm⟩ | ⟨hk,c,hc,hcell⟩
 ·exact wpAny_Name (wpAny_loadName_local I.ok.kind hk hn hm fin) hd
 ·rcases hk with hk | hk
  ·exact wpAny_Name (wpAny_loadName_cell I.ok.kind hk hc hcell fin) hd
  ·exact wpAny_Name (wpAny_loadName_free I.ok.kind hk hc hcell fin hcd) hd
theorem pe_int {i j pos}:PE X (.Constant (.int i) j pos) (tC (.int i)):=fun _ _ _ H _ I h=>wpAny_Constant_int ⟨.int i,H,I.tok _,⟨_,rfl⟩,h⟩
theorem pe_bl {b j pos}:PE X (.Constant (.bool b) j pos) (tC (.bl b)):=fun _ _ _ H _ I h=>Constant_bool ⟨.bl b,H,I,rfl,h⟩
theorem pe_non {j pos}:PE X (.Constant .none j pos) (tC .non):=fun _ _ _ H _ I h=>Constant_none ⟨.non,H,I,rfl,h⟩
theorem pe_str {x j pos}:PE X (.Constant (.str x) j pos) (tC (.str x)):=fun _ _ _ H _ I h=>Calls.Constant_str ⟨.str x,H,I.tok _,⟨_,rfl⟩,h⟩
def Gl (X:Cx) (x:Str):Prop:=X.env.kindOf x=some .globalImplicit
theorem ld_glob {E:Value->Shared->Prop} {pins:List (Addr×Obj)} {s:Shared} {σ:St} {H:Hp} {x:Str} {u:Value} {pos:Pos} {Q:Value->Shared->Prop} (I:Inv X pins σ H s) (hg:Gl X x) (hm:X.mg x=some u) (h:Q u s)
  (hd:(x == ("__debug__" : Str))=false:=by decide):wpAny (model X.prog X.w) X.A (eval (.Name x pos) X.env) Q E s:=
 Calls.Name_function_global I.ok.kind hg (Calls.loadGlobal_global (by rw [I.ok.glob];exact I.mod.glob.keeps I.bk) hm h) hd
theorem ld_blt {E:Value->Shared->Prop} {pins:List (Addr×Obj)} {s:Shared} {σ:St} {H:Hp} {x:Str} {u:Value} {pos:Pos} {Q:Value->Shared->Prop} (I:Inv X pins σ H s) (hg:Gl X x) (hm:X.mg x=none) (hv:bootBuiltins x=some u) (h:Q u s)
  (hn:x≠"__name__":=by decide) (hd:(x == ("__debug__" : Str))=false:=by decide):wpAny (model X.prog X.w) X.A (eval (.Name x pos) X.env) Q E s:=by
 obtain ⟨mb,h1,h2⟩:=I.mod.blt
 exact Calls.Name_function_global I.ok.kind hg (Calls.loadGlobal_builtin (by rw [I.ok.glob];exact I.mod.glob.keeps I.bk) hm (by rw [I.ok.blt];exact h1.keeps I.bk) ((h2 x hn).trans hv) h) hd
theorem pe_bltn {x:Str} {v:V} {u:Value} {pos:Pos} (hg:Gl X x) (hm:X.mg x=none) (hv:bootBuiltins x=some u) (r:RelV v u) (hn:x≠"__name__":=by decide) (hd:(x == ("__debug__" : Str))=false:=by decide):PE X (.Name x pos) (tC v):=
 fun _ _ _ H _ I h=>ld_blt I hg hm hv ⟨v,H,I,r,h⟩ hn hd
variable {a b:Expr} {ta tb:TE} {pos:Pos}
def PC (X:Cx) (op:CmpOp) (a b:Expr) (t:TE):Prop:=
 ∀(pins:List (Addr×Obj)) (s:Shared) (σ:St) (H:Hp) (Q:VK),Inv X pins σ H s->t σ H Q->
  wpAny (model X.prog X.w) X.A (eval a X.env) (fun v s₁=>wpAny (model X.prog X.w) X.A (eval b X.env) (fun u s₂=>wpAny (model X.prog X.w) X.A (compareOp op v u) (EP X pins σ Q) X.xe s₂) X.xe s₁) X.xe s
theorem nobehind (b:Expr) {op:CmpOp} (h:op≠.In) (h2:op≠.NotIn):behindInMarks op b=false:=by
 have e1:(op == CmpOp.In)=false:=by cases op <;> first | rfl | exact absurd rfl h
 have e2:(op == CmpOp.NotIn)=false:=by cases op <;> first | rfl | exact absurd rfl h2
 cases b <;> simp [behindInMarks,e1,e2]
def tB (t:TE):TT:=fun σ H Q=>t σ H fun x H1=>∃c,x=.bl c/\Q c H1
theorem pt_cmp {op:CmpOp} {t:TE} (h:PC X op a b t) (h1:behindInMarks op b=false:=by first | exact nobehind _ (by decide) (by decide) | rfl):PT X (.Compare a [op] [b] pos) (tB t):=by
 intro pins s σ H Q I hw
 refine wpAny_isTrue_Compare1 (thn (h pins s σ H _ I hw) fun v s1 h1=>thn h1 fun u s2 h2=>thn h2 fun c s3 ⟨x,H1,I1,r1,q1⟩=>?_) h1
 obtain ⟨d,rfl,q⟩:=q1
 cases r1
 exact wpAny_truthy_bool ⟨H1,I1,q⟩
theorem pt_val {e:Expr} {t:TE} (h:PE X e t) (he:∀whole,isTrue e X.env whole=(do let v <-whole;standAt e.pos;holding [v] (truthy v)):=by intro _;rfl):PT X e (tB t):=by
 intro pins s σ H Q I hw
 refine isTrue_plain (thn (h pins s σ H _ I hw) fun v s1 ⟨x,H1,I1,r1,q1⟩=>?_) (he _)
 obtain ⟨d,rfl,q⟩:=q1
 cases r1
 exact wpAny_truthy_bool ⟨H1,I1,q⟩
variable {tA tB':TT} {rest:List Expr}
def tAnd (t u:TT):TT:=fun σ H Q=>t σ H fun c H1=>if c=true then u σ H1 Q else Q false H1
def tOr (t u:TT):TT:=fun σ H Q=>t σ H fun c H1=>if c=true then Q true H1 else u σ H1 Q
def tNot (t:TT):TT:=fun σ H Q=>t σ H fun c H1=>Q (!c) H1
theorem pw_and1 (ha:PT X a tA):PW X (.BoolOp .And [a] pos) tA:=by
 intro wh pins s σ H Q I h
 refine isTrue_and (thn (ha pins s σ H Q I h) fun c s1 e=>?_)
 cases c with
 | true=>exact isTrue_and_nil e
 | false=>exact e
theorem pw_or1 (ha:PT X a tA):PW X (.BoolOp .Or [a] pos) tA:=by
 intro wh pins s σ H Q I h
 refine isTrue_or (thn (ha pins s σ H Q I h) fun c s1 e=>?_)
 cases c with
 | false=>exact isTrue_or_nil e
 | true=>exact e
theorem pw_and (ha:PT X a tA) (hb:PW X (.BoolOp .And (b::rest) pos) tB'):PW X (.BoolOp .And (a::b::rest) pos) (tAnd tA tB'):=by
 intro wh pins s σ H Q I h
 refine isTrue_and (thn (ha pins s σ H _ I h) fun c s1 ⟨H1,I1,q1⟩=>?_)
 cases c with
 | true=>exact hb wh pins s1 σ H1 Q I1 q1
 | false=>exact ⟨H1,I1,q1⟩
theorem pw_or (ha:PT X a tA) (hb:PW X (.BoolOp .Or (b::rest) pos) tB'):PW X (.BoolOp .Or (a::b::rest) pos) (tOr tA tB'):=by
 intro wh pins s σ H Q I h
 refine isTrue_or (thn (ha pins s σ H _ I h) fun c s1 ⟨H1,I1,q1⟩=>?_)
 cases c with
 | true=>exact ⟨H1,I1,q1⟩
 | false=>exact hb wh pins s1 σ H1 Q I1 q1
theorem pt_not (ha:PT X a tA):PT X (.UnaryOp .Not a pos) (tNot tA):=by
 intro pins s σ H Q I h
 exact isTrue_not (ha pins s σ H (fun c H1=>Q (!c) H1) I h)
def tAndV (ta tb:TE):TE:=fun σ H Q=>ta σ H fun x H1=>∃c,x=.bl c/\if c=true then tb σ H1 Q else Q (.bl false) H1
def tOrV (ta tb:TE):TE:=fun σ H Q=>ta σ H fun x H1=>∃c,x=.bl c/\if c=true then Q (.bl true) H1 else tb σ H1 Q
def tNotV (ta:TE):TE:=fun σ H Q=>ta σ H fun x H1=>∃c,x=.bl c/\Q (.bl (!c)) H1
theorem pe_one {op} {t:TE} (h:PE X a t):PE X (.BoolOp op [a] pos) t:=fun pins s σ H Q I hw=>BoolOp_one (h pins s σ H Q I hw)
theorem pe_and (ha:PE X a ta) (hb:PE X (.BoolOp .And (b::rest) pos) tb):PE X (.BoolOp .And (a::b::rest) pos) (tAndV ta tb):=by
 intro pins s σ H Q I h
 refine BoolOp_and (thn (ha pins s σ H _ I h) fun v s1 ⟨x,H1,I1,r1,q1⟩=>?_)
 obtain ⟨c,rfl,q1⟩:=q1
 cases r1
 refine wpAny_truthy_bool ?_
 cases c with
 | true=>exact hb pins s1 σ H1 Q I1 q1
 | false=>exact ⟨.bl false,H1,I1,rfl,q1⟩
theorem pe_not (ha:PE X a ta):PE X (.UnaryOp .Not a pos) (tNotV ta):=by
 intro pins s σ H Q I h
 refine UnaryOp_ (thn (ha pins s σ H _ I h) fun v s1 ⟨x,H1,I1,r1,q1⟩=>?_)
 obtain ⟨c,rfl,q1⟩:=q1
 cases r1
 exact not_of (wpAny_truthy_bool ⟨.bl (!c),H1,I1,rfl,q1⟩)
def tIf (t:TT) (ta tb:TE):TE:=fun σ H Q=>t σ H fun c H1=>if c=true then ta σ H1 Q else tb σ H1 Q
end
end L2
namespace L2
open PySem PySem.Spec PyProof.Rows
def SqL (K:PySem.W.Frag) (H:Hp) (a:Addr) (xs:List V):Prop:=
 Rd H a (.lst xs)\/
  ∃(o:Obj) (its:Array Value) (n:Nat),K.lookup a=some o/\o.cls=.type "list"/\o.dict=none/\o.data=.seq its n/\its.size<=sizeLine/\Vals xs its.toList
def SqT (K:PySem.W.Frag) (H:Hp) (a:Addr) (xs:List V):Prop:=
 Rd H a (.tup xs)\/
  ∃(o:Obj) (its:Array Value) (n:Nat),K.lookup a=some o/\o.cls=.type "tuple"/\o.data=.seq its n/\its.size<=sizeLine/\Vals xs its.toList
def absV:Value->Option V
 | .none=>some .non
 | .bool b=>some (.bl b)
 | .int i _=>some (.int i)
 | .str x _=>some (.str x)
 | .bytes b _=>some (.byt b)
 | .float b _=>some (.flt b)
 | .ref a=>some (.ref a)
 | .type n=>some (.ty n)
 | _=>none
theorem RelV.abs {x:V} {u:Value} (r:RelV x u):absV u=some x:=by
 cases x with
 | non=>cases r;rfl
 | bl _=>cases r;rfl
 | int _=>obtain ⟨t,rfl⟩:=r;rfl
 | str _=>obtain ⟨t,rfl⟩:=r;rfl
 | byt _=>obtain ⟨t,rfl⟩:=r;rfl
 | flt _=>obtain ⟨t,rfl⟩:=r;rfl
 | ref _=>cases r;rfl
 | ty _=>cases r;rfl
theorem RelV.inj {x y:V} {u:Value} (r:RelV x u) (q:RelV y u):x=y:=Option.some.inj (r.abs.symm.trans q.abs)
theorem Vals.inj:∀{xs ys:List V} {us:List Value},Vals xs us->Vals ys us->xs=ys
 | _,_,_,.nil,.nil=>rfl
 | _,_,_,.cons r t,.cons r' t'=>by rw [r.inj r',Vals.inj t t']
section
variable {X:Cx} {pins:List (Addr×Obj)} {σ:St} {H:Hp} {s:Shared} {a:Addr} {xs ys:List V}
theorem SqL.of {K:PySem.W.Frag} (h:H a=some (.lst xs)):SqL K H a xs:=.inl (.inl h)
theorem SqT.of {K:PySem.W.Frag} (h:H a=some (.tup xs)):SqT K H a xs:=.inl (.inl h)
theorem Inv.list (I:Inv X pins σ H s) (h:SqL X.K H a xs):∃its:List Value,Vals xs its/\PlainL s.heap a its.toArray/\xs.length<=sizeLine:=by
 rcases h with h | ⟨o,its,n,hk,hc,hd,hs,hz,r⟩
 ·obtain ⟨z,its,n,r,e⟩:=h.ok I.hok
  exact ⟨its,r,⟨_,n,e,rfl,rfl,rfl⟩,z⟩
 ·refine ⟨its.toList,r,⟨o,n,I.kIn a o hk,hc,hd,by simpa using hs⟩,?_⟩
  have e:=r.length
  simp only [Array.length_toList] at e
  lia
theorem Inv.tuple (I:Inv X pins σ H s) (h:SqT X.K H a xs):∃its:List Value,Vals xs its/\IsTup s.heap a its.toArray/\xs.length<=sizeLine:=by
 rcases h with h | ⟨o,its,n,hk,hc,hs,hz,r⟩
 ·obtain ⟨z,its,r,p⟩:=h.ok I.hok
  exact ⟨its,r,p,z⟩
 ·refine ⟨its.toList,r,⟨o,I.kIn a o hk,hc,n,by simpa using hs⟩,?_⟩
  have e:=r.length
  simp only [Array.length_toList] at e
  lia
theorem Inv.list_inj (I:Inv X pins σ H s) (h:SqL X.K H a xs) (h':SqL X.K H a ys):xs=ys:=by
 obtain ⟨its,r,⟨o,n,e,_,_,d⟩,_⟩:=I.list h
 obtain ⟨its',r',⟨o',n',e',_,_,d'⟩,_⟩:=I.list h'
 rw [e] at e';cases e'
 rw [d] at d'
 injection d' with d1 _
 have:its=its':=by simpa using congrArg Array.toList d1
 subst this
 exact r.inj r'
theorem Inv.tuple_inj (I:Inv X pins σ H s) (h:SqT X.K H a xs) (h':SqT X.K H a ys):xs=ys:=by
 obtain ⟨its,r,⟨o,e,_,n,d⟩,_⟩:=I.tuple h
 obtain ⟨its',r',⟨o',e',_,n',d'⟩,_⟩:=I.tuple h'
 rw [e] at e';cases e'
 rw [d] at d'
 injection d' with d1 _
 have:its=its':=by simpa using congrArg Array.toList d1
 subst this
 exact r.inj r'
end
abbrev Cx.wish (X:Cx) (E:Value->Shared->Prop):Cx:={ X with xe:=E }
abbrev Cx.nox (X:Cx):Cx:=X.wish fun _ _=>False
theorem Cx.Ok.wish {X:Cx} (ok:X.Ok) (E:Value->Shared->Prop):(X.wish E).Ok:=
 ⟨ok.mod,ok.kind,ok.glob,ok.blt,ok.above,ok.inj,ok.has,ok.cab,ok.hd,ok.frames,ok.stk,ok.exf,ok.bs,ok.bsz,ok.noex,ok.exfs,ok.funs,ok.frf⟩
theorem Cx.Ok.unwish {X:Cx} {E:Value->Shared->Prop} (ok:(X.wish E).Ok):X.Ok:=
 ⟨ok.mod,ok.kind,ok.glob,ok.blt,ok.above,ok.inj,ok.has,ok.cab,ok.hd,ok.frames,ok.stk,ok.exf,ok.bs,ok.bsz,ok.noex,ok.exfs,ok.funs,ok.frf⟩
section
variable {X:Cx} {pins:List (Addr×Obj)} {σ:St} {H:Hp} {s:Shared} {E:Value->Shared->Prop}
theorem Inv.wish (I:Inv X pins σ H s) (E:Value->Shared->Prop):Inv (X.wish E) pins σ H s:=⟨I.ok.wish E,I.os,I.bare,I.base,I.loc,I.cell,I.free,I.freeC,I.pin,I.hok,I.len⟩
theorem Inv.unwish (I:Inv (X.wish E) pins σ H s):Inv X pins σ H s:=⟨I.ok.unwish,I.os,I.bare,I.base,I.loc,I.cell,I.free,I.freeC,I.pin,I.hok,I.len⟩
theorem SP.unwish {D:Ends} {f:Flow} {s':Shared} (h:SP (X.wish E) pins D f s'):SP X pins D f s':=by
 cases f with
 | next=>obtain ⟨σ',H',I,q⟩:=h;exact ⟨σ',H',I.unwish,q⟩
 | brk=>obtain ⟨σ',H',I,q⟩:=h;exact ⟨σ',H',I.unwish,q⟩
 | cont=>obtain ⟨σ',H',I,q⟩:=h;exact ⟨σ',H',I.unwish,q⟩
 | ret u=>obtain ⟨v,σ',H',I,r,q⟩:=h;exact ⟨v,σ',H',I.unwish,r,q⟩
theorem PSs.nox {st:List Stmt} {t:TS} (h:PSs X.nox st t):PSs X st t:=fun pins s σ H D I hw=>
 wpAny_mono (h pins s σ H D (I.wish _) hw) (fun _ _ q=>q.unwish) fun _ _ z=>False.elim z
end
section
variable {X:Cx} {st:Stmt} {rest:List Stmt} {t u:TS} {e:Expr} {te:TE} {pos:Pos}
def tNext:TS:=fun D σ H=>D.nx σ H
def tSeq (t u:TS):TS:=fun D σ H=>t { D with nx:=u D } σ H
theorem pss_nil:PSs X [] tNext:=fun _ _ σ H _ I h=>wpAny_execs_nil ⟨σ,H,I,h⟩
theorem pss_cons (h1:PS X st t) (h2:PSs X rest u):PSs X (st::rest) (tSeq t u):=by
 intro pins s σ H D I h
 refine wpAny_execs_cons (thn (h1 pins s σ H { D with nx:=u D } I h) fun f s1 q=>?_)
 cases f with
 | next=>
  obtain ⟨σ',H',I',q⟩:=q
  exact h2 pins s1 σ' H' D I' q
 | ret v=>exact q
 | brk=>exact q
 | cont=>exact q
theorem pss_one (h1:PS X st t):PSs X [st] t:=by
 intro pins s σ H D I h
 refine wpAny_execs_cons (thn (h1 pins s σ H D I h) fun f s1 q=>?_)
 cases f with
 | next=>exact wpAny_execs_nil q
 | ret v=>exact q
 | brk=>exact q
 | cont=>exact q
theorem Inv.quiet {pins:List (Addr×Obj)} {σ:St} {H:Hp} {s:Shared} (I:Inv X pins σ H s):interactive X.env=false:=by simp [interactive,I.ok.kind]
def tDrop (te:TE):TS:=fun D σ H=>te σ H fun _ H1=>D.nx σ H1
theorem ps_expr (he:PE X e te) (hs:swapsWith e none pos.line X.env=pure false:=by rfl):PS X (.Expr e pos) (tDrop te):=by
 intro pins s σ H D I h
 exact wpAny_Expr_any (thn (he pins s σ H _ I h) fun v s1 ⟨x,H1,I1,r1,q1⟩=>⟨σ,H1,I1,q1⟩) I.quiet hs
def tRet (te:TE):TS:=fun D σ H=>te σ H D.rt
theorem ps_ret (he:PE X e te):PS X (.Return (some e) pos) (tRet te):=by
 intro pins s σ H D I h
 exact wpAny_Return_some (thn (he pins s σ H _ I h) fun v s1 ⟨x,H1,I1,r1,q1⟩=>⟨x,σ,H1,I1,r1,q1⟩)
def tRetN:TS:=fun D _ H=>D.rt .non H
def tIfS (c:TT) (t u:TS):TS:=fun D σ H=>c σ H fun b H1=>if b=true then t D σ H1 else u D σ H1
theorem ps_if {c:Expr} {a b:List Stmt} {tc:TT} (hc:PT X c tc) (ha:PSs X a t) (hb:PSs X b u):PS X (.If c a b pos) (tIfS tc t u):=by
 intro pins s σ H D I h
 refine wpAny_If (thn (hc pins s σ H _ I h) fun d s1 ⟨H1,I1,q1⟩=>?_)
 cases d with
 | true=>exact ha pins s1 σ H1 D I1 q1
 | false=>exact hb pins s1 σ H1 D I1 q1
def tNever:TS:=fun _ _ _=>False
end
abbrev TG:=V->St->Hp->(St->Hp->Prop)->Prop
abbrev TGs:=List V->St->Hp->(St->Hp->Prop)->Prop
def PG (X:Cx) (target:Expr) (t:TG):Prop:=
 ∀(pins:List (Addr×Obj)) (s:Shared) (σ:St) (H:Hp) (v:V) (u:Value) (Q:St->Hp->Prop),Inv X pins σ H s->RelV v u->t v σ H Q->
  wpAny (model X.prog X.w) X.A (assign target X.env u) (fun _ s'=>∃σ' H',Inv X pins σ' H' s'/\Q σ' H') X.xe s
def PGs (X:Cx) (ts:List Expr) (t:TGs):Prop:=
 ∀(pins:List (Addr×Obj)) (s:Shared) (σ:St) (H:Hp) (vs:List V) (us:List Value) (Q:St->Hp->Prop),Inv X pins σ H s->Vals vs us->t vs σ H Q->
  wpAny (model X.prog X.w) X.A (assignInOrder ((assignEach ts X.env).map (·.2)) us) (fun _ s'=>∃σ' H',Inv X pins σ' H' s'/\Q σ' H') X.xe s
abbrev TSet:=V->V->V->Hp->(Hp->Prop)->Prop
def PSet (X:Cx) (t:TSet):Prop:=
 ∀(pins:List (Addr×Obj)) (s:Shared) (σ:St) (H:Hp) (o i v:V) (ov iv u:Value) (Q:Hp->Prop),Inv X pins σ H s->RelV o ov->RelV i iv->RelV v u->t o i v H Q->
  wpAny (model X.prog X.w) X.A (setItem ov iv u) (fun _ s'=>∃H',Inv X pins σ H' s'/\Q H') X.xe s
abbrev TIp:=V->V->Hp->VK->Prop
def PIp (X:Cx) (op:Operator) (t:TIp):Prop:=
 ∀(pins:List (Addr×Obj)) (s:Shared) (σ:St) (H:Hp) (x y:V) (v u:Value) (Q:VK),Inv X pins σ H s->RelV x v->RelV y u->t x y H Q->
  wpAny (model X.prog X.w) X.A (inplaceOp op v u) (EP X pins σ Q) X.xe s
section
variable {X:Cx} {pos:Pos}
def gName (i:Nat):TG:=fun v σ H Q=>Q (σ.set i (some v)) H
theorem pg_name {i:Nat} {x:Str} (hN:X.N.Nodup) (hi:X.N[i]? = some x) (hx:Loc X.env.scope x) (hf:X.fn x=true\/X.env.scope.names.lookup x=some .local:=by first | exact .inl rfl | exact .inr rfl | assumption):PG X (.Name x pos) (gName i):=by
 intro pins s σ H v u Q I r h
 exact wpAny_assign_Name (store_ok I hN hi hx r (fun s' I'=>⟨_,H,I',h⟩) hf)
def gNil:TGs:=fun vs σ H Q=>vs=[]/\Q σ H
def gCons (t:TG) (u:TGs):TGs:=fun vs σ H Q=>∃v r,vs=v::r/\t v σ H fun σ' H'=>u r σ' H' Q
theorem pgs_nil:PGs X [] gNil:=by
 intro pins s σ H vs us Q I r h
 obtain ⟨e,h⟩:=h
 subst e
 cases r
 exact assignInOrder_nil ⟨σ,H,I,h⟩
theorem pgs_cons {e:Expr} {es:List Expr} {t:TG} {u:TGs} (h1:PG X e t) (h2:PGs X es u)
  (hs:(assignEach (e::es) X.env).map (·.2)=assign e X.env::(assignEach es X.env).map (·.2):=by rfl):PGs X (e::es) (gCons t u):=by
 intro pins s σ H vs us Q I r h
 obtain ⟨v,vr,e1,h⟩:=h
 subst e1
 cases r with
 | cons r rr=>
  rw [hs]
  refine assignInOrder_cons (thn (h1 pins s σ H _ _ _ I r h) fun _ s1 ⟨σ1,H1,I1,q1⟩=>?_)
  exact h2 pins s1 σ1 H1 _ _ Q I1 rr q1
def gTup (K:PySem.W.Frag) (n:Nat) (t:TGs):TG:=fun v σ H Q=>∃a xs,v=.ref a/\SqT K H a xs/\xs.length=n/\t xs σ H Q
theorem pg_tup {es:List Expr} {k:Nat} {t:TGs} {n:Nat} (hc:X.calm=true) (h:PGs X es t)
  (hn:(assignEach es X.env).length=n:=by rfl) (hst:(assignEach es X.env).findIdx? (·.1)=none:=by rfl):PG X (.Tuple es k pos) (gTup X.K n t):=by
 intro pins s σ H v u Q I r hw
 obtain ⟨a,xs,e1,hq,hl,hw⟩:=hw
 subst e1
 cases r
 obtain ⟨its,rv,ht,hz⟩:=I.tuple hq
 refine assign_Tuple_tuple (I.ok.hd hc) ht (by simp [hn,<-hl,rv.length]) hst fun h' hx=>?_
 have I1:Inv X pins σ H { s with heap:=h' }:=I.kept (t':=s.toks) fun b o e=>hx b o (Nat.ne_of_lt (Heap.lt_size e)) e
 exact h pins _ σ H xs _ Q I1 (by simpa using rv) hw
def gSub (to ti:TE) (t:TSet):TG:=fun v σ H Q=>to σ H fun o H1=>ti σ H1 fun i H2=>t o i v H2 fun H3=>Q σ H3
theorem pg_sub {o i:Expr} {to ti:TE} {t:TSet} (ho:PE X o to) (hi:PE X i ti) (hs:PSet X t)
  (ha:∀v,assign (.Subscript o i pos) X.env v=(do
   let ov <-holding [v] (eval o X.env)
   let iv <-holding [v,ov] (eval i X.env)
   standAt pos
   holding [v,ov,iv] (setItem ov iv v)
   release [v,ov,iv] []):=by intro _;rfl):PG X (.Subscript o i pos) (gSub to ti t):=by
 intro pins s σ H v u Q I r h
 rw [ha]
 refine wpAny_bind (wpAny_holding (thn (ho pins s σ H _ I h) fun ov s1 ⟨x,H1,I1,r1,q1⟩=>?_))
 refine wpAny_bind (wpAny_holding (thn (hi pins s1 σ H1 _ I1 q1) fun iv s2 ⟨y,H2,I2,r2,q2⟩=>?_))
 refine wpAny_bind (wpAny_standAt (wpAny_bind (wpAny_holding (thn (hs pins s2 σ H2 x y v ov iv u _ I2 r1 r2 r q2) fun _ s3 ⟨H3,I3,q3⟩=>?_))))
 exact wpAny_release ⟨σ,H3,I3,q3⟩
def tAsg (te:TE) (g:TG):TS:=fun D σ H=>te σ H fun x H1=>g x σ H1 D.nx
theorem ps_asg {tg e:Expr} {te:TE} {g:TG} (he:PE X e te) (hg:PG X tg g) (hs:swapsWithSole [tg] e pos.line X.env=pure false:=by rfl) (hw:swappedStores [tg] e X.env=pure none:=by rfl)
  (h1:(assignEach [tg] X.env).map (·.2)=[assign tg X.env]:=by rfl):PS X (.Assign [tg] e pos) (tAsg te g):=by
 intro pins s σ H D I h
 refine wpAny_Assign_stores (thn (he pins s σ H _ I h) fun v s1 ⟨x,H1,I1,r1,q1⟩=>?_) hs hw
 rw [h1]
 exact thn (hg pins s1 σ H1 x v _ I1 r1 q1) fun _ s2 q=>q
theorem ps_set {i:Nat} {x:Str} {e:Expr} {te:TE} {pos':Pos} (hN:X.N.Nodup) (hi:X.N[i]? = some x) (hx:Loc X.env.scope x) (he:PE X e te) (hs:swapsWith e (some (.Name x pos')) pos.line X.env=pure false:=by rfl) (hf:X.fn x=true\/X.env.scope.names.lookup x=some .local:=by first | exact .inl rfl | exact .inr rfl | assumption) :
  PS X (.Assign [.Name x pos'] e pos) (tAsg te (gName i)):=by
 intro pins s σ H D I h
 refine wpAny_Assign_Name (thn (he pins s σ H _ I h) fun v s1 ⟨y,H1,I1,r1,q1⟩=>?_) hs
 exact store_ok I1 hN hi hx r1 (fun s2 I2=>⟨_,H1,I2,q1⟩) hf
def tAug (i:Nat) (te:TE) (ti:TIp):TS:=fun D σ H=>∃x,σ[i]? = some (some x)/\te σ H fun y H1=>ti x y H1 fun z H2=>D.nx (σ.set i (some z)) H2
theorem ps_aug {i:Nat} {x:Str} {e:Expr} {te:TE} {op:Operator} {ti:TIp} {pos':Pos} (hN:X.N.Nodup) (hi:X.N[i]? = some x) (hx:Loc X.env.scope x) (he:PE X e te) (ho:PIp X op ti) (hf:X.fn x=true\/X.env.scope.names.lookup x=some .local:=by first | exact .inl rfl | exact .inr rfl | assumption) :
  PS X (.AugAssign (.Name x pos') op e pos) (tAug i te ti):=by
 intro pins s σ H D I h
 obtain ⟨v,e1,h⟩:=h
 obtain ⟨m,hn,hl⟩:=I.loc
 have vis:Vis X.env.scope x:=by rcases hx with k | k;exact .inl k;exact .inr (.inl k)
 obtain ⟨u,r,l⟩:=hl i x v hi e1 vis
 refine wpAny_AugAssign_Name ?_
 have go:wpAny (model X.prog X.w) X.A (eval e X.env) (fun w s₂=>wpAny (model X.prog X.w) X.A (inplaceOp op u w) (fun r s₃=>wpAny (model X.prog X.w) X.A (storeName X.env x r) (fun _=>SP X pins D .next) X.xe s₃) X.xe s₂) X.xe s:=by
  refine thn (he pins s σ H _ I h) fun w s1 ⟨y,H1,I1,r1,q1⟩=>?_
  refine thn (ho pins s1 σ H1 v y u w _ I1 r r1 q1) fun z s2 ⟨zv,H2,I2,r2,q2⟩=>?_
  exact store_ok I2 hN hi hx r2 (fun s3 I3=>⟨_,H2,I3,q2⟩) hf
 rcases l with ⟨hk,hm⟩ | ⟨hk,c,hc,hcell⟩
 ·exact wpAny_loadName_local I.ok.kind hk hn hm go
 ·rcases hk with hk | hk
  ·exact wpAny_loadName_cell I.ok.kind hk hc hcell go
  ·rcases hx with k | k
   ·have:X.env.scope.names.lookup x=some .free:=hk
    rw [k] at this;cases this
   ·have:X.env.scope.names.lookup x=some .free:=hk
    rw [k] at this;cases this
def tAugS (to ti te:TE) (tget:V->V->Hp->VK->Prop) (tip:TIp) (tset:TSet):TS:=fun D σ H=>to σ H fun o H1=>ti σ H1 fun i H2=>tget o i H2 fun x H3=>te σ H3 fun y H4=>tip x y H4 fun z H5=>tset o i z H5 fun H6=>D.nx σ H6
def PGet (X:Cx) (t:V->V->Hp->VK->Prop):Prop:=
 ∀(pins:List (Addr×Obj)) (s:Shared) (σ:St) (H:Hp) (o i:V) (ov iv:Value) (Q:VK),Inv X pins σ H s->RelV o ov->RelV i iv->t o i H Q->
  wpAny (model X.prog X.w) X.A (getItem ov iv) (EP X pins σ Q) X.xe s
theorem ps_augS {o i e:Expr} {to ti te:TE} {tget:V->V->Hp->VK->Prop} {tip:TIp} {tset:TSet} {op:Operator} {tpos:Pos} (ho:PE X o to) (hi:PE X i ti) (hg:PGet X tget) (he:PE X e te) (hp:PIp X op tip) (hs:PSet X tset)
  (ha:∀ov iv new,augStore i ov iv new=(do holding [new,ov,iv] (setItem ov iv new);release [new,ov,iv] [];pure .next):=by intros;rfl):PS X (.AugAssign (.Subscript o i tpos) op e pos) (tAugS to ti te tget tip tset):=by
 intro pins s σ H D I h
 refine wpAny_AugAssign_SubscriptAny (thn (ho pins s σ H _ I h) fun ov s1 ⟨x1,H1,I1,r1,q1⟩=>?_) ha
 refine thn (hi pins s1 σ H1 _ I1 q1) fun iv s2 ⟨x2,H2,I2,r2,q2⟩=>?_
 refine thn (hg pins s2 σ H2 x1 x2 ov iv _ I2 r1 r2 q2) fun old s3 ⟨x3,H3,I3,r3,q3⟩=>?_
 refine thn (he pins s3 σ H3 _ I3 q3) fun v s4 ⟨x4,H4,I4,r4,q4⟩=>?_
 refine thn (hp pins s4 σ H4 x3 x4 old v _ I4 r3 r4 q4) fun new s5 ⟨x5,H5,I5,r5,q5⟩=>?_
 exact thn (hs pins s5 σ H5 x1 x2 x5 ov iv new _ I5 r1 r2 r5 q5) fun _ s6 ⟨H6,I6,q6⟩=>⟨σ,H6,I6,q6⟩
def ipI (f:Int->Int->Int):TIp:=fun x y H Q=>∃i j,x=.int i/\y=.int j/\Q (.int (f i j)) H
theorem ip_add:PIp X .Add (ipI fun i j=>i+j):=by
 intro pins s σ H x y v u Q I r1 r2 h
 obtain ⟨i,j,e1,e2,q⟩:=h
 subst e1;subst e2
 obtain ⟨t,rfl⟩:=r1
 obtain ⟨t',rfl⟩:=r2
 exact iadd_int ⟨.int _,H,I.tok _,⟨_,rfl⟩,q⟩
theorem ip_sub:PIp X .Sub (ipI fun i j=>i - j):=by
 intro pins s σ H x y v u Q I r1 r2 h
 obtain ⟨i,j,e1,e2,q⟩:=h
 subst e1;subst e2
 obtain ⟨t,rfl⟩:=r1
 obtain ⟨t',rfl⟩:=r2
 exact isub_int ⟨.int _,H,I.tok _,⟨_,rfl⟩,q⟩
end
section
variable {X:Cx} {pos:Pos}
def tWhile (c:TT) (tb:TS):TS:=fun D σ H=>∃W:Nat->St->Hp->Prop,(∃m,W m σ H)/\∀m σ H,W m σ H->
 c σ H fun b H1=>if b=true then ∃N:St->Hp->Prop,(∀σ' H',N σ' H'->∃m',m' < m/\W m' σ' H')/\tb { D with nx:=N,ct:=N,bk:=D.nx } σ H1 else D.nx σ H1
theorem ps_while {c:Expr} {body:List Stmt} {tc:TT} {tb:TS} (hp:PassesOwn (model X.prog X.w) X.A X.env X.xe) (hc:PT X c tc) (hb:PSs X body tb):PS X (.While c body [] pos) (tWhile tc tb):=by
 intro pins s σ H D I h
 obtain ⟨W,⟨m0,w0⟩,turn⟩:=h
 refine wpAny_While (codeAny_whileLoop (fun n s'=>∃σ' H',Inv X pins σ' H' s'/\W n σ' H') ?_ m0 ⟨σ,H,I,w0⟩)
 rintro n s1 ⟨σ1,H1,I1,w1⟩
 refine wpAny_passesOwn hp (thn (hc pins s1 σ1 H1 _ I1 (turn n σ1 H1 w1)) fun b s2 ⟨H2,I2,q2⟩=>?_)
 cases b with
 | true=>
  obtain ⟨N,hN,q2⟩:=q2
  rw [if_pos rfl]
  refine wpAny_passesOwn hp (thn (hb pins s2 σ1 H2 _ I2 q2) fun f s3 q3=>?_)
  cases f with
  | next=>
   obtain ⟨σ3,H3,I3,n3⟩:=q3
   obtain ⟨m',hm,w3⟩:=hN σ3 H3 n3
   exact ⟨m',hm,σ3,H3,I3,w3⟩
  | cont=>
   obtain ⟨σ3,H3,I3,n3⟩:=q3
   obtain ⟨m',hm,w3⟩:=hN σ3 H3 n3
   exact ⟨m',hm,σ3,H3,I3,w3⟩
  | brk=>exact q3
  | ret v=>exact q3
 | false=>
  rw [if_neg Bool.false_ne_true]
  exact wpAny_execs_nil ⟨σ1,H2,I2,q2⟩
end
structure It where
 go:Nat->Hp->Prop
 yld:Nat->Hp->V->Hp->Prop
 stop:Nat->Hp->Prop
def FpOk (X:Cx) (pins:List (Addr×Obj)) (H:Hp) (b:Addr):Prop:=
 H b=none/\b≠X.env.locals/\b∉X.fs/\(b∈X.ex\/X.s₀.heap.objs.size<=b)/\(∀x c,X.env.cells.lookup x=some c->c≠b)/\∀p∈X.pn++pins,p.1≠b
theorem Inv.fpOk {X:Cx} {pins:List (Addr×Obj)} {σ:St} {H H':Hp} {s:Shared} {b:Addr} (I:Inv X pins σ H s) (hb:s.heap.objs.size<=b) (hn:H' b=none):FpOk X pins H' b:=by
 refine ⟨hn,Nat.ne_of_gt (Nat.lt_of_lt_of_le I.lt hb),I.nofs hb,.inr (Nat.le_trans I.sz hb),fun x c e z=>?_,fun p hp z=>?_⟩
 ·obtain ⟨v,q⟩:=I.cell x c e
  exact absurd (Nat.lt_of_lt_of_le q.lt (by rw [z];exact hb)) (Nat.lt_irrefl _)
 ·exact absurd (Nat.lt_of_lt_of_le (Heap.lt_size (I.pin p hp).1) (by rw [z];exact hb)) (Nat.lt_irrefl _)
structure Turn (P:Program) (w:World) (K:PySem.W.Frag) (tg:Expr) (J:It) (fp:List Addr) (it:Addr) (tn:Nat->Heap->Prop):Prop where
 mem:it∈fp
 obj:∀i h,tn i h->∀b∈fp,∃o,h.get? b=some o/\∀v,o.data≠.cell v
 keep:∀i h h',tn i h->(∀b∈fp,∀o,h.get? b=some o->h'.get? b=some o)->tn i h'
 item:∀(X:Cx),X.prog=P->X.w=w->X.K=K->X.calm=true->∀(i:Nat) (pins:List (Addr×Obj)) (s:Shared) (σ:St) (H:Hp) (E:Value->Shared->Prop),Inv X pins σ H s->(∀b∈fp,FpOk X pins H b)->tn i s.heap->J.go i H->
  wpAny (model P w) X.A (pyNext (.ref it)) (fun r s1=>∃u,r=some u/\
   wpAny (model P w) X.A (letOwnedTupleGo tg (.ref it) u) (fun _ s2=>∃x H',Inv X pins σ H' s2/\RelV x u/\J.yld i H x H'/\tn (i+1) s2.heap/\∀b∈fp,H' b=none) E s1) E s
 done:∀(X:Cx),X.prog=P->X.w=w->X.K=K->X.calm=true->∀(i:Nat) (pins:List (Addr×Obj)) (s:Shared) (σ:St) (H:Hp) (E:Value->Shared->Prop),Inv X pins σ H s->(∀b∈fp,FpOk X pins H b)->tn i s.heap->J.stop i H->
  wpAny (model P w) X.A (pyNext (.ref it)) (fun r s1=>r=none/\Inv X pins σ H s1) E s
 self:∀(A:Around) (i:Nat) (s:Shared) (Q:Value->Shared->Prop) (E:Value->Shared->Prop),tn i s.heap->Q (.ref it) s->wpAny (model P w) A (pyIter (.ref it)) Q E s
abbrev TI:=St->Hp->(It->Hp->Prop)->Prop
def PIE (X:Cx) (pins:List (Addr×Obj)) (σ:St) (tg:Expr) (R:It->Hp->Prop) (itv:Value) (s2:Shared):Prop:=
 ∃(it:Addr) (fp:List Addr) (tn:Nat->Heap->Prop) (J:It) (H':Hp),itv=.ref it/\Inv X pins σ H' s2/\Turn X.prog X.w X.K tg J fp it tn/\tn 0 s2.heap/\(∀b∈fp,FpOk X pins H' b)/\R J H'
def PI (X:Cx) (tg iter:Expr) (wi:TI):Prop:=
 ∀(pins:List (Addr×Obj)) (s:Shared) (σ:St) (H:Hp) (R:It->Hp->Prop),Inv X pins σ H s->wi σ H R->
  wpAny (model X.prog X.w) X.A (eval iter X.env) (fun v s1=>wpAny (model X.prog X.w) X.A (pyIter v) (PIE X pins σ tg R) X.xe s1) X.xe s
theorem go_of {M : Model} {A : Around} {E : Value → Shared → Prop} {s : Shared} {tg : Expr} {it : Addr} {u : Value} {o : Obj} {n : String} {vs : Array Value} {Q : Unit → Shared → Prop} (ho : s.heap.get? it = some o) (hc : o.cls = .type n) (hd : o.data = .fields vs)
    (hn : ["enumerate", "zip", "dict_itemiterator", "dict_reverseitemiterator", "odict_iterator", "itertools.zip_longest", "itertools.pairwise"].contains n = false) (hQ : Q () s) : wpAny M A (letOwnedTupleGo tg (.ref it) u) Q E s := by
  unfold letOwnedTupleGo
  cases tg <;> first
    | exact wpAny_pure hQ
    | (cases u <;> first
        | exact wpAny_pure hQ
        | (refine wpAny_bind (wpAny_load ho ?_)
           rw [hc, hd]
           show wpAny M A (if (["enumerate", "zip", "dict_itemiterator", "dict_reverseitemiterator", "odict_iterator", "itertools.zip_longest", "itertools.pairwise"].contains n && vs[0]? == some (rawInt _)) = true then _ else _) Q E s
           rw [if_neg (by intro h; rw [hn, Bool.false_and] at h; cases h)]
           exact wpAny_pure hQ))
def Itl (K:PySem.W.Frag) (a:Addr):It:=
 ⟨fun i H=>∃xs x,SqL K H a xs/\xs[i]? = some x,fun i H x H'=>H'=H/\∀xs,SqL K H a xs->xs[i]? = some x,fun i H=>∃xs,SqL K H a xs/\xs.length<=i⟩
def Itt (K:PySem.W.Frag) (a:Addr):It:=
 ⟨fun i H=>∃xs x,SqT K H a xs/\xs[i]? = some x,fun i H x H'=>H'=H/\∀xs,SqT K H a xs->xs[i]? = some x,fun i H=>∃xs,SqT K H a xs/\xs.length<=i⟩
def Itr (lo:Int) (n:Nat):It:=⟨fun i _=>i < n,fun i H x H'=>H'=H/\x=.int (lo+i),fun i _=>n<=i⟩
theorem turn_list {P:Program} {w:World} {K:PySem.W.Frag} {tg:Expr} (a it:Addr):Turn P w K tg (Itl K a) [it] it (fun i h=>h.IsListIter it a i) where
 mem:=by simp
 obj:=fun i h st b hb=>by
  have e:b=it:=by simpa using hb
  subst e
  obtain ⟨o,e,c,d⟩:=st
  exact ⟨o,e,fun v z=>by rw [d] at z;cases z⟩
 keep:=fun i h h' st k=>st.at fun o e=>k it (by simp) o e
 item:=by
  intro X hP hw hK hc i pins s σ H E I hf st hg
  subst hP hw hK
  obtain ⟨xs,x,hq,hx⟩:=hg
  obtain ⟨its,rv,p,hz⟩:=I.list hq
  obtain ⟨u,hu,ru⟩:=rv.get hx
  obtain ⟨f0,f1,f2,f3,f4,f5⟩:=hf it (by simp)
  refine wpAny_pyNext_list_item st p.isList (x:=u) (by simpa using hu) fun h' st' sb=>?_
  have I1:Inv X pins σ H { s with heap:=h' }:=I.turned (t':=s.toks) (fun b o hb e=>(sb.2 b hb).trans e) f0 f1 f3 f4 f5
  obtain ⟨o,e,c,d⟩:=id st'
  exact ⟨u,rfl,go_of (s:={ s with heap:=h' }) e c d (by decide) ⟨x,H,I1,ru,⟨rfl,fun ys hy=>by rw [I.list_inj hy hq];exact hx⟩,st',fun b hb=>(hf b hb).1⟩⟩
 done:=by
  intro X hP hw hK hc i pins s σ H E I hf st hg
  subst hP hw hK
  obtain ⟨xs,hq,hx⟩:=hg
  obtain ⟨its,rv,p,hz⟩:=I.list hq
  obtain ⟨f0,f1,f2,f3,f4,f5⟩:=hf it (by simp)
  have hl:=rv.length
  exact wpAny_pyNext_list_end (I.ok.hd hc) st p.isList (by simp;lia) fun h' eb=>⟨rfl,I.turned (t':=s.toks) (fun b o hb e=>eb b o hb e) f0 f1 f3 f4 f5⟩
 self:=fun _ _ _ _ _ st h=>wpAny_pyIter_listiter st h
theorem turn_tuple {P:Program} {w:World} {K:PySem.W.Frag} {tg:Expr} (a it:Addr):Turn P w K tg (Itt K a) [it] it (fun i h=>h.IsTupleIter it a i) where
 mem:=by simp
 obj:=fun i h st b hb=>by
  have e:b=it:=by simpa using hb
  subst e
  obtain ⟨o,e,c,d⟩:=st
  exact ⟨o,e,fun v z=>by rw [d] at z;cases z⟩
 keep:=fun i h h' st k=>st.at fun o e=>k it (by simp) o e
 item:=by
  intro X hP hw hK hc i pins s σ H E I hf st hg
  subst hP hw hK
  obtain ⟨xs,x,hq,hx⟩:=hg
  obtain ⟨its,rv,p,hz⟩:=I.tuple hq
  obtain ⟨u,hu,ru⟩:=rv.get hx
  obtain ⟨f0,f1,f2,f3,f4,f5⟩:=hf it (by simp)
  refine wpAny_pyNext_tuple_item st (show s.heap.IsTuple a its.toArray from p) (x:=u) (by simpa using hu) fun h' st' sb=>?_
  have I1:Inv X pins σ H { s with heap:=h' }:=I.turned (t':=s.toks) (fun b o hb e=>(sb.2 b hb).trans e) f0 f1 f3 f4 f5
  obtain ⟨o,e,c,d⟩:=id st'
  exact ⟨u,rfl,go_of (s:={ s with heap:=h' }) e c d (by decide) ⟨x,H,I1,ru,⟨rfl,fun ys hy=>by rw [I.tuple_inj hy hq];exact hx⟩,st',fun b hb=>(hf b hb).1⟩⟩
 done:=by
  intro X hP hw hK hc i pins s σ H E I hf st hg
  subst hP hw hK
  obtain ⟨xs,hq,hx⟩:=hg
  obtain ⟨its,rv,p,hz⟩:=I.tuple hq
  obtain ⟨f0,f1,f2,f3,f4,f5⟩:=hf it (by simp)
  have hl:=rv.length
  exact wpAny_pyNext_tuple_end (I.ok.hd hc) st (show s.heap.IsTuple a its.toArray from p) (by simp;lia) fun h' eb=>⟨rfl,I.turned (t':=s.toks) (fun b o hb e=>eb b o hb e) f0 f1 f3 f4 f5⟩
 self:=fun _ _ _ _ _ st h=>wpAny_pyIter_tupleiter st h
theorem turn_range {P:Program} {w:World} {K:PySem.W.Frag} {tg:Expr} (it:Addr) (lo:Int) (n:Nat):Turn P w K tg (Itr lo n) [it] it (fun i h=>IsRangeIter h it (lo+(i:Nat) * 1) ((n:Int) - (i:Nat)) 1) where
 mem:=by simp
 obj:=fun i h st b hb=>by
  have e:b=it:=by simpa using hb
  subst e
  exact ⟨_,st,fun v z=>by
   have z':Data.fields _=Data.cell v:=z
   cases z'⟩
 keep:=fun i h h' st k=>k it (by simp) _ st
 item:=by
  intro X hP hw hK hc i pins s σ H E I hf st hg
  subst hP hw hK
  obtain ⟨f0,f1,f2,f3,f4,f5⟩:=hf it (by simp)
  have W:=Walks.range (prog:=X.prog) (w:=X.w) (I.ok.hd hc) it lo 1 n
  refine W.item i s _ _ hg st fun v h' tk hv st' kk=>?_
  obtain ⟨t,rfl⟩:=hv
  have I1:Inv X pins σ H { s with heap:=h',toks:=tk }:=I.turned (fun b o hb e=>kk b o (by simpa using hb) e) f0 f1 f3 f4 f5
  refine ⟨_,rfl,go_of (s:={ s with heap:=h',toks:=tk }) (n:="range_iterator") st' rfl rfl (by decide) ⟨.int (lo+i),H,I1,⟨t,?_⟩,⟨rfl,rfl⟩,st',fun b hb=>(hf b hb).1⟩⟩
  rw [Int.mul_one]
 done:=by
  intro X hP hw hK hc i pins s σ H E I hf st hg
  subst hP hw hK
  obtain ⟨f0,f1,f2,f3,f4,f5⟩:=hf it (by simp)
  exact wpAny_pyNext_range_end (I.ok.hd hc) st (by have:n<=i:=hg;lia) fun h' eb=>⟨rfl,I.turned (t':=s.toks) (fun b o hb e=>eb b o hb e) f0 f1 f3 f4 f5⟩
 self:=fun _ _ _ _ _ st h=>wpAny_pyIter_rangeiter st h
end L2
namespace L2
open PySem PySem.Spec PyProof.Rows
section
variable {X:Cx} {tg:Expr}
def iList (K:PySem.W.Frag) (tl:TE):TI:=fun σ H R=>tl σ H fun x H1=>∃a,x=.ref a/\(∃xs,SqL K H1 a xs)/\R (Itl K a) H1
def iTup (K:PySem.W.Frag) (tl:TE):TI:=fun σ H R=>tl σ H fun x H1=>∃a,x=.ref a/\(∃xs,SqT K H1 a xs)/\R (Itt K a) H1
theorem pi_list {l:Expr} {tl:TE} (hl:PE X l tl):PI X tg l (iList X.K tl):=by
 intro pins s σ H R I h
 refine thn (hl pins s σ H _ I h) fun v s1 ⟨x,H1,I1,r1,q1⟩=>?_
 obtain ⟨a,e,⟨xs,hq⟩,q⟩:=q1
 subst e
 cases r1
 obtain ⟨its,rv,p,hz⟩:=I1.list hq
 refine wpAny_pyIter_list p.isList ?_
 refine ⟨s1.heap.objs.size,[s1.heap.objs.size],_,_,H1,rfl,I1.kept (t':=s1.toks) fun b o e=>Heap.get?_push_of_some _ e,turn_list a _,⟨_,Heap.get?_push_size _ rfl,rfl,rfl⟩,fun b hb=>?_,q⟩
 have e:b=s1.heap.objs.size:=by simpa using hb
 subst e
 exact I1.fpOk (Nat.le_refl _) (I1.hok.fresh (Nat.le_refl _))
theorem pi_tup {l:Expr} {tl:TE} (hl:PE X l tl):PI X tg l (iTup X.K tl):=by
 intro pins s σ H R I h
 refine thn (hl pins s σ H _ I h) fun v s1 ⟨x,H1,I1,r1,q1⟩=>?_
 obtain ⟨a,e,⟨xs,hq⟩,q⟩:=q1
 subst e
 cases r1
 obtain ⟨its,rv,p,hz⟩:=I1.tuple hq
 refine wpAny_pyIter_tuple (show s1.heap.IsTuple a its.toArray from p) ?_
 refine ⟨s1.heap.objs.size,[s1.heap.objs.size],_,_,H1,rfl,I1.kept (t':=s1.toks) fun b o e=>Heap.get?_push_of_some _ e,turn_tuple a _,⟨_,Heap.get?_push_size _ rfl,rfl,rfl⟩,fun b hb=>?_,q⟩
 have e:b=s1.heap.objs.size:=by simpa using hb
 subst e
 exact I1.fpOk (Nat.le_refl _) (I1.hok.fresh (Nat.le_refl _))
theorem range_it {pins:List (Addr×Obj)} {σ:St} {H:Hp} {s:Shared} {R:It->Hp->Prop} {E:Value->Shared->Prop} {lo hi:Int} {t u v:Tok} {tk:Nat} (I:Inv X pins σ H s) (h1 : -(2 ^ 62)<=lo) (h2:lo < 2 ^ 62) (h3 : -(2 ^ 62)<=hi) (h4:hi < 2 ^ 62)
  (q:R (Itr lo (hi - lo).toNat) H):wpAny (model X.prog X.w) X.A (pyIter (.ref s.heap.objs.size)) (PIE X pins σ tg R) E { s with heap:=s.heap.push { cls:=.type "range",data:=.fields #[.int lo t,.int hi u,.int 1 v] },toks:=tk }:=by
 refine wpAny_pyIter_range (IsRange.new ..) (small_one h1 h2 h3 h4) ?_
 have I1:Inv X pins σ H { s with heap:=s.heap.push { cls:=.type "range",data:=.fields #[.int lo t,.int hi u,.int 1 v] },toks:=tk }:=I.kept fun b o e=>Heap.get?_push_of_some _ e
 refine ⟨(s.heap.push { cls:=.type "range",data:=.fields #[.int lo t,.int hi u,.int 1 v] }).objs.size,[(s.heap.push { cls:=.type "range",data:=.fields #[.int lo t,.int hi u,.int 1 v] }).objs.size],_,_,H,rfl,
  I1.kept (t':=tk) fun b o e=>Heap.get?_push_of_some _ e,turn_range _ lo (hi - lo).toNat,?_,fun b hb=>?_,q⟩
 ·have e1:lo+((0:Nat):Int) * 1=lo:=by simp
  have e2:(((hi - lo).toNat:Nat):Int) - ((0:Nat):Int)=Builtin.Range.rangeSize lo hi 1:=by rw [rangeSize_one];split <;> lia
  show IsRangeIter _ _ (lo+((0:Nat):Int) * 1) ((((hi - lo).toNat:Nat):Int) - ((0:Nat):Int)) 1
  rw [e1,e2]
  exact Heap.get?_push_size _ rfl
 ·have e:b=(s.heap.push { cls:=.type "range",data:=.fields #[.int lo t,.int hi u,.int 1 v] }).objs.size:=by simpa using hb
  subst e
  exact I1.fpOk (Nat.le_refl _) (I1.hok.fresh (Nat.le_refl _))
def iRng1 (ta:TA):TI:=fun σ H R=>ta σ H fun vs H1=>∃j:Int,vs=[.int j]/\-(2 ^ 62)<=j/\j < 2 ^ 62/\R (Itr 0 j.toNat) H1
def iRng2 (ta:TA):TI:=fun σ H R=>ta σ H fun vs H1=>∃i j:Int,vs=[.int i,.int j]/\(-(2 ^ 62)<=i/\i < 2 ^ 62/\-(2 ^ 62)<=j/\j < 2 ^ 62)/\R (Itr i (j - i).toNat) H1
theorem pi_range1 {a:Expr} {ta:TA} {p pos:Pos} (hg:Gl X "range") (hm:X.mg "range" = none) (ha:PA X [a] ta) (hs:starEach [a] X.env=[(false,eval a X.env)]:=by rfl):PI X tg (.Call (.Name "range" p) [a] [] pos) (iRng1 ta):=by
 intro pins s σ H R I h
 refine Call_ (ld_blt I hg hm boot_range (PyProof.Rows.callWith_type1 (thn (ha pos pins s σ H _ I h) fun us s1 ⟨vs,H1,I1,r1,q1⟩=>?_) hs rfl))
 obtain ⟨j,e,q1,q2,q⟩:=q1
 subst e
 cases r1 with
 | cons r rr=>
  cases rr
  obtain ⟨t,rfl⟩:=r
  exact call_range_1 (range_it I1 (by lia) (by lia) q1 q2 (by simpa using q))
theorem pi_range2 {a b:Expr} {ta:TA} {p pos:Pos} (hg:Gl X "range") (hm:X.mg "range" = none) (ha:PA X [a,b] ta) (hs:starEach [a,b] X.env=[(false,eval a X.env),(false,eval b X.env)]:=by rfl) (hs2:starEach [b] X.env=[(false,eval b X.env)]:=by rfl) :
  PI X tg (.Call (.Name "range" p) [a,b] [] pos) (iRng2 ta):=by
 intro pins s σ H R I h
 refine Call_ (ld_blt I hg hm boot_range (PyProof.Rows.callWith_type1 (thn (ha pos pins s σ H _ I h) fun us s1 ⟨vs,H1,I1,r1,q1⟩=>?_) (by rw [hs,hs2]) (by rw [hs2];rfl)))
 obtain ⟨i,j,e,⟨q1,q2,q3,q4⟩,q⟩:=q1
 subst e
 cases r1 with
 | cons r rr=>
  cases rr with
  | cons r' rr=>
   cases rr
   obtain ⟨t,rfl⟩:=r
   obtain ⟨t',rfl⟩:=r'
   exact call_range_2 (range_it I1 q1 q2 q3 q4 q)
def tFor (wi:TI) (g:TG) (tb:TS):TS:=fun D σ H=>wi σ H fun J H1=>∃W:Nat->Nat->St->Hp->Prop,(∃m,W 0 m σ H1)/\∀i m σ H,W i m σ H->
 (J.stop i H/\D.nx σ H)\/(J.go i H/\∃N:St->Hp->Prop,(∀σ' H',N σ' H'->∃m',m' < m/\W (i+1) m' σ' H')/\∀x H',J.yld i H x H'->g x σ H' fun σ2 H2=>tb { D with nx:=N,ct:=N,bk:=D.nx } σ2 H2)
def pinsAt (fp:List Addr) (h:Heap):List (Addr×Obj):=fp.filterMap fun b=>(h.get? b).map fun o=>(b,o)
theorem mem_pinsAt {fp:List Addr} {h:Heap} {b:Addr} {o:Obj} (hb:b∈fp) (e:h.get? b=some o):(b,o)∈pinsAt fp h:=List.mem_filterMap.mpr ⟨b,hb,by rw [e];rfl⟩
theorem of_pinsAt {fp:List Addr} {h:Heap} {p:Addr×Obj} (hp:p∈pinsAt fp h):p.1∈fp/\h.get? p.1=some p.2:=by
 obtain ⟨b,hb,e⟩:=List.mem_filterMap.mp hp
 cases q:h.get? b with
 | none=>rw [q] at e;cases e
 | some o=>
  rw [q] at e
  have e':(b,o)=p:=Option.some.inj e
  subst e'
  exact ⟨hb,q⟩
theorem Inv.pinned {pins:List (Addr×Obj)} {σ:St} {H:Hp} {s:Shared} {fp:List Addr} (I:Inv X pins σ H s) (hf:∀b∈fp,FpOk X pins H b) (ho:∀b∈fp,∃o,s.heap.get? b=some o/\∀v,o.data≠.cell v):Inv X (pins++pinsAt fp s.heap) σ H s:=
 I.pins_of fun p hp=>(List.mem_append.mp hp).elim (fun z=>I.pin p (List.mem_append_right _ z)) fun z=>by
  obtain ⟨hb,e⟩:=of_pinsAt z
  obtain ⟨f0,f1,f2,_⟩:=hf p.1 hb
  obtain ⟨o,e',d⟩:=ho p.1 hb
  rw [e] at e';cases e'
  exact ⟨e,f0,f1,f2,d⟩
theorem Inv.unpinned {pins pl:List (Addr×Obj)} {σ:St} {H:Hp} {s:Shared} (I:Inv X (pins++pl) σ H s):Inv X pins σ H s:=I.pins_of fun p hp=>I.pin p (List.mem_append_right _ (List.mem_append_left _ hp))
theorem ps_for {iter:Expr} {body:List Stmt} {wi:TI} {g:TG} {tb:TS} {pos:Pos} (hp:PassesOwn (model X.prog X.w) X.A X.env X.xe) (hc:X.calm=true) (hi:PI X tg iter wi) (hg:PG X tg g) (hb:PSs X body tb)
  (hs:∀x,foldedSetIterable iter X.env x=pure x:=by intro _;rfl):PS X (.For tg iter body [] pos) (tFor wi g tb):=by
 intro pins s σ H D I h
 refine wpAny_For (thn (hi pins s σ H _ I h) fun v s1 h1=>thn h1 fun itv s2 h2=>?_) hs
 obtain ⟨it,fp,tn,J,H2,e,I2,T,st2,f2,W,⟨m0,w0⟩,turn⟩:=h2
 subst e
 have stat:∀{H':Hp},(∀b∈fp,H' b=none)->∀b∈fp,FpOk X pins H' b:=fun hn b hb=>⟨hn b hb,(f2 b hb).2⟩
 refine codeAny_forLoop_any (fun n s'=>∃i σ' H',Inv X pins σ' H' s'/\tn i s'.heap/\(∀b∈fp,H' b=none)/\W i n σ' H') ?_ m0 ⟨0,σ,H2,I2,st2,fun b hb=>(f2 b hb).1,w0⟩
 rintro n s3 ⟨i,σ3,H3,I3,st3,fr3,w3⟩
 rcases turn i n σ3 H3 w3 with ⟨stop,qn⟩ | ⟨go,N,hN,step⟩
 ·refine wpAny_passesOwn hp (thn (T.done X rfl rfl rfl hc i pins s3 σ3 H3 X.xe I3 (stat fr3) st3 stop) fun r s4 ⟨hr,I4⟩=>?_)
  subst hr
  exact wpAny_execs_nil ⟨σ3,H3,I4,qn⟩
 ·refine wpAny_passesOwn hp (thn (T.item X rfl rfl rfl hc i pins s3 σ3 H3 X.xe I3 (stat fr3) st3 go) fun r s4 ⟨u,hr,h4⟩=>?_)
  subst hr
  refine wpAny_passesOwn hp (thn h4 fun _ s5 ⟨x,H5,I5,r5,y5,st5,fr5⟩=>?_)
  have I5':=I5.pinned (stat fr5) (T.obj _ _ st5)
  refine wpAny_passesOwn hp (thn (hg _ s5 σ3 H5 x u _ I5' r5 (step x H5 y5)) fun _ s6 ⟨σ6,H6,I6,q6⟩=>?_)
  refine wpAny_passesOwn hp (thn (hb _ s6 σ6 H6 _ I6 q6) fun f s7 q7=>?_)
  have again:∀{σ7:St} {H7:Hp},Inv X (pins++pinsAt fp s5.heap) σ7 H7 s7->N σ7 H7->∃m,m < n/\∃i σ' H',Inv X pins σ' H' s7/\tn i s7.heap/\(∀b∈fp,H' b=none)/\W i m σ' H':=fun {σ7 H7} I7 n7=>by
   obtain ⟨m',hm,w7⟩:=hN σ7 H7 n7
   refine ⟨m',hm,i+1,σ7,H7,I7.unpinned,T.keep _ _ _ st5 fun b hb o e=>(I7.pin (b,o) (List.mem_append_right _ (List.mem_append_right _ (mem_pinsAt hb e)))).1,fun b hb=>?_,w7⟩
   obtain ⟨o,e,d⟩:=T.obj _ _ st5 b hb
   exact (I7.pin (b,o) (List.mem_append_right _ (List.mem_append_right _ (mem_pinsAt hb e)))).2.1
  cases f with
  | next=>obtain ⟨σ7,H7,I7,n7⟩:=q7;exact again I7 n7
  | cont=>obtain ⟨σ7,H7,I7,n7⟩:=q7;exact again I7 n7
  | brk=>obtain ⟨σ7,H7,I7,q7⟩:=q7;exact ⟨σ7,H7,I7.unpinned,q7⟩
  | ret v=>obtain ⟨x7,σ7,H7,I7,r7,q7⟩:=q7;exact ⟨x7,σ7,H7,I7.unpinned,r7,q7⟩
end
theorem for_list {K:PySem.W.Frag} {a:Addr} {xs:List V} {g:TG} {tb:TS} {D:Ends} {σ:St} {H:Hp} (Pv:Nat->St->Hp->Prop) (h0:Pv 0 σ H) (hl:∀i σ H,i<=xs.length->Pv i σ H->SqL K H a xs)
  (hs:∀i x σ H,xs[i]? = some x->Pv i σ H->g x σ H fun σ2 H2=>tb { D with nx:=Pv (i+1),ct:=Pv (i+1),bk:=D.nx } σ2 H2) (hd:∀σ H,Pv xs.length σ H->D.nx σ H) :
  ∃W:Nat->Nat->St->Hp->Prop,(∃m,W 0 m σ H)/\∀i m σ H,W i m σ H->
   ((Itl K a).stop i H/\D.nx σ H)\/((Itl K a).go i H/\∃N:St->Hp->Prop,(∀σ' H',N σ' H'->∃m',m' < m/\W (i+1) m' σ' H')/\∀x H',(Itl K a).yld i H x H'->g x σ H' fun σ2 H2=>tb { D with nx:=N,ct:=N,bk:=D.nx } σ2 H2):=by
 refine ⟨fun i m σ H=>m=xs.length - i/\i<=xs.length/\Pv i σ H,⟨xs.length,by simp,Nat.zero_le _,h0⟩,?_⟩
 rintro i m σ H ⟨rfl,hi,p⟩
 have q:=hl i σ H hi p
 by_cases hlt:i < xs.length
 ·refine .inr ⟨⟨xs,xs[i],q,by simp [hlt]⟩,Pv (i+1),fun σ' H' p'=>⟨xs.length - (i+1),by lia,rfl,hlt,p'⟩,fun x H' y=>?_⟩
  obtain ⟨e,y⟩:=y
  subst e
  exact hs i x σ _ (y xs q) p
 ·have e:i=xs.length:=by lia
  subst e
  exact .inl ⟨⟨xs,q,Nat.le_refl _⟩,hd σ H p⟩
theorem for_tup {K:PySem.W.Frag} {a:Addr} {xs:List V} {g:TG} {tb:TS} {D:Ends} {σ:St} {H:Hp} (Pv:Nat->St->Hp->Prop) (h0:Pv 0 σ H) (hl:∀i σ H,i<=xs.length->Pv i σ H->SqT K H a xs)
  (hs:∀i x σ H,xs[i]? = some x->Pv i σ H->g x σ H fun σ2 H2=>tb { D with nx:=Pv (i+1),ct:=Pv (i+1),bk:=D.nx } σ2 H2) (hd:∀σ H,Pv xs.length σ H->D.nx σ H) :
  ∃W:Nat->Nat->St->Hp->Prop,(∃m,W 0 m σ H)/\∀i m σ H,W i m σ H->
   ((Itt K a).stop i H/\D.nx σ H)\/((Itt K a).go i H/\∃N:St->Hp->Prop,(∀σ' H',N σ' H'->∃m',m' < m/\W (i+1) m' σ' H')/\∀x H',(Itt K a).yld i H x H'->g x σ H' fun σ2 H2=>tb { D with nx:=N,ct:=N,bk:=D.nx } σ2 H2):=by
 refine ⟨fun i m σ H=>m=xs.length - i/\i<=xs.length/\Pv i σ H,⟨xs.length,by simp,Nat.zero_le _,h0⟩,?_⟩
 rintro i m σ H ⟨rfl,hi,p⟩
 have q:=hl i σ H hi p
 by_cases hlt:i < xs.length
 ·refine .inr ⟨⟨xs,xs[i],q,by simp [hlt]⟩,Pv (i+1),fun σ' H' p'=>⟨xs.length - (i+1),by lia,rfl,hlt,p'⟩,fun x H' y=>?_⟩
  obtain ⟨e,y⟩:=y
  subst e
  exact hs i x σ _ (y xs q) p
 ·have e:i=xs.length:=by lia
  subst e
  exact .inl ⟨⟨xs,q,Nat.le_refl _⟩,hd σ H p⟩
theorem for_range {lo:Int} {n:Nat} {g:TG} {tb:TS} {D:Ends} {σ:St} {H:Hp} (Pv:Nat->St->Hp->Prop) (h0:Pv 0 σ H)
  (hs:∀i σ H,i < n->Pv i σ H->g (.int (lo+i)) σ H fun σ2 H2=>tb { D with nx:=Pv (i+1),ct:=Pv (i+1),bk:=D.nx } σ2 H2) (hd:∀σ H,Pv n σ H->D.nx σ H) :
  ∃W:Nat->Nat->St->Hp->Prop,(∃m,W 0 m σ H)/\∀i m σ H,W i m σ H->
   ((Itr lo n).stop i H/\D.nx σ H)\/((Itr lo n).go i H/\∃N:St->Hp->Prop,(∀σ' H',N σ' H'->∃m',m' < m/\W (i+1) m' σ' H')/\∀x H',(Itr lo n).yld i H x H'->g x σ H' fun σ2 H2=>tb { D with nx:=N,ct:=N,bk:=D.nx } σ2 H2):=by
 refine ⟨fun i m σ H=>m=n - i/\i<=n/\Pv i σ H,⟨n,by simp,Nat.zero_le _,h0⟩,?_⟩
 rintro i m σ H ⟨rfl,hi,p⟩
 by_cases hlt:i < n
 ·refine .inr ⟨hlt,Pv (i+1),fun σ' H' p'=>⟨n - (i+1),by lia,rfl,hlt,p'⟩,fun x H' y=>?_⟩
  obtain ⟨e,y⟩:=y
  subst e y
  exact hs i σ _ hlt p
 ·have e:i=n:=by lia
  subst e
  exact .inl ⟨Nat.le_refl _,hd σ H p⟩
end L2
namespace L2
open PySem PySem.Spec PyProof.Rows
abbrev R2:=V->V->Hp->VK->Prop
def OpR (X:Cx) (f:Value->Value->Sem Value) (r:R2):Prop:=
 ∀(pins:List (Addr×Obj)) (s:Shared) (σ:St) (H:Hp) (x y:V) (v u:Value) (Q:VK),Inv X pins σ H s->RelV x v->RelV y u->r x y H Q->
  wpAny (model X.prog X.w) X.A (f v u) (EP X pins σ Q) X.xe s
def CallR (X:Cx) (f:Value) (r:List V->Hp->VK->Prop):Prop:=
 ∀(pins:List (Addr×Obj)) (s:Shared) (σ:St) (H:Hp) (xs:List V) (us:List Value) (Q:VK),Inv X pins σ H s->Vals xs us->r xs H Q->
  wpAny (model X.prog X.w) X.A (call f us) (EP X pins σ Q) X.xe s
def tOp (r:R2) (ta tb:TE):TE:=fun σ H Q=>ta σ H fun x H1=>tb σ H1 fun y H2=>r x y H2 Q
def tUn (r:V->Hp->VK->Prop) (ta:TE):TE:=fun σ H Q=>ta σ H fun x H1=>r x H1 Q
def rI (C:Int->Int->Prop) (g:Int->Int->V):R2:=fun x y H Q=>∃i j,x=.int i/\y=.int j/\C i j/\Q (g i j) H
def rI0 (g:Int->Int->V):R2:=fun x y H Q=>∃i j,x=.int i/\y=.int j/\Q (g i j) H
def rU (g:Int->V):V->Hp->VK->Prop:=fun x H Q=>∃i,x=.int i/\Q (g i) H
section
variable {X:Cx} {a b c:Expr} {ta tb tc:TE} {pos:Pos}
theorem binT (ha:PE X a ta) (hb:PE X b tb) {pins:List (Addr×Obj)} {s:Shared} {σ:St} {H:Hp} {R:V->V->Hp->Prop} (I:Inv X pins σ H s)
  (h:ta σ H fun x H1=>tb σ H1 fun y H2=>R x y H2) {Q:Value->Shared->Prop} {f:Value->Value->Sem Value}
  (hf:∀v u s2 x y H2,Inv X pins σ H2 s2->RelV x v->RelV y u->R x y H2->wpAny (model X.prog X.w) X.A (f v u) Q X.xe s2) :
  wpAny (model X.prog X.w) X.A (eval a X.env) (fun v s₁=>wpAny (model X.prog X.w) X.A (eval b X.env) (fun u s₂=>wpAny (model X.prog X.w) X.A (f v u) Q X.xe s₂) X.xe s₁) X.xe s:=by
 refine thn (ha pins s σ H _ I h) fun v s1 ⟨x,H1,I1,r1,q1⟩=>?_
 refine thn (hb pins s1 σ H1 _ I1 q1) fun u s2 ⟨y,H2,I2,r2,q2⟩=>?_
 exact hf v u s2 x y H2 I2 r1 r2 q2
theorem pe_op {op:Operator} {r:R2} (ho:OpR X (binaryOp op) r) (ha:PE X a ta) (hb:PE X b tb):PE X (.BinOp a op b pos) (tOp r ta tb):=by
 intro pins s σ H Q I h
 exact wpAny_BinOp (binT ha hb I h fun v u s2 x y H2 I2 rx ry q=>ho pins s2 σ H2 x y v u Q I2 rx ry q)
theorem opI {f:Value->Value->Sem Value} {C:Int->Int->Prop} {g:Int->Int->Int}
  (rule:∀(i j:Int) (t u:Tok) (s:Shared) (Q:Value->Shared->Prop) (E:Value->Shared->Prop),C i j->Q (.int (g i j) s.toks) { s with toks:=s.toks+1 }->wpAny (model X.prog X.w) X.A (f (.int i t) (.int j u)) Q E s) :
  OpR X f (rI C fun i j=>.int (g i j)):=by
 intro pins s σ H x y v u Q I rx ry h
 obtain ⟨i,j,rfl,rfl,hc,q⟩:=h
 obtain ⟨t,rfl⟩:=rx
 obtain ⟨t',rfl⟩:=ry
 exact rule i j t t' s _ _ hc ⟨.int (g i j),H,I.tok _,⟨_,rfl⟩,q⟩
theorem opI0 {f:Value->Value->Sem Value} {g:Int->Int->Int}
  (rule:∀(i j:Int) (t u:Tok) (s:Shared) (Q:Value->Shared->Prop) (E:Value->Shared->Prop),Q (.int (g i j) s.toks) { s with toks:=s.toks+1 }->wpAny (model X.prog X.w) X.A (f (.int i t) (.int j u)) Q E s) :
  OpR X f (rI0 fun i j=>.int (g i j)):=by
 intro pins s σ H x y v u Q I rx ry h
 obtain ⟨i,j,rfl,rfl,q⟩:=h
 obtain ⟨t,rfl⟩:=rx
 obtain ⟨t',rfl⟩:=ry
 exact rule i j t t' s _ _ ⟨.int (g i j),H,I.tok _,⟨_,rfl⟩,q⟩
theorem opB0 {f:Value->Value->Sem Value} {g:Int->Int->Bool}
  (rule:∀(i j:Int) (t u:Tok) (s:Shared) (Q:Value->Shared->Prop) (E:Value->Shared->Prop),Q (.bool (g i j)) s->wpAny (model X.prog X.w) X.A (f (.int i t) (.int j u)) Q E s) :
  OpR X f (rI0 fun i j=>.bl (g i j)):=by
 intro pins s σ H x y v u Q I rx ry h
 obtain ⟨i,j,rfl,rfl,q⟩:=h
 obtain ⟨t,rfl⟩:=rx
 obtain ⟨t',rfl⟩:=ry
 exact rule i j t t' s _ _ ⟨.bl (g i j),H,I,rfl,q⟩
def CPow (i j:Int):Prop:=0<=j/\j<=1000000/\i.natAbs < 2 ^ 64
def CMul (i j:Int):Prop:=(-(2 ^ 64) < i/\i < 2 ^ 64)\/(-(2 ^ 64) < j/\j < 2 ^ 64)
theorem CMul.ok {i j:Int} (h:CMul i j):IntMulOk i j:=by
 rcases h with ⟨h1,h2⟩ | ⟨h1,h2⟩
 ·exact .of_left (intBits_le_64 h1 h2)
 ·exact .of_right (intBits_le_64 h1 h2)
theorem two_pow_nn (k:Nat):(0:Int)<=2 ^ k:=by
 rw [two_pow_cast]
 exact Int.natCast_nonneg _
theorem op_add:OpR X (binaryOp .Add) (rI0 fun i j=>.int (i+j)):=opI0 fun _ _ _ _ _ _ _ q=>add_int q
theorem op_sub:OpR X (binaryOp .Sub) (rI0 fun i j=>.int (i - j)):=opI0 fun _ _ _ _ _ _ _ q=>sub_int q
theorem op_mul:OpR X (binaryOp .Mult) (rI CMul fun i j=>.int (i * j)):=opI fun _ _ _ _ _ _ _ hc q=>mul_int q hc.ok
theorem op_mod:OpR X (binaryOp .Mod) (rI (fun _ j=>0 < j) fun i j=>.int (i % j)):=opI fun i j _ _ _ _ _ hc q=>by
 have h1:(0:Int) < j:=hc
 exact mod_int' (by lia) (by rw [Int.fmod_eq_emod_of_nonneg i (by lia)];exact q)
theorem op_pow:OpR X (binaryOp .Pow) (rI CPow fun i j=>.int (i ^ j.toNat)):=opI fun _ _ _ _ _ _ _ hc q=>pow_int_small hc.1 hc.2.1 hc.2.2 q
theorem op_shl:OpR X (binaryOp .LShift) (rI CPow fun i j=>.int (i * 2 ^ j.toNat)):=opI fun _ _ _ _ _ _ _ hc q=>lshift_int_small hc.1 hc.2.1 hc.2.2 q
theorem op_shr:OpR X (binaryOp .RShift) (rI (fun _ j=>0<=j) fun i j=>.int (i / 2 ^ j.toNat)):=opI fun i j _ _ _ _ _ hc q=>
 rshift_int hc (by rw [Int.fdiv_eq_ediv_of_nonneg i (two_pow_nn _)];exact q)
theorem op_and:OpR X (binaryOp .BitAnd) (rI0 fun i j=>.int (Builtin.bitAnd i j)):=opI0 fun _ _ _ _ _ _ _ q=>and_int q
theorem op_or:OpR X (binaryOp .BitOr) (rI0 fun i j=>.int (Builtin.bitOr i j)):=opI0 fun _ _ _ _ _ _ _ q=>or_int q
end
def scal:V->V->Bool
 | .non,.non=>true | .non,.int _=>true | .int _,.non=>true | .non,.bl _=>true | .bl _,.non=>true | .non,.str _=>true | .str _,.non=>true
 | .int _,.int _=>true | .bl _,.bl _=>true | .str _,.str _=>true | .byt _,.byt _=>true
 | .int _,.str _=>true | .str _,.int _=>true | .bl _,.str _=>true | .str _,.bl _=>true
 | _,_=>false
def rEq:R2:=fun x y H Q=>scal x y=true/\Q (.bl (decide (x=y))) H
def rNe:R2:=fun x y H Q=>scal x y=true/\Q (.bl (!decide (x=y))) H
theorem dec_int {i j:Int}:decide (V.int i=V.int j)=(i == j):=by
 rw [Bool.eq_iff_iff]
 simp
theorem dec_bl {i j:Bool}:decide (V.bl i=V.bl j)=(i == j):=by
 rw [Bool.eq_iff_iff]
 simp
theorem dec_str {i j:Str}:decide (V.str i=V.str j)=(i == j):=by
 rw [Bool.eq_iff_iff]
 simp
theorem dec_byt {i j:Array UInt8}:decide (V.byt i=V.byt j)=(i.toList == j.toList):=by
 rw [Bool.eq_iff_iff]
 cases i
 cases j
 simp
section
variable {X:Cx} {a b c:Expr} {ta tb tc:TE} {pos:Pos}
theorem fin_bl {pins:List (Addr×Obj)} {σ:St} {H:Hp} {s:Shared} {Q:VK} {k k':Bool} (I:Inv X pins σ H s) (q:Q (.bl k) H) (e:k=k'):EP X pins σ Q (.bool k') s:=by
 subst e
 exact ⟨.bl k,H,I,rfl,q⟩
theorem op_eq:OpR X (compareOp .Eq) rEq:=by
 intro pins s σ H x y v u Q I rx ry h
 obtain ⟨hs,q⟩:=h
 cases x with
 | non=>
  cases rx
  cases y with
  | non=>cases ry;exact PySem.EqNone.eq_none_none (fin_bl I q (by simp))
  | bl j=>cases ry;exact PySem.EqNone.eq_none_bool (fin_bl I q (by simp))
  | int j=>obtain ⟨t',rfl⟩:=ry;exact PySem.EqNone.eq_none_int (fin_bl I q (by simp))
  | str j=>obtain ⟨t',rfl⟩:=ry;exact PySem.EqNone.eq_none_str (fin_bl I q (by simp))
  | _=>exact absurd (show false=true from hs) Bool.false_ne_true
 | bl i=>
  cases rx
  cases y with
  | non=>cases ry;exact PySem.EqNone.eq_bool_none (fin_bl I q (by simp))
  | bl j=>cases ry;exact eq_bool (fin_bl I q dec_bl)
  | str j=>obtain ⟨t',rfl⟩:=ry;exact PySem.EqMixed.eq_bool_str (fin_bl I q (by simp))
  | _=>exact absurd (show false=true from hs) Bool.false_ne_true
 | int i=>
  obtain ⟨t,rfl⟩:=rx
  cases y with
  | non=>cases ry;exact PySem.EqNone.eq_int_none (fin_bl I q (by simp))
  | int j=>obtain ⟨t',rfl⟩:=ry;exact eq_int (fin_bl I q dec_int)
  | str j=>obtain ⟨t',rfl⟩:=ry;exact PySem.EqMixed.eq_int_str (fin_bl I q (by simp))
  | _=>exact absurd (show false=true from hs) Bool.false_ne_true
 | str i=>
  obtain ⟨t,rfl⟩:=rx
  cases y with
  | non=>cases ry;exact PySem.EqNone.eq_str_none (fin_bl I q (by simp))
  | bl j=>cases ry;exact PySem.EqMixed.eq_str_bool (fin_bl I q (by simp))
  | int j=>obtain ⟨t',rfl⟩:=ry;exact PySem.EqMixed.eq_str_int (fin_bl I q (by simp))
  | str j=>obtain ⟨t',rfl⟩:=ry;exact eq_str (fin_bl I q dec_str)
  | _=>exact absurd (show false=true from hs) Bool.false_ne_true
 | byt i=>
  obtain ⟨t,rfl⟩:=rx
  cases y with
  | byt j=>obtain ⟨t',rfl⟩:=ry;exact PySem.W.eq_bytes (fin_bl I q dec_byt)
  | _=>exact absurd (show false=true from hs) Bool.false_ne_true
 | _=>cases y <;> exact absurd (show false=true from hs) Bool.false_ne_true
theorem op_ne:OpR X (compareOp .NotEq) rNe:=by
 intro pins s σ H x y v u Q I rx ry h
 obtain ⟨hs,q⟩:=h
 cases x with
 | non=>
  cases rx
  cases y with
  | non=>cases ry;exact PySem.EqNone.ne_none_none (fin_bl I q (by simp))
  | bl j=>cases ry;exact PySem.EqNone.ne_none_bool (fin_bl I q (by simp))
  | int j=>obtain ⟨t',rfl⟩:=ry;exact PySem.EqNone.ne_none_int (fin_bl I q (by simp))
  | str j=>obtain ⟨t',rfl⟩:=ry;exact PySem.EqNone.ne_none_str (fin_bl I q (by simp))
  | _=>exact absurd (show false=true from hs) Bool.false_ne_true
 | bl i=>
  cases rx
  cases y with
  | non=>cases ry;exact PySem.EqNone.ne_bool_none (fin_bl I q (by simp))
  | bl j=>cases ry;exact ne_bool (fin_bl I q (congrArg not dec_bl))
  | str j=>obtain ⟨t',rfl⟩:=ry;exact PySem.EqMixed.ne_bool_str (fin_bl I q (by simp))
  | _=>exact absurd (show false=true from hs) Bool.false_ne_true
 | int i=>
  obtain ⟨t,rfl⟩:=rx
  cases y with
  | non=>cases ry;exact PySem.EqNone.ne_int_none (fin_bl I q (by simp))
  | int j=>obtain ⟨t',rfl⟩:=ry;exact ne_int (fin_bl I q (congrArg not dec_int))
  | str j=>obtain ⟨t',rfl⟩:=ry;exact PySem.EqMixed.ne_int_str (fin_bl I q (by simp))
  | _=>exact absurd (show false=true from hs) Bool.false_ne_true
 | str i=>
  obtain ⟨t,rfl⟩:=rx
  cases y with
  | non=>cases ry;exact PySem.EqNone.ne_str_none (fin_bl I q (by simp))
  | bl j=>cases ry;exact PySem.EqMixed.ne_str_bool (fin_bl I q (by simp))
  | int j=>obtain ⟨t',rfl⟩:=ry;exact PySem.EqMixed.ne_str_int (fin_bl I q (by simp))
  | str j=>obtain ⟨t',rfl⟩:=ry;exact ne_str (fin_bl I q (congrArg not dec_str))
  | _=>exact absurd (show false=true from hs) Bool.false_ne_true
 | byt i=>
  obtain ⟨t,rfl⟩:=rx
  cases y with
  | byt j=>obtain ⟨t',rfl⟩:=ry;exact PySem.W.ne_bytes (fin_bl I q (congrArg not dec_byt))
  | _=>exact absurd (show false=true from hs) Bool.false_ne_true
 | _=>cases y <;> exact absurd (show false=true from hs) Bool.false_ne_true
theorem op_lt:OpR X (compareOp .Lt) (rI0 fun i j=>.bl (decide (i < j))):=opB0 fun _ _ _ _ _ _ _ q=>lt_int q
theorem op_gt:OpR X (compareOp .Gt) (rI0 fun i j=>.bl (decide (j < i))):=opB0 fun _ _ _ _ _ _ _ q=>gt_int q
theorem op_ge:OpR X (compareOp .GtE) (rI0 fun i j=>.bl (decide (j<=i))):=opB0 fun _ _ _ _ _ _ _ q=>ge_int q
theorem op_isN:OpR X (compareOp .Is) (fun x y H Q=>y=.non/\Q (.bl (decide (x=.non))) H):=by
 intro pins s σ H x y v u Q I rx ry h
 obtain ⟨rfl,q⟩:=h
 cases ry
 refine is_none_gen (fin_bl I q ?_)
 cases x <;> first
  | (cases rx;rfl)
  | (obtain ⟨t,rfl⟩:=rx;rfl)
theorem op_notN:OpR X (compareOp .IsNot) (fun x y H Q=>y=.non/\Q (.bl (!decide (x=.non))) H):=by
 intro pins s σ H x y v u Q I rx ry h
 obtain ⟨rfl,q⟩:=h
 cases ry
 refine isnot_none_gen (fin_bl I q ?_)
 cases x <;> first
  | (cases rx;rfl)
  | (obtain ⟨t,rfl⟩:=rx;rfl)
theorem nomark (b:Expr) {op:CmpOp} (h:op≠.In:=by decide) (h2:op≠.NotIn:=by decide):behindInMarks op b=false:=by
 have e1:(op == CmpOp.In)=false:=by cases op <;> first | rfl | exact absurd rfl h
 have e2:(op == CmpOp.NotIn)=false:=by cases op <;> first | rfl | exact absurd rfl h2
 cases b <;> simp [behindInMarks,e1,e2]
theorem pe_cmpR {op:CmpOp} {r:R2} (ho:OpR X (compareOp op) r) (ha:PE X a ta) (hb:PE X b tb) (hm:behindInMarks op b=false):PE X (.Compare a [op] [b] pos) (tOp r ta tb):=by
 intro pins s σ H Q I h
 exact wpAny_Compare1 (binT ha hb I h fun v u s2 x y H2 I2 rx ry q=>ho pins s2 σ H2 x y v u Q I2 rx ry q) hm
def tTest (t:TE):TT:=fun σ H Q=>t σ H fun x H'=>∃k,x=.bl k/\Q k H'
theorem pt_cmpR {op:CmpOp} {r:R2} (ho:OpR X (compareOp op) r) (ha:PE X a ta) (hb:PE X b tb) (hm:behindInMarks op b=false):PT X (.Compare a [op] [b] pos) (tTest (tOp r ta tb)):=by
 intro pins s σ H Q I h
 refine wpAny_isTrue_Compare1 (thn (ha pins s σ H _ I h) fun v s1 ⟨x,H1,I1,r1,q1⟩=>thn (hb pins s1 σ H1 _ I1 q1) fun u s2 ⟨y,H2,I2,r2,q2⟩=>
  thn (ho pins s2 σ H2 x y v u _ I2 r1 r2 q2) fun c s3 ⟨z,H3,I3,r3,k,e,q3⟩=>?_) hm
 subst e
 cases r3
 exact wpAny_truthy_bool ⟨H3,I3,q3⟩
theorem line63:(sizeLine:Nat) < 2 ^ 63:=by rw [sizeLine_eq];decide
theorem vals1 {x:V} {us:List Value} (r:Vals [x] us):∃u,us=[u]/\RelV x u:=by
 cases r with
 | cons r1 r2=>cases r2;exact ⟨_,rfl,r1⟩
theorem call_abs:CallR X (.builtin "abs") (fun xs H Q=>∃i,xs=[.int i]/\Q (.int (if i < 0 then -i else i)) H):=by
 intro pins s σ H xs us Q I r h
 obtain ⟨i,rfl,q⟩:=h
 obtain ⟨u,rfl,t,rfl⟩:=vals1 r
 exact call_abs_int fun u tk=>⟨.int (if i < 0 then -i else i),H,I.tok _,⟨_,rfl⟩,q⟩
end
end L2
namespace L2
open PySem PySem.Spec PyProof.Rows
structure ObjM (h:Heap) (x dx C:Addr) (mA:Str->Option Value):Prop where
 obj:h.get? x=some (PySem.W.instObj C dx)
 ns:h.Ns1 dx mA
 ne:dx≠x
theorem lookIn_ns {h:Heap} {dx:Addr} {mA:Str->Option Value} (n:h.Ns1 dx mA):∃od,h.get? dx=some od/\∀name,PySem.W.lookIn name od=some (mA name):=by
 obtain ⟨o,es,ep,ho,hd,hk,_,hm⟩:=n
 refine ⟨o,ho,fun name=>?_⟩
 have e:=hm name
 unfold nsFind findBy at e
 rw [<-Array.find?_toList] at e
 unfold PySem.W.lookIn
 rw [hd]
 dsimp only
 split
 ·rename_i y q
  rw [q] at e
  exact congrArg some e
 ·rename_i q
  rw [q] at e
  have a:es.toList.any (·.refKey)=false:=by
   rw [List.any_eq_false]
   intro y hy
   obtain ⟨z,t,hkey⟩:=hk y (Array.mem_toList_iff.mp hy)
   simp [DictEntry.refKey,hkey]
  have a':¬es.toList.any (·.refKey)=true:=by rw [a];exact Bool.false_ne_true
  rw [if_neg a']
  exact congrArg some e
theorem ObjM.look {h:Heap} {x dx C:Addr} {mA:Str->Option Value} (I:ObjM h x dx C mA):∃od,PySem.W.InstAt h x (PySem.W.instObj C dx) C (some od)/\∀name,PySem.W.lookIn name od=some (mA name):=
 let ⟨od,ho,hl⟩:=lookIn_ns I.ns
 ⟨od,⟨I.obj,rfl,rfl,ho⟩,hl⟩
section
variable {prog:Program} {w:World} {A:Around} {E:Value->Shared->Prop} {s:Shared} {K:PySem.W.Frag} {x dx C f:Addr} {mA:Str->Option Value} {name:Str} {v:Value}
theorem get_map {expr:Bool} {Q:Value->Shared->Prop} (X:K.In s.heap) (I:ObjM s.heap x dx C mA) (hg:PySem.W.plainGet K C name=true) (hh:PySem.W.hasDictIn K C=true)
  (ha:PySem.W.findIn K (.ref C) name=some none) (hv:mA name=some v) (hv':PySem.W.handedIn v=true) (h:Q v { s with toks:=s.toks+1 }) :
  wpAny (model prog w) A (getAttr (.ref x) name expr) Q E s:=by
 obtain ⟨od,J,hl⟩:=I.look
 exact PySem.W.get_value X J (PySem.W.plainGet_of hg).1 (PySem.W.findObj_own hh ha rfl (by rw [hl,hv])) hv' h
theorem get_meth {pl:Sem Bool} {Q:Value×List Value->Shared->Prop} (X:K.In s.heap) (I:ObjM s.heap x dx C mA) (hg:PySem.W.plainGet K C name=true)
  (hf:PySem.W.findIn K (.ref C) name=some (some (.ref f))) (ht:PySem.W.isFn K (.ref f)=true) (hv:mA name=none) (h:Q (.ref f,[.ref x]) s) :
  wpAny (model prog w) A (getMethod (.ref x) name pl) Q E s:=by
 obtain ⟨od,J,hl⟩:=I.look
 exact PySem.W.method_fn X J (PySem.W.plainGet_of hg).1 (PySem.W.plainGet_of hg).2 hf (beq_iff_eq.mp ht) (by show (PySem.W.lookIn name od).map (·.isSome)=some false;rw [hl,hv];rfl) h
theorem set_map {ns:List Str} {Q:Unit->Shared->Prop} (X:K.In s.heap) (I:ObjM s.heap x dx C mA)
  (hs:PySem.W.findIn K (.ref C) "__setattr__" = some (some (.builtin "object.__setattr__"))) (hp:PySem.W.plainOver K C=true) (ht:PySem.W.takerIn K C name=some none) (hh:PySem.W.hasDictIn K C=true)
  (hw:PySem.Within mA ns) (hsz:ns.length<=sizeLine)
  (h:∀h',ObjM h' x dx C (fun y=>if y=name then some v else mA y)->Heap.SameBut dx s.heap h'->Q () { s with heap:=h',toks:=s.toks+2 }) :
  wpAny (model prog w) A (setAttr (.ref x) name v) Q E s:=by
 obtain ⟨od,J,hl⟩:=I.look
 refine PySem.W.set_plain X J hs (PySem.W.osa_open (s:={ s with toks:=s.toks+1 }) (r:=none) X J hp ht fun b=>?_)
 obtain ⟨cd,hc,hd'⟩:=PySem.W.any_some hh
 have hx:s.heap.get? x=some ⟨.ref C,some dx,.plain,#[]⟩:=I.obj
 refine wpAny_bind (wpAny_pure (wpAny_bind (wpAny_bind (wpAny_loadPart hx (wpAny_bind (PySem.W.Looks.here (s:={ s with toks:=s.toks+1 }) (PySem.W.looks_clsIn X hc) ?_))))))
 rw [hd']
 refine wpAny_pure (a:=some dx) (wpAny_bind (wpAny_pure (wpAny_bind ?_)))
 refine wpAny_nsSet1 (s:={ s with toks:=s.toks+1 }) I.ns fun h' hn2 hs2=>?_
 obtain ⟨oD,esD,epD,hoD,hdD,hcD⟩:=hn2.count (PySem.Within.cons name v hw)
 refine wpAny_bind (wpAny_lookBehind hoD (by rw [hdD];exact pastItsLine_dict (Nat.le_trans hcD (by rw [List.length_cons];lia))) ?_)
 exact wpAny_pure (h _ ⟨(hs2.2 _ (Ne.symm I.ne)).trans I.obj,hn2,I.ne⟩ hs2)
theorem make_map {R:Result->Shared->Prop} {vs:List Value} {kw:List (Str×Value)} (X:K.In s.heap) (hm:PySem.W.makesIn K C=true)
  (hi:PySem.W.findIn K (.ref C) "__init__" = some (some (.ref f))) (hf:PySem.W.typeIn K (.ref f)=some (.type "function"))
  (h:codeAny (model prog w) (A.under (.builtin "type.__call__" ⟨.ref C::vs,kw⟩)) (.call (.ref f) ⟨.ref (s.heap.objs.size+1)::vs,kw⟩) (PySem.W.InitBack (s.heap.objs.size+1) R)
   { s with heap:=(s.heap.push PySem.W.emptyDict).push (PySem.W.instObj C s.heap.objs.size) }) :
  codeAny (model prog w) A (.call (.ref C) ⟨vs,kw⟩) R s:=by
 obtain ⟨hh,g,d,t,os⟩:=s
 exact PySem.W.make_core (PySem.W.makes_of X hm) (PySem.W.looks_findIn X hi) (fun self=>PySem.W.bind_fn X self hf) (.inl rfl) h
end
def putF (f:Str) (v:V):List (Str×V)->List (Str×V)
 | []=>[(f,v)]
 | (g,x)::r=>if g=f then (g,v)::r else (g,x)::putF f v r
theorem lookup_putF (f g:Str) (v:V):∀fs:List (Str×V),(putF f v fs).lookup g=if g=f then some v else fs.lookup g
 | []=>by
  show List.lookup g [(f,v)]=_
  by_cases h:g=f
  ·have hb:(g == f)=true:=beq_iff_eq.mpr h
   simp only [List.lookup,hb,if_pos h]
  ·have hb:(g == f)=false:=beq_eq_false_iff_ne.mpr h
   simp only [List.lookup,hb,if_neg h]
 | (k,x)::r=>by
  have ih:=lookup_putF f g v r
  rw [show putF f v ((k,x)::r)=(if k=f then (k,v)::r else (k,x)::putF f v r) from rfl]
  by_cases hk:k=f
  ·rw [if_pos hk]
   by_cases h:g=k
   ·have hb:(g == k)=true:=beq_iff_eq.mpr h
    simp only [List.lookup,hb,if_pos (h.trans hk)]
   ·have hb:(g == k)=false:=beq_eq_false_iff_ne.mpr h
    simp only [List.lookup,hb,if_neg (fun e:g=f=>h (e.trans hk.symm))]
  ·rw [if_neg hk]
   by_cases h:g=k
   ·have hb:(g == k)=true:=beq_iff_eq.mpr h
    simp only [List.lookup,hb,if_neg (fun e:g=f=>hk (h.symm.trans e))]
   ·have hb:(g == k)=false:=beq_eq_false_iff_ne.mpr h
    simp only [List.lookup,hb]
    exact ih
theorem keys_putF (f:Str) (v:V):∀fs:List (Str×V),f∈(putF f v fs).map (·.1)/\∀g,g∈fs.map (·.1)->g∈(putF f v fs).map (·.1)
 | []=>⟨by simp [putF],fun g h=>by simp at h⟩
 | (k,x)::r=>by
  obtain ⟨i1,i2⟩:=keys_putF f v r
  rw [show putF f v ((k,x)::r)=(if k=f then (k,v)::r else (k,x)::putF f v r) from rfl]
  by_cases hk:k=f
  ·rw [if_pos hk]
   subst hk
   exact ⟨by simp,fun g h=>by simpa using h⟩
  ·rw [if_neg hk]
   refine ⟨?_,fun g h=>?_⟩
   ·rw [List.map_cons]
    exact List.mem_cons_of_mem _ i1
   ·rw [List.map_cons] at h ⊢
    rcases List.mem_cons.mp h with e | e
    ·exact List.mem_cons.mpr (.inl e)
    ·exact List.mem_cons_of_mem _ (i2 g e)
theorem length_putF (f:Str) (v:V):∀fs:List (Str×V),(putF f v fs).length<=fs.length+1
 | []=>by simp [putF]
 | (k,x)::r=>by
  have ih:=length_putF f v r
  rw [show putF f v ((k,x)::r)=(if k=f then (k,v)::r else (k,x)::putF f v r) from rfl]
  by_cases hk:k=f
  ·rw [if_pos hk,List.length_cons,List.length_cons];lia
  ·rw [if_neg hk,List.length_cons,List.length_cons];lia
theorem RelO.some_of {v:V} {o:Option Value} (r:RelO (some v) o):∃u,o=some u/\RelV v u:=by
 cases o with
 | none=>exact (show False from r).elim
 | some u=>exact ⟨u,rfl,r⟩
theorem RelO.none_of {o:Option Value} (r:RelO none o):o=none:=by
 cases o with
 | none=>rfl
 | some u=>exact (show False from r).elim
theorem handed_of {v:V} {u:Value} (r:RelV v u):PySem.W.handedIn u=true:=by
 cases v with
 | non=>cases (show u=Value.none from r);rfl
 | bl b=>cases (show u=Value.bool b from r);rfl
 | int i=>obtain ⟨t,e⟩:=(show ∃t,u=Value.int i t from r);cases e;rfl
 | str x=>obtain ⟨t,e⟩:=(show ∃t,u=Value.str x t from r);cases e;rfl
 | byt b=>obtain ⟨t,e⟩:=(show ∃t,u=Value.bytes b t from r);cases e;rfl
 | flt b=>obtain ⟨t,e⟩:=(show ∃t,u=Value.float b t from r);cases e;rfl
 | ref a=>cases (show u=Value.ref a from r);rfl
 | ty n=>cases (show u=Value.type n from r);rfl
section
variable {P:Program} {w:World} {H H':Hp} {h h':Heap} {a C dx:Addr} {fs fs':List (Str×V)}
theorem ins_get (hok:HOk P w H h) (e:H a=some (.ins C dx fs)):∃mA,ObjM h a dx C mA/\(∀f,RelO (fs.lookup f) (mA f))/\PySem.Within mA (fs.map (·.1))/\fs.length<=1000/\H dx=some (.own a):=by
 obtain ⟨d,z,ne,ob,mA,n,r,q⟩:=(show ObjOk P w H h a (.ins C dx fs) from hok a _ e)
 exact ⟨mA,⟨ob,n,ne⟩,r,q,z,d⟩
end
structure Cls (K:PySem.W.Frag) (C:Addr):Prop where
 pg:PySem.W.plainGet K C Str.empty=true
 hd:PySem.W.hasDictIn K C=true
 po:PySem.W.plainOver K C=true
 sa:PySem.W.findIn K (.ref C) "__setattr__" = some (some (.builtin "object.__setattr__"))
theorem Cls.get {K:PySem.W.Frag} {C:Addr} (c:Cls K C) (f:Str):PySem.W.plainGet K C f=true:=c.pg
def NoAttr (K:PySem.W.Frag) (C:Addr) (f:Str):Prop:=PySem.W.findIn K (.ref C) f=some none
theorem NoAttr.taker {K:PySem.W.Frag} {C:Addr} {f:Str} (n:NoAttr K C f):PySem.W.takerIn K C f=some none:=by
 unfold PySem.W.takerIn
 rw [show PySem.W.findIn K (.ref C) f=some none from n]
 rfl
structure Meth (K:PySem.W.Frag) (C:Addr) (m:Str) (f:Addr):Prop where
 at_:PySem.W.findIn K (.ref C) m=some (some (.ref f))
 fn:PySem.W.isFn K (.ref f)=true
 kp:PySem.W.keepIn K (.ref f)=true
section
variable {X:Cx} {pins:List (Addr×Obj)} {σ:St} {H:Hp} {s:Shared} {a C dx:Addr} {fs:List (Str×V)} {f:Str} {v:V} {A:Around} {E:Value->Shared->Prop}
theorem getattr_ok {b:Bool} {Q:Value->Shared->Prop} (I:Inv X pins σ H s) (e:H a=some (.ins C dx fs)) (c:Cls X.K C) (n:NoAttr X.K C f) (l:fs.lookup f=some v)
  (h:∀u s',Inv X pins σ H s'->RelV v u->Q u s'):wpAny (model X.prog X.w) A (getAttr (.ref a) f b) Q E s:=by
 obtain ⟨mA,O,r,_,_,_⟩:=ins_get I.hok e
 obtain ⟨u,hu,ru⟩:=RelO.some_of (v:=v) (o:=mA f) (by rw [<-l];exact r f)
 exact get_map I.kIn O (c.get f) c.hd n hu (handed_of ru) (h u _ (I.tok _) ru)
theorem getmeth_ok {m:Str} {g:Addr} {pl:Sem Bool} {Q:Value×List Value->Shared->Prop} (I:Inv X pins σ H s) (e:H a=some (.ins C dx fs)) (c:Cls X.K C) (k:Meth X.K C m g) (l:fs.lookup m=none)
  (h:Q (.ref g,[.ref a]) s):wpAny (model X.prog X.w) A (getMethod (.ref a) m pl) Q E s:=by
 obtain ⟨mA,O,r,_,_,_⟩:=ins_get I.hok e
 have hn:mA m=none:=RelO.none_of (by rw [<-l];exact r m)
 exact get_meth I.kIn O (c.get m) k.at_ k.fn hn h
theorem setattr_ok {y:V} {u:Value} {Q:Unit->Shared->Prop} (I:Inv X pins σ H s) (e:H a=some (.ins C dx fs)) (c:Cls X.K C) (n:NoAttr X.K C f) (hl:fs.length < 1000) (ry:RelV y u)
  (h:∀s',Inv X pins σ (upd H a (.ins C dx (putF f y fs))) s'->Q () s'):wpAny (model X.prog X.w) A (setAttr (.ref a) f u) Q E s:=by
 obtain ⟨mA,O,r,wi,_,ho⟩:=ins_get I.hok e
 have hz:(fs.map (·.1)).length<=sizeLine:=by rw [List.length_map,sizeLine_eq];lia
 refine set_map I.kIn O c.sa c.po n.taker c.hd wi hz fun h' O' sb=>h _ ?_
 have hd:∃o,h'.get? dx=some o:=let ⟨o,_,_,e',_⟩:=O'.ns;⟨o,e'⟩
 refine I.write (x:=a) (e:=dx) (by rw [e];exact True.intro) (.inr ho) (fun b q hb z=>(sb.2 b hb).trans z) hd ?_
 refine ⟨by rw [upd_ne O.ne];exact ho,?_,O.ne,O'.obj,_,O'.ns,fun g=>?_,fun g hg=>?_⟩
 ·have:=length_putF f y fs;lia
 ·show RelO ((putF f y fs).lookup g) (if g=f then some u else mA g)
  rw [lookup_putF]
  by_cases q:g=f
  ·rw [if_pos q,if_pos q];exact ry
  ·rw [if_neg q,if_neg q];exact r g
 ·by_cases q:g=f
  ·rw [q];exact (keys_putF f y fs).1
  ·refine (keys_putF f y fs).2 g (wi g fun z=>hg ?_)
   show (if g=f then some u else mA g)=none
   rw [if_neg q];exact z
theorem Inv.made (I:Inv X pins σ H s):Inv X pins σ (upd (upd H s.heap.objs.size (.own (s.heap.objs.size+1))) (s.heap.objs.size+1) (.ins C s.heap.objs.size []))
  { s with heap:=(s.heap.push PySem.W.emptyDict).push (PySem.W.instObj C s.heap.objs.size) }:=by
 have e1:(s.heap.push PySem.W.emptyDict).get? s.heap.objs.size=some PySem.W.emptyDict:=Heap.get?_push_size s.heap rfl
 have e2:((s.heap.push PySem.W.emptyDict).push (PySem.W.instObj C s.heap.objs.size)).get? (s.heap.objs.size+1)=some (PySem.W.instObj C s.heap.objs.size):=by
  have:=Heap.get?_push_size (s.heap.push PySem.W.emptyDict) (o:=PySem.W.instObj C s.heap.objs.size) rfl
  rwa [Heap.size_push] at this
 have e3:(s.heap.push PySem.W.emptyDict).Ns s.heap.objs.size (fun _=>none):=⟨PySem.W.emptyDict,#[],_,e1,rfl,(fun e he=>absurd he (by simp)),fun _=>rfl⟩
 have I1:=I.laid (a:=s.heap.objs.size) (o:=.own (s.heap.objs.size+1)) (h':=s.heap.push PySem.W.emptyDict) (t':=s.toks) (fun b u q=>Heap.get?_push_of_some _ q) (Nat.le_refl _) ⟨_,e1⟩
 refine I1.laid (a:=s.heap.objs.size+1) (o:=.ins C s.heap.objs.size []) (t':=s.toks) (fun b u q=>Heap.get?_push_of_some _ q) (Nat.le_of_eq (Heap.size_push _ _)) ?_
 have ne:s.heap.objs.size≠s.heap.objs.size+1:=Nat.ne_of_lt (Nat.lt_succ_self _)
 refine ⟨by rw [upd_ne ne,upd_same],Nat.zero_le _,ne,e2,fun _=>none,(Heap.Ns1.of_empty e3).at fun o q=>Heap.get?_push_of_some _ q,fun _=>True.intro,fun y hy=>absurd rfl hy⟩
theorem attr_of {prog:Program} {w:World} {env:Env} {e:Expr} {f:Str} {pos:Pos} {s:Shared} {Q:Value->Shared->Prop} (hb:attributeBase e f env (eval e env)=eval e env)
  (h:wpAny (model prog w) A (eval e env) (fun o s₁=>wpAny (model prog w) A (getAttr o f true) Q E s₁) E s):wpAny (model prog w) A (eval (.Attribute e f pos) env) Q E s:=
 Attribute_any_ h (by rw [arm_eval_Attribute,hb])
end
def tFld (K:PySem.W.Frag) (ta:TE) (f:Str):TE:=fun σ H Q=>ta σ H fun x H1=>∃a C dx fs v,x=.ref a/\H1 a=some (.ins C dx fs)/\Cls K C/\NoAttr K C f/\fs.lookup f=some v/\Q v H1
def sFld (K:PySem.W.Frag) (ta tv:TE) (f:Str):TS:=fun D σ H=>tv σ H fun y H1=>ta σ H1 fun x H2=>∃a C dx fs,x=.ref a/\H2 a=some (.ins C dx fs)/\Cls K C/\NoAttr K C f/\fs.length < 1000/\
 D.nx σ (upd H2 a (.ins C dx (putF f y fs)))
section
variable {X:Cx} {o e value:Expr} {f:Str} {pos pos' tpos:Pos} {ta tv:TE}
theorem pe_fld (he:PE X e ta) (hb:attributeBase e f X.env (eval e X.env)=eval e X.env):PE X (.Attribute e f pos) (tFld X.K ta f):=by
 intro pins s σ H Q I h
 refine attr_of hb (thn (he pins s σ H _ I h) fun u s1 ⟨x,H1,I1,rx,a,C,dx,fs,v,ex,ea,c,n,l,q⟩=>?_)
 subst ex
 obtain rfl:u=Value.ref a:=rx
 exact getattr_ok I1 ea c n l fun u' s2 I2 ru=>⟨v,H1,I2,ru,q⟩
theorem ps_fld (ha:PE X o ta) (hv:PE X value tv) (hs:swapsWith value (some (.Attribute o f pos')) pos.line X.env=pure false):PS X (.Assign [.Attribute o f pos'] value pos) (sFld X.K ta tv f):=by
 intro pins s σ H D I h
 refine plainObj_wpAny_Assign_Attribute (thn (hv pins s σ H _ I h) fun u s1 ⟨y,H1,I1,ry,q⟩=>thn (ha pins s1 σ H1 _ I1 q) fun ov s2 ⟨x,H2,I2,rx,a,C,dx,fs,ex,ea,c,n,l,q2⟩=>?_) hs
 subst ex
 obtain rfl:ov=Value.ref a:=rx
 exact setattr_ok I2 ea c n l ry fun s3 I3=>⟨σ,_,I3,q2⟩
theorem methcall_of {pl:Sem Bool} {m:Str} {apos:Pos} {args:List Expr} {pins:List (Addr×Obj)} {s:Shared} {σ:St} {H:Hp} {Q:Value->Shared->Prop} {te:TE} (he:PE X e te) (I:Inv X pins σ H s)
  (h:te σ H fun x H1=>∃a C dx fs g,x=.ref a/\H1 a=some (.ins C dx fs)/\Cls X.K C/\Meth X.K C m g/\fs.lookup m=none/\
   ∀s1,Inv X pins σ H1 s1->wpAny (model X.prog X.w) X.A (callWith pos (.ref g) [.ref a] (backTo pos (starEach args X.env)) (backToKw pos (keywordEach [] X.env))) Q X.xe s1)
  (ht:eval (.Call (.Attribute e m apos) args [] pos) X.env=(do
   let ov <-eval e X.env
   standAt apos.atName
   let (f,first) <-holding [ov] (getMethod ov m pl)
   callWith pos f first (backTo pos (starEach args X.env)) (backToKw pos (keywordEach [] X.env)))) :
  wpAny (model X.prog X.w) X.A (eval (.Call (.Attribute e m apos) args [] pos) X.env) Q X.xe s:=by
 refine PySem.W.methodCall_KW (pl:=pl) (thn (he pins s σ H _ I h) fun u s1 ⟨x,H1,I1,rx,a,C,dx,fs,g,ex,ea,c,k,l,q⟩=>?_) ht
 subst ex
 obtain rfl:u=Value.ref a:=rx
 exact getmeth_ok I1 ea c k l (q s1 I1)
end
section
variable {X:Cx} {pins:List (Addr×Obj)} {σ:St} {H:Hp} {s:Shared} {A:Around} {E:Value->Shared->Prop} {Q:Value->Shared->Prop} {c:Value} {b:Bool}
inductive TyOf (K:PySem.W.Frag) (H:Hp):V->Value->Prop where
 | non:TyOf K H .non (.type "NoneType")
 | bl (x:Bool):TyOf K H (.bl x) (.type "bool")
 | int (i:Int):TyOf K H (.int i) (.type "int")
 | str (x:Str):TyOf K H (.str x) (.type "str")
 | flt (x:UInt64):TyOf K H (.flt x) (.type "float")
 | lst {a:Addr} {xs:List V} (e:H a=some (.lst xs)):TyOf K H (.ref a) (.type "list")
 | frz {a:Addr} {o:Obj} {xs:List V} (e:H a=some (.frz o (.lst xs))):TyOf K H (.ref a) (.type "list")
 | tup {a:Addr} {xs:List V} (e:H a=some (.tup xs)):TyOf K H (.ref a) (.type "tuple")
 | dK {a:Addr} {kvs:List (Key×V)} (e:H a=some (.dK kvs)):TyOf K H (.ref a) (.type "dict")
 | dT {a:Addr} {kvs:List (List Key×V)} (e:H a=some (.dT kvs)):TyOf K H (.ref a) (.type "dict")
 | ins {a C dx:Addr} {fs:List (Str×V)} (e:H a=some (.ins C dx fs)) (cl:Cls K C) (ha:PySem.W.findIn K (.ref C) "__class__" = some (some (.builtin "object.__class__")))
   (hn:PySem.W.specialIn K (.builtin "object.__class__") "__get__" = some (some (.builtin "getset_descriptor.__get__"))) (htk:PySem.W.takesIn K (.builtin "object.__class__")=some true)
   (hm:PySem.W.mroIn K C (.type "object")=some true):TyOf K H (.ref a) (.ref C)
theorem isinst_ok {x:V} {u t:Value} (I:Inv X pins σ H s) (rx:RelV x u) (ty:TyOf X.K H x t) (e:PySem.W.kitOne X.K t c=some b) (h:∀tk,Q (.bool b) { s with toks:=tk }) :
  wpAny (model X.prog X.w) A (call (.builtin "isinstance") [u,c]) Q E s:=by
 cases ty with
 | non=>cases (show u=Value.none from rx);exact PySem.W.kia_one PySem.W.kitx_none I.kIn True.intro e (fun z=>nomatch z) h
 | bl y=>cases (show u=Value.bool y from rx);exact PySem.W.kia_one PySem.W.kitx_bool I.kIn True.intro e (fun z=>nomatch z) h
 | int i=>obtain ⟨t,q⟩:=(show ∃t,u=Value.int i t from rx);cases q;exact PySem.W.kia_one PySem.W.kitx_int I.kIn True.intro e (fun z=>nomatch z) h
 | str y=>obtain ⟨t,q⟩:=(show ∃t,u=Value.str y t from rx);cases q;exact PySem.W.kia_one PySem.W.kitx_str I.kIn True.intro e (fun z=>nomatch z) h
 | flt y=>obtain ⟨t,q⟩:=(show ∃t,u=Value.float y t from rx);cases q;exact PySem.W.kia_one PySem.W.kitx_float I.kIn True.intro e (fun z=>nomatch z) h
 | @lst a xs ea=>
  cases (show u=Value.ref a from rx)
  obtain ⟨_,_,n,_,h1⟩:=(show ObjOk X.prog X.w H s.heap a (.lst xs) from I.hok a _ ea)
  exact PySem.W.kia_one PySem.W.kitx_list I.kIn ⟨_,h1,rfl⟩ e (fun z=>nomatch z) h
 | @frz a ob xs ea=>
  cases (show u=Value.ref a from rx)
  obtain ⟨_,_,_,n,_,h1⟩:=(show ObjOk X.prog X.w H s.heap a (.frz ob (.lst xs)) from I.hok a _ ea)
  exact PySem.W.kia_one PySem.W.kitx_list I.kIn ⟨_,h1,rfl⟩ e (fun z=>nomatch z) h
 | @tup a xs ea=>
  cases (show u=Value.ref a from rx)
  obtain ⟨_,_,_,p⟩:=(show ObjOk X.prog X.w H s.heap a (.tup xs) from I.hok a _ ea)
  obtain ⟨o,h1,h2,_⟩:=p
  exact PySem.W.kia_one PySem.W.kitx_tuple I.kIn ⟨o,h1,h2⟩ e (fun z=>nomatch z) h
 | @dK a kvs ea=>
  cases (show u=Value.ref a from rx)
  obtain ⟨_,_,vs,_,p⟩:=(show ObjOk X.prog X.w H s.heap a (.dK kvs) from I.hok a _ ea)
  obtain ⟨o,es,ep,h1,h2,_⟩:=p
  exact PySem.W.kia_one PySem.W.kitx_dict I.kIn ⟨o,h1,h2.1⟩ e (fun z=>nomatch z) h
 | @dT a kvs ea=>
  cases (show u=Value.ref a from rx)
  obtain ⟨_,_,xs,_,o,es,ep,h1,h2,_⟩:=(show ObjOk X.prog X.w H s.heap a (.dT kvs) from I.hok a _ ea)
  exact PySem.W.kia_one PySem.W.kitx_dict I.kIn ⟨o,h1,h2.1⟩ e (fun z=>nomatch z) h
 | @ins a C dx fs ea cl ha hn htk hm=>
  cases (show u=Value.ref a from rx)
  obtain ⟨mA,O,_⟩:=ins_get I.hok ea
  obtain ⟨od,J,_⟩:=O.look
  exact PySem.W.kia_one (PySem.W.kitx_own (cl.get _) cl.hd ha hn htk hm) I.kIn J e (fun z=>nomatch z) h
end
end L2
namespace L2
open PySem PySem.Spec PyProof.Rows
structure Room (k:Nat) (A:Around):Prop where
 hd:A.handled=none
 dp:A.depth+3 * k+5 < recursionLimit
 un:A.units+16 * k+200 < cLine
theorem Room.mono {j k:Nat} {A:Around} (r:Room k A) (h:j<=k):Room j A:=⟨r.hd,by have:=r.dp;lia,by have:=r.un;lia⟩
theorem Room.deeper {k:Nat} {A:Around} (r:Room (k+1) A) (env:Env):Room k (A.deeper env):=
 ⟨r.hd,by have:=r.dp;show A.depth+1+3 * k+5 < _;lia,by have:=r.un;show A.units+3+16 * k+200 < _;lia⟩
theorem Room.in1 {k:Nat} {A:Around} (r:Room (k+1) A):Room k A.in1:=
 ⟨r.hd,by have:=r.dp;show A.depth+3 * k+5 < _;lia,by have:=r.un;show A.units+1+16 * k+200 < _;lia⟩
theorem make_depth {A:Around} {C:Addr} {us:List Value} {kw:List (Str×Value)}:(A.under (.builtin "type.__call__" ⟨.ref C::us,kw⟩)).depth=A.depth+1:=by
 first | rfl | simp [Around.under,Code.weight,Code.isCreation,Code.isGuard,Code.isCaller,Code.frames,Code.isFrame,guardIds]
theorem make_units {A:Around} {C:Addr} {us:List Value} {kw:List (Str×Value)}:(A.under (.builtin "type.__call__" ⟨.ref C::us,kw⟩)).units=A.units+1:=by
 first | rfl | simp [Around.under,Code.cUnits,Code.frames,Code.isFrame]
theorem Room.make {k:Nat} {A:Around} (r:Room (k+1) A) (C:Addr) (us:List Value) (kw:List (Str×Value)):Room k (A.under (.builtin "type.__call__" ⟨.ref C::us,kw⟩)):=
 ⟨r.hd,by have:=r.dp;rw [make_depth];lia,by have:=r.un;rw [make_units];lia⟩
theorem Room.depth {k:Nat} {A:Around} (r:Room k A):A.depth < recursionLimit:=by have:=r.dp;lia
theorem Room.units {k:Nat} {A:Around} (r:Room k A):A.units+64 < cLine:=by have:=r.un;lia
theorem Room.units0 {k:Nat} {A:Around} (r:Room k A):A.units < cLine:=by have:=r.un;lia
def tNil:TA:=fun _ H Q=>Q [] H
def tCons (ta:TE) (tr:TA):TA:=fun σ H Q=>ta σ H fun x H1=>tr σ H1 fun xs H2=>Q (x::xs) H2
section
variable {X:Cx} {e:Expr} {es:List Expr} {te:TE} {t:TA} {pos:Pos}
theorem pa_nil:PA X [] tNil:=fun _ _ _ _ H Q I h=>Calls.spliced_nil ⟨[],H,I,.nil,h⟩
theorem pa_cons (ha:PE X e te) (hr:PA X es t) (hs:starEach (e::es) X.env=(false,eval e X.env)::starEach es X.env:=by rfl):PA X (e::es) (tCons te t):=by
 intro pos pins s σ H Q I h
 rw [hs]
 show wpAny _ _ (spliced ((false,eval e X.env)::backTo pos (starEach es X.env))) _ _ s
 refine Calls.spliced_cons (thn (ha pins s σ H _ I h) fun u s1 ⟨x,H1,I1,r1,q1⟩=>?_)
 exact thn (hr pos pins s1 σ H1 _ I1 q1) fun us s2 ⟨xs,H2,I2,r2,q2⟩=>⟨x::xs,H2,I2,.cons r1 r2,q2⟩
def tTup (t:TA):TE:=fun σ H Q=>t σ H fun xs H1=>xs.length<=sizeLine/\∀p,H1 p=none->Q (.ref p) (upd H1 p (.tup xs))
def tLst (t:TA):TE:=fun σ H Q=>t σ H fun xs H1=>xs.length<=sizeLine/\∀p,H1 p=none->Q (.ref p) (upd H1 p (.lst xs))
theorem pe_tup {x1} (h:PA X es t):PE X (.Tuple es x1 pos) (tTup t):=by
 intro pins s σ H Q I hq
 refine wpAny_Tuple_spliced (thn (h pos pins s σ H _ I hq) fun us s1 ⟨xs,H1,I1,r,z,q⟩=>⟨by rw [<-r.length];exact z,?_⟩)
 have hf:H1 s1.heap.objs.size=none:=I1.hok.fresh (Nat.le_refl _)
 refine ⟨.ref s1.heap.objs.size,upd H1 s1.heap.objs.size (.tup xs),I1.laid (t':=s1.toks) (fun b u e=>Heap.get?_push_of_some _ e) (Nat.le_refl _) ?_,rfl,q _ hf⟩
 exact ⟨z,us,r,⟨_,Heap.get?_push_size _ rfl,rfl,_,rfl⟩⟩
theorem pe_lst (h:PA X es t):PE X (.List es pos) (tLst t):=by
 intro pins s σ H Q I hq
 refine wpAny_List_spliced (thn (h pos pins s σ H _ I hq) fun us s1 ⟨xs,H1,I1,r,z,q⟩=>⟨by rw [<-r.length];exact z,?_⟩)
 have hf:H1 s1.heap.objs.size=none:=I1.hok.fresh (Nat.le_refl _)
 refine ⟨.ref s1.heap.objs.size,upd H1 s1.heap.objs.size (.lst xs),I1.laid (t':=s1.toks) (fun b u e=>Heap.get?_push_of_some _ e) (Nat.le_refl _) ?_,rfl,q _ hf⟩
 exact ⟨z,us,0,r,Heap.get?_push_size _ rfl⟩
end
abbrev Sp:=List V->Hp->VK->XK->Prop
abbrev CXT:=List Env->Hp->Shared->XK->Value->Shared->Prop
structure Env0 (P:Program) (w:World) (K:PySem.W.Frag) (mg:Str->Option Value) (base:Heap) (A:Around) (outer:List Env) (s:Shared) (H:Hp):Prop where
 frames:A.frames=some outer
 mod:Mod K mg base
 bs:∀b o,base.get? b=some o->s.heap.get? b=some o/\H b=none
 bsz:base.objs.size<=s.heap.objs.size
 funs:s.heap.FunFrames base outer
 frf:∀b∈frs outer,H b=none
 hok:HOk P w H s.heap
 bare:AllBare s.gens
def CE (outer:List Env) (P:Program) (w:World) (H:Hp) (s:Shared) (Q:VK) (u:Value) (s':Shared):Prop:=
 ∃v H',s'.os=s.os/\AllBare s'.gens/\Un (frs outer) [] H H' s.heap s'.heap/\HOk P w H' s'.heap/\RelV v u/\Q v H'
def CR (CX:CXT) (outer:List Env) (P:Program) (w:World) (H:Hp) (s:Shared) (Q:VK) (E:XK) (r:Result) (s':Shared):Prop:=
 match r with
 | .ok (.ret u)=>CE outer P w H s Q u s'
 | .ok _=>False
 | .error e=>CX outer H s E e s'
structure FnOk (P:Program) (w:World) (K:PySem.W.Frag) (mg:Str->Option Value) (base:Heap) (CX:CXT) (k:Nat) (f:Addr) (fd:FuncData) (ps:List Str) (sp:Sp):Prop where
 len:∀vs H Q E,sp vs H Q E->vs.length=ps.length
 run:∀(A:Around) (outer:List Env) (s:Shared) (H:Hp) (args:Args) (us:List Value) (vs:List V) (Q:VK) (E:XK),Room k A->Env0 P w K mg base A outer s H->BindsTo s fd args (ps.zip us)->Vals vs us->sp vs H Q E->
  codeAny (model P w) A (.call (.ref f) args) (CR CX outer P w H s Q E) s
theorem Env0.make {P:Program} {w:World} {K:PySem.W.Frag} {mg:Str->Option Value} {base:Heap} {A:Around} {outer:List Env} {s:Shared} {H:Hp} (e:Env0 P w K mg base A outer s H) (C:Addr) (us:List Value) (kw:List (Str×Value)) :
  Env0 P w K mg base (A.under (.builtin "type.__call__" ⟨.ref C::us,kw⟩)) outer s H:=⟨by first | exact e.frames | (simpa [Around.under,Code.envs,Code.isFrame,pushEnvs] using e.frames),e.mod,e.bs,e.bsz,e.funs,e.frf,e.hok,e.bare⟩
theorem Env0.in1 {P:Program} {w:World} {K:PySem.W.Frag} {mg:Str->Option Value} {base:Heap} {A:Around} {outer:List Env} {s:Shared} {H:Hp} (e:Env0 P w K mg base A outer s H) :
  Env0 P w K mg base A.in1 outer s H:=⟨e.frames,e.mod,e.bs,e.bsz,e.funs,e.frf,e.hok,e.bare⟩
section
variable {X:Cx} {pins:List (Addr×Obj)} {σ:St} {H:Hp} {s s':Shared}
theorem Inv.env0 (I:Inv X pins σ H s):Env0 X.prog X.w X.K X.mg X.base X.A X.stack s H:=
 ⟨I.ok.frames,I.ok.mod,I.bs,Nat.le_trans I.ok.bsz I.sz,I.stack,I.stkFree,I.hok,I.bare⟩
theorem Inv.after {Q:VK} {u:Value} (I:Inv X pins σ H s) (h:CE X.stack X.prog X.w H s Q u s'):EP X pins σ Q u s':=by
 obtain ⟨v,H',os,bare,un,hok,r,q⟩:=h
 obtain ⟨hh,g,d,t,os'⟩:=s'
 obtain rfl:os'=s.os:=os
 exact ⟨v,H',I.call (h':=hh) (g':=g) (d':=d) (t':=t) (ch:=[]) un hok bare (fun b z=>absurd z (by simp)),r,q⟩
end
def tCall (sp:Sp) (dvs:List V) (E:XK) (t:TA):TE:=fun σ H Q=>t σ H fun vs H1=>sp (vs++dvs) H1 Q E
def tMeth (C:Addr) (m:Str) (sp:Sp) (dvs:List V) (E:XK) (ta:TE) (t:TA):TE:=fun σ H Q=>ta σ H fun x H1=>∃a dx fs,x=.ref a/\H1 a=some (.ins C dx fs)/\fs.lookup m=none/\
 t σ H1 fun vs H2=>sp (x::(vs++dvs)) H2 Q E
def tMake (C:Addr) (sp:Sp) (dvs:List V) (E:XK) (t:TA):TE:=fun σ H Q=>t σ H fun vs H1=>∀x dx,H1 x=none->H1 dx=none->dx≠x->
 sp (.ref x::(vs++dvs)) (upd (upd H1 dx (.own x)) x (.ins C dx [])) (fun v H2=>v=.non/\Q (.ref x) H2) E
def Binds (K:PySem.W.Frag) (fd:FuncData) (ps:List Str) (ds:List Value):Prop:=
 ∀(s:Shared) (us:List Value),K.In s.heap->(us++ds).length=ps.length->BindsTo s fd ⟨us,[]⟩ (ps.zip (us++ds))
theorem Binds.all {K:PySem.W.Frag} {fd:FuncData} {ps:List Str} (h:∀us:List Value,us.length=ps.length->bindArgs fd ⟨us,[]⟩=pure (ps.zip us)):Binds K fd ps []:=fun s us _ hl=>by
 rw [List.append_nil] at hl ⊢
 exact .of_eq (h us hl)
def Passes (CX:CXT) (X:Cx) (E:XK):Prop:=∀(pins:List (Addr×Obj)) (σ:St) (H:Hp) (s:Shared) (e:Value) (s':Shared),Inv X pins σ H s->CX X.stack H s E e s'->X.xe e s'
section
variable {X:Cx} {CX:CXT} {k:Nat} {f C:Addr} {fd:FuncData} {ps:List Str} {sp:Sp} {dvs:List V} {ds:List Value} {E:XK} {x m:Str} {p pos apos:Pos} {e o:Expr} {es:List Expr} {ta:TE} {t:TA}
theorem run_fn {pins:List (Addr×Obj)} {σ:St} {H:Hp} {s:Shared} {Q:VK} {us:List Value} {vs:List V} (F:FnOk X.prog X.w X.K X.mg X.base CX k f fd ps sp) (hr:Room k X.A) (hb:Binds X.K fd ps ds) (hd:Vals dvs ds) (hx:Passes CX X E)
  (I:Inv X pins σ H s) (r:Vals vs us) (h:sp (vs++dvs) H Q E):wpAny (model X.prog X.w) X.A (call (.ref f) us) (EP X pins σ Q) X.xe s:=by
 have r2:Vals (vs++dvs) (us++ds):=r.append hd
 have hl:(us++ds).length=ps.length:=by rw [<-r2.length];exact F.len _ _ _ _ h
 refine wpAny_call (codeAny_mono (F.run X.A X.stack s H ⟨us,[]⟩ (us++ds) (vs++dvs) Q E hr I.env0 (hb s us I.kIn hl) r2 h) fun r s' hq=>?_)
 cases r with
 | error e=>exact hx pins σ H s e s' I hq
 | ok fl=>
  cases fl with
  | ret u=>exact I.after hq
  | next=>exact False.elim hq
  | brk=>exact False.elim hq
  | cont=>exact False.elim hq
theorem pe_call (F:FnOk X.prog X.w X.K X.mg X.base CX k f fd ps sp) (hr:Room k X.A) (hg:Gl X x) (hm:X.mg x=some (.ref f)) (hk:PySem.W.keepIn X.K (.ref f)=true) (hb:Binds X.K fd ps ds) (hd:Vals dvs ds) (hx:Passes CX X E)
  (ha:PA X (e::es) t) (hdb:(x == ("__debug__" : Str))=false:=by decide) (he:starEach (e::es) X.env=(false,eval e X.env)::starEach es X.env:=by rfl) (hpl:(backTo pos (starEach es X.env)).any (·.1)=false:=by rfl) :
  PE X (.Call (.Name x p) (e::es) [] pos) (tCall sp dvs E t):=by
 intro pins s σ H Q I h
 refine wpAny_Call_Name_kw (ld_glob I hg hm ?_ hdb)
 refine PySem.W.callWith_K (h₀:=X.base) I.ok.mod.kin hk (thn (ha pos pins s σ H _ I h) fun us s1 ⟨vs,H1,I1,r,q⟩=>⟨I1.kIn,?_⟩) he hpl
 exact run_fn F hr hb hd hx I1 r q
theorem pe_meth {pl:Sem Bool} (he:PE X o ta) (c:Cls X.K C) (hm:Meth X.K C m f) (F:FnOk X.prog X.w X.K X.mg X.base CX k f fd ps sp) (hr:Room k X.A) (hb:Binds X.K fd ps ds) (hd:Vals dvs ds) (hx:Passes CX X E) (ha:PA X (e::es) t)
  (hst:starEach (e::es) X.env=(false,eval e X.env)::starEach es X.env:=by rfl) (hpl:(backTo pos (starEach es X.env)).any (·.1)=false:=by rfl)
  (ht:eval (.Call (.Attribute o m apos) (e::es) [] pos) X.env=(do
   let ov <-eval o X.env
   standAt apos.atName
   let (f,first) <-holding [ov] (getMethod ov m pl)
   callWith pos f first (backTo pos (starEach (e::es) X.env)) (backToKw pos (keywordEach [] X.env))):=by rfl) :
  PE X (.Call (.Attribute o m apos) (e::es) [] pos) (tMeth C m sp dvs E ta t):=by
 intro pins s σ H Q I h
 refine PySem.W.methodCall_KW (pl:=pl) (thn (he pins s σ H _ I h) fun u s1 ⟨x,H1,I1,rx,a,dx,fs,ex,ea,l,q⟩=>?_) ht
 subst ex
 obtain rfl:u=Value.ref a:=rx
 refine getmeth_ok I1 ea c hm l ?_
 refine PySem.W.callWith_K (first:=[.ref a]) (h₀:=X.base) I.ok.mod.kin hm.kp (thn (ha pos pins s1 σ H1 _ I1 q) fun us s2 ⟨vs,H2,I2,r,q2⟩=>⟨I2.kIn,?_⟩) hst hpl
 exact run_fn (us:=.ref a::us) (vs:=.ref a::vs) F hr hb hd hx I2 (.cons rfl r) q2
structure Mk (K:PySem.W.Frag) (C f:Addr):Prop where
 makes:PySem.W.makesIn K C=true
 init:PySem.W.findIn K (.ref C) "__init__" = some (some (.ref f))
 fn:PySem.W.isFn K (.ref f)=true
 kp:PySem.W.keepIn K (.ref C)=true
theorem run_make {pins:List (Addr×Obj)} {σ:St} {H:Hp} {s:Shared} {Q:VK} {us:List Value} {vs:List V} (M:Mk X.K C f) (F:FnOk X.prog X.w X.K X.mg X.base CX k f fd ps sp) (hr:Room (k+1) X.A) (hb:Binds X.K fd ps ds) (hd:Vals dvs ds)
  (hx:Passes CX X E) (I:Inv X pins σ H s) (r:Vals vs us)
  (h:∀x dx,H x=none->H dx=none->dx≠x->sp (.ref x::(vs++dvs)) (upd (upd H dx (.own x)) x (.ins C dx [])) (fun v H2=>v=.non/\Q (.ref x) H2) E) :
  wpAny (model X.prog X.w) X.A (call (.ref C) us) (EP X pins σ Q) X.xe s:=by
 have hq:=h (s.heap.objs.size+1) s.heap.objs.size (I.hok.fresh (Nat.le_succ _)) (I.hok.fresh (Nat.le_refl _)) (Nat.ne_of_lt (Nat.lt_succ_self _))
 have I2:=Inv.made (C:=C) I
 have r2:Vals (V.ref (s.heap.objs.size+1)::(vs++dvs)) (Value.ref (s.heap.objs.size+1)::(us++ds)):=.cons rfl (r.append hd)
 have hl:(Value.ref (s.heap.objs.size+1)::us++ds).length=ps.length:=by
  have e:=r2.length
  rw [F.len _ _ _ _ hq] at e
  exact e.symm
 refine wpAny_call (make_map (f:=f) I.kIn M.makes M.init (beq_iff_eq.mp M.fn) (codeAny_mono (F.run _ X.stack _ _ ⟨Value.ref (s.heap.objs.size+1)::us,[]⟩ (Value.ref (s.heap.objs.size+1)::(us++ds)) _ _ E (hr.make C us [])
  (I2.env0.make C us []) (hb _ (Value.ref (s.heap.objs.size+1)::us) I2.kIn hl) r2 hq) fun r s' hq'=>?_))
 cases r with
 | error e=>exact hx pins σ _ _ e s' I2 hq'
 | ok fl=>
  cases fl with
  | ret u=>
   obtain ⟨v,H',I3,rv,ev,q3⟩:=I2.after hq'
   subst ev
   exact ⟨rv,⟨V.ref (s.heap.objs.size+1),H',I3,rfl,q3⟩⟩
  | next=>exact False.elim hq'
  | brk=>exact False.elim hq'
  | cont=>exact False.elim hq'
theorem pe_make (M:Mk X.K C f) (F:FnOk X.prog X.w X.K X.mg X.base CX k f fd ps sp) (hr:Room (k+1) X.A) (hg:Gl X x) (hm:X.mg x=some (.ref C)) (hb:Binds X.K fd ps ds) (hd:Vals dvs ds) (hx:Passes CX X E)
  (ha:PA X (e::es) t) (hdb:(x == ("__debug__" : Str))=false:=by decide) (he:starEach (e::es) X.env=(false,eval e X.env)::starEach es X.env:=by rfl) (hpl:(backTo pos (starEach es X.env)).any (·.1)=false:=by rfl) :
  PE X (.Call (.Name x p) (e::es) [] pos) (tMake C sp dvs E t):=by
 intro pins s σ H Q I h
 refine wpAny_Call_Name_kw (ld_glob I hg hm ?_ hdb)
 refine PySem.W.callWith_K (h₀:=X.base) I.ok.mod.kin M.kp (thn (ha pos pins s σ H _ I h) fun us s1 ⟨vs,H1,I1,r,q⟩=>⟨I1.kIn,?_⟩) he hpl
 exact run_make M F hr hb hd hx I1 r q
end
def PK (X:Cx) (kws:List Keyword) (t:TA):Prop:=
 ∀(pos:Pos) (pins:List (Addr×Obj)) (s:Shared) (σ:St) (H:Hp) (Q:List V->Hp->Prop),Inv X pins σ H s->t σ H Q->wpAny (model X.prog X.w) X.A (evalAll ((backToKw pos (keywordEach kws X.env)).map (·.2))) (AP X pins σ Q) X.xe s
section
variable {X:Cx} {CX:CXT} {k:Nat} {f C:Addr} {fd:FuncData} {ps ks:List Str} {sp:Sp} {E:XK} {x m:Str} {p pos apos kpos:Pos} {e o:Expr} {es:List Expr} {kws:List Keyword} {te ta:TE} {t tk:TA} {nm:Option Str}
theorem pk_nil:PK X [] tNil:=fun _ _ _ _ H Q I h=>wpAny_evalAll_nil ⟨[],H,I,.nil,h⟩
theorem pk_cons (ha:PE X e te) (hr:PK X kws t):PK X (⟨nm,e,kpos⟩::kws) (tCons te t):=by
 intro pos pins s σ H Q I h
 show wpAny _ _ (evalAll ((do let v <-eval e X.env;standAt pos;pure v)::(backToKw pos (keywordEach kws X.env)).map (·.2))) _ _ s
 refine wpAny_evalAll_cons (wpAny_bind (thn (ha pins s σ H _ I h) fun u s1 ⟨x,H1,I1,r1,q1⟩=>wpAny_bind (wpAny_standAt (wpAny_pure ?_))))
 exact thn (hr pos pins s1 σ H1 _ I1 q1) fun us s2 ⟨xs,H2,I2,r2,q2⟩=>⟨x::xs,H2,I2,.cons r1 r2,q2⟩
variable {g:List Value->List Value->List Value} {gV:List V->List V->List V}
end
structure FnScope (N P:List Str) (sc:Scope):Prop where
 kind:sc.kind=.function
 co:sc.isCoroutine=false
 gen:sc.isGenerator=false
 nd:N.Nodup
 pre:N.take P.length=P
 par:∀x∈P,sc.names.lookup x=some .local\/sc.names.lookup x=some .cell
 nofree:∀y∈sc.names,y.2≠.free
theorem bindL_out {kindOf:Str->Option NameKind} {x:Str}:∀{binds:List (Str×Value)} {m:Str->Option Value},(∀v,(x,v)∉binds)->bindL kindOf binds m x=m x
 | [],_,_=>rfl
 | (n,v)::r,m,h=>by
  unfold bindL
  rw [bindL_out fun w hw=>h w (List.mem_cons_of_mem _ hw)]
  split
  ·have:x≠n:=by rintro rfl;exact h v List.mem_cons_self
   simp [this]
  ·rfl
theorem bindC_out {kindOf:Str->Option NameKind} {x:Str}:∀{binds:List (Str×Value)} {m:Str->Option Value},(∀v,(x,v)∉binds)->bindC kindOf binds m x=m x
 | [],_,_=>rfl
 | (n,v)::r,m,h=>by
  unfold bindC
  rw [bindC_out fun w hw=>h w (List.mem_cons_of_mem _ hw)]
  split
  ·rfl
  ·have:x≠n:=by rintro rfl;exact h v List.mem_cons_self
   simp [this]
theorem bindL_get {kindOf:Str->Option NameKind} {x:Str} {v:Value}:∀{P:List Str} {vs:List Value} {i:Nat} {m:Str->Option Value},P.Nodup->P[i]? = some x->vs[i]? = some v->kindOf x=some .local->
  bindL kindOf (P.zip vs) m x=some v
 | [],_,_,_,_,h,_,_=>by simp at h
 | _::_,[],_,_,_,_,h,_=>by simp at h
 | p::P,w::vs,0,m,nd,h1,h2,hk=>by
  simp at h1 h2;subst h1;subst h2
  show bindL kindOf ((p,w)::P.zip vs) m p=_
  unfold bindL
  rw [bindL_out fun v hv=>(List.nodup_cons.mp nd).1 (List.of_mem_zip hv).1,if_pos hk]
  simp
 | p::P,w::vs,i+1,m,nd,h1,h2,hk=>by
  show bindL kindOf ((p,w)::P.zip vs) m x=_
  unfold bindL
  exact bindL_get (i:=i) (List.nodup_cons.mp nd).2 (by simpa using h1) (by simpa using h2) hk
theorem bindC_get {kindOf:Str->Option NameKind} {x:Str} {v:Value}:∀{P:List Str} {vs:List Value} {i:Nat} {m:Str->Option Value},P.Nodup->P[i]? = some x->vs[i]? = some v->kindOf x≠some .local->
  bindC kindOf (P.zip vs) m x=some v
 | [],_,_,_,_,h,_,_=>by simp at h
 | _::_,[],_,_,_,_,h,_=>by simp at h
 | p::P,w::vs,0,m,nd,h1,h2,hk=>by
  simp at h1 h2;subst h1;subst h2
  show bindC kindOf ((p,w)::P.zip vs) m p=_
  unfold bindC
  rw [bindC_out fun v hv=>(List.nodup_cons.mp nd).1 (List.of_mem_zip hv).1,if_neg hk]
  simp
 | p::P,w::vs,i+1,m,nd,h1,h2,hk=>by
  show bindC kindOf ((p,w)::P.zip vs) m x=_
  unfold bindC
  exact bindC_get (i:=i) (List.nodup_cons.mp nd).2 (by simpa using h1) (by simpa using h2) hk
def start (N:List Str) (vs:List V):St:=vs.map some++List.replicate (N.length - vs.length) none
def cxOf (CX:CXT) (P:Program) (w:World) (K:PySem.W.Frag) (mg:Str->Option Value) (base:Heap) (N:List Str) (qual:Str) (scope:Scope) (f:Addr) (cd:Value) (A:Around) (outer:List Env) (s:Shared) (H:Hp) (E:XK):Cx where
 prog:=P
 w:=w
 K:=K
 mg:=mg
 base:=base
 A:=A.deeper (envOfC qual scope s.heap.objs.size f cd)
 N:=N
 s₀:=s
 H₀:=H
 env:=envOfC qual scope s.heap.objs.size f cd
 outer:=outer
 stack:=envOfC qual scope s.heap.objs.size f cd::outer
 ex:=[]
 calm:=true
 fn:=fun _=>true
 pn:=[]
 xe:=fun e s'=>wpAny (model P w) (A.deeper (envOfC qual scope s.heap.objs.size f cd)) (leaving (envOfC qual scope s.heap.objs.size f cd) e) (fun _ s''=>CX outer H s E e s'') (fun e' s''=>CX outer H s E e' s'') s'
theorem cell_has {sc:Scope} {n:Nat} {x:Str} (h:sc.names.lookup x=some .cell):∃c,(cellsFrom n sc.names []).lookup x=some c:=by
 have q:=PySem.W.cellsFrom_some sc.names n [] (.inl h)
 exact Option.isSome_iff_exists.mp q
theorem inv_start {CX:CXT} {P:Program} {w:World} {K:PySem.W.Frag} {mg:Str->Option Value} {base:Heap} {N ps:List Str} {qual:Str} {scope:Scope} {f:Addr} {cd:Value} {A:Around} {outer:List Env} {s s1:Shared} {H:Hp} {E:XK} {us:List Value} {vs:List V}
  (S:FnScope N ps scope) (hd:A.handled=none) (e0:Env0 P w K mg base A outer s H) (hl:vs.length=ps.length) (r:Vals vs us)
  (x:InCallC s s.heap.objs.size (bindL (envOfC qual scope s.heap.objs.size f cd).kindOf (ps.zip us) fun _=>none) (cellsFrom (s.heap.objs.size+1) scope.names []) (bindC (envOfC qual scope s.heap.objs.size f cd).kindOf (ps.zip us) fun _=>none) s1) :
  Inv (cxOf CX P w K mg base N qual scope f cd A outer s H E) [] (start N vs) H s1:=by
 have hpl:ps.length<=N.length:=by have:=congrArg List.length S.pre;rw [List.length_take] at this;lia
 obtain ⟨h1,tk,rfl,hk⟩:=x.done
 have noA:∀b:Addr,b∉(cxOf CX P w K mg base N qual scope f cd A outer s H E).ex:=fun b z=>absurd (show b∈([]:List Addr) from z) (by simp)
 refine ⟨⟨e0.mod,S.kind,rfl,rfl,Nat.le_refl _,fun y z c h1 h2=>?_,fun y hy=>?_,fun y c _ h=>?_,fun _=>hd,Around.frames_deeper e0.frames,.inr ⟨rfl,rfl⟩,fun b z=>absurd z (noA b),e0.bs,e0.bsz,fun b _ _=>noA b,fun b z=>absurd z (noA b),e0.funs,e0.frf⟩,
  rfl,e0.bare,Un.kept hk,⟨_,x.toInCall.ns,fun i y v h1 h2 h3=>?_⟩,fun y c h=>⟨_,x.cell y c h⟩,e0.hok.fresh (Nat.le_refl _),fun y c h=>?_,fun p hp=>absurd (show p∈([]:List (Addr×Obj)) from hp) (by simp),e0.hok.kept hk,?_⟩
 ·exact name_of_addr x.apart (PySem.mem_of_lookup h1) (PySem.mem_of_lookup h2)
 ·have hy:scope.names.lookup y=some .cell\/scope.names.lookup y=some .free:=hy
  rcases hy with hy | hy
  ·exact cell_has hy
  ·exact absurd rfl (S.nofree _ (PySem.mem_of_lookup hy))
 ·exact Nat.le_of_lt (x.above y c (PySem.mem_of_lookup h))
 ·have hi:i < vs.length:=by
   unfold start at h2
   by_cases hi:i < vs.length
   ·exact hi
   ·rw [List.getElem?_append_right (by simpa using hi)] at h2
    rw [List.getElem?_replicate] at h2
    split at h2 <;> cases h2
  have ha:vs[i]? = some v:=by
   unfold start at h2
   rw [List.getElem?_append_left (by simpa using hi),List.getElem?_map] at h2
   cases e:vs[i]? with
   | none=>rw [e] at h2;cases h2
   | some a=>rw [e] at h2;cases h2;rfl
  obtain ⟨u,hu,rv⟩:=r.get ha
  have hp:ps[i]? = some y:=by
   rw [<-S.pre,List.getElem?_take_of_lt (by lia)];exact h1
  have ndP:ps.Nodup:=by rw [<-S.pre];exact S.nd.sublist (List.take_sublist _ _)
  refine ⟨u,rv,?_⟩
  rcases S.par y (List.mem_of_getElem? hp) with k | k
  ·exact .inl ⟨k,bindL_get ndP hp hu k⟩
  ·obtain ⟨c,e⟩:=cell_has (n:=s.heap.objs.size+1) k
   refine .inr ⟨.inl k,c,e,?_⟩
   have q:=x.cell y c e
   rw [bindC_get ndP hp hu (by show scope.names.lookup y≠_;rw [k];decide)] at q
   exact q
 ·exact e0.hok.fresh (Nat.le_of_lt (x.above y c (PySem.mem_of_lookup h)))
 ·unfold start
  show _=N.length
  rw [List.length_append,List.length_map,List.length_replicate]
  lia
theorem fn_of {CX:CXT} {P:Program} {w:World} {K:PySem.W.Frag} {mg:Str->Option Value} {base:Heap} {k:Nat} {f:Addr} {name qual:Str} {params:Arguments} {body:List Stmt} {scope:Scope} {dV kV doc pm cdv ct oc:Value} {an od:Option Addr}
  {osl:Array (Option Value)} {N ps:List Str} {sp:Sp} (lk:K.lookup f=some ⟨oc,od,.func (PySem.W.fnOf name qual params body scope dV kV doc pm an cdv ct),osl⟩) (hcd:PySem.W.codeIn K cdv qual=true) (S:FnScope N ps scope)
  (len:∀vs H Q E,sp vs H Q E->vs.length=ps.length)
  (hbody:∀(A:Around) (outer:List Env) (s:Shared) (H:Hp) (vs:List V) (Q:VK) (E:XK),Room k (A.deeper (envOfC qual scope s.heap.objs.size f cdv))->sp vs H Q E->
   ∃t,PSs (cxOf CX P w K mg base N qual scope f cdv A outer s H E) body t/\t { nx:=fun _ H'=>Q .non H',rt:=Q } (start N vs) H) :
  FnOk P w K mg base CX (k+1) f (PySem.W.fnOf name qual params body scope dV kV doc pm an cdv ct) ps sp:=by
 refine ⟨len,fun A outer s H args us vs Q E hr e0 hb r hsp=>?_⟩
 have hl:=len _ _ _ _ hsp
 have KX:K.In s.heap:=e0.mod.kin.keeps fun b o e=>(e0.bs b o e).1
 have lim:s.heap.NoLimit:=e0.mod.nolimit.keeps fun b o e=>(e0.bs b o e).1
 have hkind:∀y∈ps.zip us,scope.names.lookup y.1=some .local\/(scope.names.lookup y.1=some .cell/\((cellsFrom (s.heap.objs.size+1) scope.names []).lookup y.1).isSome=true):=fun ⟨n,v⟩ hy=>by
  rcases S.par n (List.of_mem_zip hy).1 with q | q
  ·exact .inl q
  ·exact .inr ⟨q,PySem.W.cellsFrom_some _ _ _ (.inl q)⟩
 refine codeAny_call_function hr.depth (KX _ _ lk) rfl S.co S.gen rfl (PySem.W.codeRec_of KX hcd) (hb _ _ _ _ ?_)
 refine wpAny_newFunctionEnv_cells S.kind hkind fun env he s1 x=>?_
 subst he
 refine ⟨lim.keeps x.toInCall.keep,codeAny_func ?_⟩
 obtain ⟨t,ht,hq⟩:=hbody A outer s H vs Q E (hr.deeper _) hsp
 have I:Inv (cxOf CX P w K mg base N qual scope f cdv A outer s H E) [] (start N vs) H s1:=inv_start S hr.hd e0 hl r x
 refine wpAny_mono (ht [] s1 (start N vs) H _ I hq) (fun fl s' hs=>?_) fun e s' hs=>hs
 have fin:∀{σ':St} {H':Hp} {v:V} {u:Value},Inv (cxOf CX P w K mg base N qual scope f cdv A outer s H E) [] σ' H' s'->RelV v u->Q v H'->CE outer P w H s Q u s':=
  fun {σ' H' v u} J rv q=>⟨v,H',J.os,J.bare,J.base,J.hok,rv,q⟩
 cases fl with
 | ret u=>
  obtain ⟨v,σ',H',J,rv,q⟩:=hs
  exact fin J rv q
 | next=>
  obtain ⟨σ',H',J,q⟩:=hs
  exact fin (v:=V.non) (u:=Value.none) J rfl q
 | brk=>
  obtain ⟨_,_,_,q⟩:=hs
  exact False.elim q
 | cont=>
  obtain ⟨_,_,_,q⟩:=hs
  exact False.elim q
end L2
namespace L2
open PySem PySem.Spec PyProof.Rows
section
variable {X:Cx} {x:Str} {p pos:Pos} {e:Expr} {es:List Expr} {t:TA} {id T:String} {r:List V->Hp->VK->Prop}
def tCB (r:List V->Hp->VK->Prop) (t:TA):TE:=fun σ H Q=>t σ H fun vs H1=>r vs H1 Q
theorem pe_callB (hc:CallR X (.builtin id) r) (hg:Gl X x) (hm:X.mg x=none) (hv:bootBuiltins x=some (.builtin id)) (ha:PA X (e::es) t) (hn:x≠"__name__":=by decide) (hdb:(x == ("__debug__" : Str))=false:=by decide)
  (he:starEach (e::es) X.env=(false,eval e X.env)::starEach es X.env:=by rfl) (hpl:(backTo pos (starEach es X.env)).any (·.1)=false:=by rfl):PE X (.Call (.Name x p) (e::es) [] pos) (tCB r t):=by
 intro pins s σ H Q I h
 refine wpAny_Call_Name_kw (ld_blt I hg hm hv ?_ hn hdb)
 exact PyProof.Rows.callWith_builtin1 (thn (ha pos pins s σ H _ I h) fun us s1 ⟨vs,H1,I1,r1,q1⟩=>hc pins s1 σ H1 vs us Q I1 r1 q1) he hpl
theorem pe_callTy (hc:CallR X (.type T) r) (hg:Gl X x) (hm:X.mg x=none) (hv:bootBuiltins x=some (.type T)) (ha:PA X (e::es) t) (hn:x≠"__name__":=by decide) (hdb:(x == ("__debug__" : Str))=false:=by decide)
  (he:starEach (e::es) X.env=(false,eval e X.env)::starEach es X.env:=by rfl) (hpl:(backTo pos (starEach es X.env)).any (·.1)=false:=by rfl):PE X (.Call (.Name x p) (e::es) [] pos) (tCB r t):=by
 intro pins s σ H Q I h
 refine wpAny_Call_Name_kw (ld_blt I hg hm hv ?_ hn hdb)
 exact PyProof.Rows.callWith_type1 (thn (ha pos pins s σ H _ I h) fun us s1 ⟨vs,H1,I1,r1,q1⟩=>hc pins s1 σ H1 vs us Q I1 r1 q1) he hpl
end
end L2
namespace HT
open PySem PyProof.Rows
def lexLt:List Int->List Int->Bool
 | [],[]=>false
 | [],_::_=>true
 | _::_,[]=>false
 | x::xs,y::ys=>if x=y then lexLt xs ys else decide (x < y)
theorem lexLt_cons (x y:Int) (xs ys:List Int):lexLt (x::xs) (y::ys)=if x=y then lexLt xs ys else decide (x < y):=rfl
theorem lexLt_nil_nil:lexLt [] []=false:=rfl
theorem lexLt_nil_cons (y:Int) (ys:List Int):lexLt [] (y::ys)=true:=rfl
theorem lexLt_cons_nil (x:Int) (xs:List Int):lexLt (x::xs) []=false:=rfl
theorem eqAt_int (A:Around) (s:Shared) (a:Int) (t:Tok) (c:Int) (u:Tok):∃e,SeqAt.EqAt A s (.int a t) (.int c u) e/\(e=true↔a=c):=
 ⟨(a == c),SeqAt.EqAt.int_int a t c u,by simp⟩
theorem rcLt_int (A:Around) (s:Shared) (a:Int) (t:Tok) (c:Int) (u:Tok) (prog:Program) (w:World) (E:Value->Shared->Prop) (Q:Value->Shared->Prop) (h:Q (.bool (decide (a < c))) s) :
  wpAny (model prog w) A (richCompare .Lt (.int a t) (.int c u)) Q E s:=
 (PyProof.Rows.lt_int h:wpAny (model prog w) A (compareOp .Lt (.int a t) (.int c u)) Q E s)
section
open PySem.SeqAt
open PySem.AutoSeq1 (wpAny_loadPart')
open PySem.MeetsSeq PySem.MeetsSeq2 PySem.MeetsSeq3
theorem tuple_lt_ints (l b:Addr) (items items2:Array Value) (n n2:Nat) (dd dd2:Option Addr) (sl sl2:Array (Option Value)) (ns ms:List Int) (hi:IntsAre items.toList ns) (hj:IntsAre items2.toList ms) :
  Meets (Builtin.«tuple.__lt__» ⟨[.ref l,.ref b],[]⟩)
   (fun _ R s=>s.heap.get? l=some { cls:=.type "tuple",dict:=dd,data:=.seq items n,slots:=sl }/\s.heap.get? b=some { cls:=.type "tuple",dict:=dd2,data:=.seq items2 n2,slots:=sl2 }/\
    R (.ok (.ret (.bool (lexLt ns ms)))) s):=
 .of_wp fun prog w A R s h=>by
  obtain ⟨hp,g,d,tk,os⟩:=s;obtain ⟨hl,hb,h⟩:=h
  have f2:=AutoSeq1.sub_tuple_tuple
  have z1:items.size=ns.length:=by rw [<-hi.length];simp
  have z2:items2.size=ms.length:=by rw [<-hj.length];simp
  wp_walk using wpAny_loadPart' hl,wpAny_loadPart' hb,wpAny_forIn_list _ (fun rest b s'=>b.1=none/\s'=⟨hp,g,d,tk,os⟩/\∃(vs ws:List Value) (ns' ms':List Int),rest=vs.zip ws/\
   IntsAre vs ns'/\IntsAre ws ms'/\ns'.length+items2.size=ms'.length+items.size/\R (.ok (.ret (.bool (lexLt ns' ms')))) ⟨hp,g,d,tk,os⟩) _
  case turn=>
   rintro ⟨y,x⟩ rest b s' ⟨hb',rfl,vs,ws,ns',ms',hz,hvi,hwi,hlen,hR⟩
   cases hvi with
   | nil=>rw [List.zip_nil_left] at hz;cases hz
   | cons a t hvi'=>
    cases hwi with
    | nil=>rw [List.zip_nil_right] at hz;cases hz
    | cons c u hwi'=>
     rw [List.zip_cons_cons] at hz
     injection hz with hyx hrest
     injection hyx with hy hx
     subst hy hx
     rw [lexLt_cons] at hR
     simp only [List.length_cons] at hlen
     obtain ⟨e,he,hiff⟩:=eqAt_int A.in1 ⟨hp,g,d,tk,os⟩ a t c u
     refine wpAny_bind (he prog w _ _ ?_)
     cases e with
     | true=>
      rw [if_pos (hiff.mp rfl)] at hR
      wp_walk
      exact ⟨rfl,rfl,_,_,_,_,hrest,hvi',hwi',by lia,hR⟩
     | false=>
      rw [if_neg (fun q=>absurd (hiff.mpr q) Bool.false_ne_true)] at hR
      have hri:=rcLt_int A.in1 ⟨hp,g,d,tk,os⟩ a t c u prog w
      wp_walk using hri
      exact ⟨_,rfl,by simpa using hR⟩
  case fin=>
   rintro ⟨b1,b2⟩ s' ⟨hb',rfl,vs,ws,ns',ms',hz,hvi,hwi,hlen,hR⟩
   simp only at hb'
   subst hb'
   have hv:lexLt ns' ms'=decide (items.size < items2.size):=by
    cases hvi with
    | nil=>
     cases hwi with
     | nil=>
      simp only [List.length_nil] at hlen
      rw [lexLt_nil_nil]
      exact (decide_eq_false (by lia)).symm
     | cons c u hw=>
      simp only [List.length_nil,List.length_cons] at hlen
      rw [lexLt_nil_cons]
      exact (decide_eq_true (by lia)).symm
    | cons a t hv=>
     cases hwi with
     | nil=>
      simp only [List.length_nil,List.length_cons] at hlen
      rw [lexLt_cons_nil]
      exact (decide_eq_false (by lia)).symm
     | cons c u hw=>
      rw [List.zip_cons_cons] at hz
      cases hz
   rw [hv] at hR
   wp_walk
   exact ⟨_,rfl,by simpa [Builtin.Tuple.tupleCompareSizes] using hR⟩
  case h=>
   exact ⟨rfl,rfl,items.toList,items2.toList,ns,ms,rfl,hi,hj,by lia,h⟩
end
section
variable {prog:Program} {w:World} {A:Around} {E:Value->Shared->Prop} {s:Shared}
theorem lt_tupInts {l b:Addr} {items items2:Array Value} {ns ms:List Int} {Q:Value->Shared->Prop} (hl:IsTup s.heap l items) (hb:IsTup s.heap b items2) (hi:IntsAre items.toList ns) (hj:IntsAre items2.toList ms)
  (hu:A.units < cLine) (h:Q (.bool (lexLt ns ms)) s):wpAny (model prog w) A (compareOp .Lt (.ref l) (.ref b)) Q E s:=by
 obtain ⟨⟨cls,dd,data,sl⟩,ho,hc,n,hd⟩:=id hl
 obtain ⟨⟨cls2,dd2,data2,sl2⟩,ho2,hc2,n2,hd2⟩:=id hb
 simp only at hc hd hc2 hd2
 subst hc hd hc2 hd2
 exact richCompare_meets_room (op:=.Lt) ⟨_,ho,rfl⟩ ⟨_,ho2,rfl⟩ PySem.F.slot_tuple_lt PySem.F.entry_tuple_lt (PySem.F.args_tuple_lt_2 _ _) (tuple_lt_ints l b items items2 n n2 dd dd2 sl sl2 ns ms hi hj)
  ⟨ho,ho2,show Value.bool (lexLt ns ms)≠Value.notImplemented/\Q (.bool (lexLt ns ms)) s from ⟨(fun x=>nomatch x),h⟩⟩ hu
theorem cat_tup {t b:Addr} {vs ws:List Value} {Q:Value->Shared->Prop} (ht:IsTup s.heap t vs.toArray) (hb:IsTup s.heap b ws.toArray) (hv:vs≠[])
  (h1:ws=[]->Q (.ref t) s) (h2:ws≠[]->Q (.ref s.heap.objs.size) { s with heap:=s.heap.push { cls:=.type "tuple",data:=.seq (vs++ws).toArray } })
  (hsz:vs.length+ws.length<=sizeLine):wpAny (model prog w) A (binaryOp .Add (.ref t) (.ref b)) Q E s:=by
 obtain ⟨⟨cls,dd,data,sl⟩,ho,hc,n,hd⟩:=id ht
 obtain ⟨⟨cls2,dd2,data2,sl2⟩,ho2,hc2,n2,hd2⟩:=id hb
 simp only at hc hd hc2 hd2
 subst hc hd hc2 hd2
 have e:vs.toArray++ws.toArray=(vs++ws).toArray:=by simp
 by_cases hw:ws=[]
 ·exact concat_meets ⟨_,ho,rfl⟩ ⟨_,ho2,rfl⟩ noFill_tuple_add seq_tuple_add PySem.F.slot_tuple_add PySem.F.entry_tuple_add (PySem.F.args_tuple_add_2 _ _)
   (tuple_addW1 t b vs.toArray ws.toArray n n2 dd dd2 sl sl2 (by simpa using hv) (by simp [hw])) ⟨ho,ho2,h1 hw⟩
 ·refine concat_meets ⟨_,ho,rfl⟩ ⟨_,ho2,rfl⟩ noFill_tuple_add seq_tuple_add PySem.F.slot_tuple_add PySem.F.entry_tuple_add (PySem.F.args_tuple_add_2 _ _)
   (tuple_addW2 t b vs.toArray ws.toArray n n2 dd dd2 sl sl2 (by simpa using hv) (by simpa using hw) (by rw [List.size_toArray,List.size_toArray];exact hsz)) ⟨ho,ho2,?_⟩
  rw [e]
  exact h2 hw
def sIx (n d:Nat):Option Int->Nat
 | none=>d
 | some v=>if v < 0 then (v+(n:Int)).toNat else min v.toNat n
theorem sIx_le (n d:Nat) (hd:d<=n) (o:Option Int):sIx n d o<=n:=by
 cases o with
 | none=>exact hd
 | some v=>
  show (if v < 0 then (v+(n:Int)).toNat else min v.toNat n)<=n
  by_cases hv:v < 0
  ·rw [if_pos hv];lia
  ·rw [if_neg hv];exact Nat.min_le_right _ _
theorem clip_eq (v:Int) (n d:Nat):(if v < 0 then max (v+(n:Int)) 0 else min v (n:Int))=((sIx n d (some v):Nat):Int):=by
 show (if v < 0 then max (v+(n:Int)) 0 else min v (n:Int))=(((if v < 0 then (v+(n:Int)).toNat else min v.toNat n):Nat):Int)
 by_cases hv:v < 0
 ·simp only [if_pos hv];lia
 ·simp only [if_neg hv];lia
theorem adjust_gen (lo hi:Option Int) (n:Nat):Builtin.Slice.sliceAdjust lo hi 1 (n:Int)=(((sIx n 0 lo:Nat):Int),((sIx n n hi:Nat):Int)):=by
 have h1:¬((1:Int) < 0):=by lia
 unfold Builtin.Slice.sliceAdjust
 simp only [h1,if_false]
 refine Prod.ext ?_ ?_
 ·cases lo with
  | none=>rfl
  | some v=>exact clip_eq v n 0
 ·cases hi with
  | none=>rfl
  | some v=>exact clip_eq v n n
theorem places_gen (i j:Nat):Builtin.Slice.slicePlaces (i:Int) (j:Int) 1=j - i:=by
 unfold Builtin.Slice.slicePlaces
 have h1:(1:Int) > 0:=by lia
 simp only [h1,if_true,Int.ediv_one]
 split <;> lia
theorem slicePart_ {v:Value} {o:Option Int} {Q:Option Int->Shared->Prop} (p:IsPart v o) (h:Q o s):wpAny (model prog w) A (Builtin.Slice.slicePartIndex v) Q E s:=by
 cases p with
 | none=>exact slicePart_none h
 | int i t=>exact slicePart_int h
theorem sliceApplied_gen {sl:Addr} {vl vu:Value} {lo hi:Option Int} {n:Nat} {Q:Int×Int×Nat->Shared->Prop} (hs:s.heap.IsSliceOf sl vl vu .none) (pl:IsPart vl lo) (pu:IsPart vu hi)
  (h:Q (((sIx n 0 lo:Nat):Int),1,sIx n n hi - sIx n 0 lo) s):wpAny (model prog w) A (Builtin.Slice.sliceApplied (.ref sl) (pure (n:Int))) Q E s:=by
 obtain ⟨os,hos,hcs,hds⟩:=id hs
 unfold Builtin.Slice.sliceApplied Builtin.Slice.sliceFields
 refine wpAny_bind (wpAny_bind (wpAny_field hos hds (x:=vl) rfl (wpAny_bind (wpAny_field hos hds (x:=vu) rfl (wpAny_bind (wpAny_field hos hds (x:=.none) rfl (wpAny_pure ?_)))))))
 refine wpAny_bind (slicePart_none ?_)
 show wpAny _ _ (if ((1:Int) == 0)=true then _ else _) _ _ s
 rw [if_neg (by decide)]
 refine wpAny_bind (slicePart_ pl (wpAny_bind (slicePart_ pu (wpAny_bind (wpAny_pure ?_)))))
 show wpAny _ _ (match Builtin.Slice.sliceAdjust lo hi 1 (n:Int) with | (lo,hi)=>pure (lo,(1:Int),Builtin.Slice.slicePlaces lo hi 1)) _ _ s
 rw [adjust_gen lo hi n]
 show wpAny _ _ (pure (((sIx n 0 lo:Nat):Int),(1:Int),Builtin.Slice.slicePlaces ((sIx n 0 lo:Nat):Int) ((sIx n n hi:Nat):Int) 1)) _ _ s
 rw [places_gen]
 exact wpAny_pure h
theorem pick_gen (xs:Array Value) (i k:Nat):((List.range k).filterMap fun (m:Nat)=>xs[((i:Int)+(m:Int) * 1).toNat]?).toArray=((xs.toList.drop i).take k).toArray:=by
 have e:(fun (m:Nat)=>xs[((i:Int)+(m:Int) * 1).toNat]?)=fun m=>xs[i+m]?:=by
  funext m
  have:((i:Int)+(m:Int) * 1).toNat=i+m:=by lia
  rw [this]
 rw [e]
 have:=pick_run xs i k
 rw [List.filterMap_map] at this
 have e2:((fun x=>xs[x]?) ∘ fun x=>i+x)=fun m=>xs[i+m]?:=rfl
 rw [e2] at this
 rw [this]
theorem getItem_tuple_cut {t sl:Addr} {items:Array Value} {vl vu:Value} {lo hi:Option Int} {Q:Value->Shared->Prop} (ht:IsTup s.heap t items) (hs:s.heap.IsSliceOf sl vl vu .none) (pl:IsPart vl lo) (pu:IsPart vu hi)
  (hw:¬(sIx items.size 0 lo=0/\sIx items.size items.size hi=items.size))
  (h:Q (.ref s.heap.objs.size) { s with heap:=s.heap.push { cls:=.type "tuple",data:=.seq ((items.toList.drop (sIx items.size 0 lo)).take (sIx items.size items.size hi - sIx items.size 0 lo)).toArray } })
  (hsz:items.size<=sizeLine):wpAny (model prog w) A (getItem (.ref t) (.ref sl)) Q E s:=by
 have htake:sizeOk (.seq ((items.toList.drop (sIx items.size 0 lo)).take (sIx items.size items.size hi - sIx items.size 0 lo)).toArray):=by
  show ((items.toList.drop (sIx items.size 0 lo)).take (sIx items.size items.size hi - sIx items.size 0 lo)).toArray.size<=sizeLine
  rw [List.size_toArray,List.length_take,List.length_drop,Array.length_toList]
  lia
 have hj:sIx items.size items.size hi<=items.size:=sIx_le _ _ (Nat.le_refl _) hi
 obtain ⟨os,hos,hcs,hds⟩:=id hs
 have hTs:s.TypeIs (.ref sl) "slice":=⟨os,hos,hcs⟩
 unfold getItem
 try with_reducible refine wpAny_holding ?_
 first | refine wpAny_bind (wpAny_pure ?_) | skip
 refine wpAny_bind (wpAny_sequenceKey ht.typeIs (by decide) ?_)
 refine wpAny_bind (wpAny_callSpecial?_slot (name:=Str.ofString "__getitem__") ht.typeIs PyProof.Rows.slot_tuple_getitem
  (wpAny_call_entry PyProof.Rows.slot_tuple_getitem ht.typeIs entry_tuple_getitem ?_ (args_tuple_getitem _ _)))
 show wpAny _ _ (Builtin.Tuple.tupleItemsOf (.ref t) >>= _) _ _ s
 refine wpAny_bind (tupleItemsOf_ ht ?_)
 refine wpAny_bind (wpAny_typeOf hTs ?_)
 rw [if_pos (by decide)]
 refine wpAny_bind (sliceApplied_gen hs pl pu ?_)
 have hno:¬((((sIx items.size 0 lo:Nat):Int) == 0 && (1:Int) == 1 && (sIx items.size items.size hi - sIx items.size 0 lo) == items.size)=true):=by
  intro q
  rw [Bool.and_eq_true,Bool.and_eq_true] at q
  have q1:((sIx items.size 0 lo:Nat):Int)=0:=eq_of_beq q.1.1
  have q2:sIx items.size items.size hi - sIx items.size 0 lo=items.size:=eq_of_beq q.2
  exact hw ⟨by lia,by lia⟩
 show wpAny _ _ (if (((sIx items.size 0 lo:Nat):Int) == 0 && (1:Int) == 1 && (sIx items.size items.size hi - sIx items.size 0 lo) == items.size)=true then _ else _) _ _ s
 rw [if_neg hno,pick_gen]
 first
  | exact wpAny_bind (m:=Builtin.Tuple.tupleExact _) (wpAny_newObj_type (wpAny_pure ⟨_,rfl,wpAny_pure h⟩) htake)
  | exact wpAny_bind (m:=Builtin.Tuple.tupleExact _) (wpAny_newObj_type (wpAny_bind (wpAny_pure (wpAny_pure ⟨_,rfl,wpAny_pure h⟩))) htake)
  | exact wpAny_bind (wpAny_bind (m:=Builtin.Tuple.tupleExact _) (wpAny_newObj_type (wpAny_pure (wpAny_pure ⟨_,rfl,wpAny_pure h⟩)) htake))
  | exact wpAny_bind (wpAny_bind (m:=Builtin.Tuple.tupleExact _) (wpAny_newObj_type (wpAny_pure ⟨_,rfl,wpAny_pure h⟩) htake))
end
end HT
namespace L2
open PySem PySem.Spec PyProof.Rows
abbrev TO:=St->Hp->(Option Int->Hp->Prop)->Prop
def PO (X:Cx) (e:Option Expr) (t:TO):Prop:=
 ∀(pins:List (Addr×Obj)) (s:Shared) (σ:St) (H:Hp) (Q:Option Int->Hp->Prop),Inv X pins σ H s->t σ H Q->
  wpAny (model X.prog X.w) X.A (evalPart e X.env) (fun u s'=>∃o H',Inv X pins σ H' s'/\IsPart u o/\Q o H') X.xe s
def tNoPart:TO:=fun _ H Q=>Q none H
def tPart (t:TE):TO:=fun σ H Q=>t σ H fun x H1=>∃i,x=.int i/\Q (some i) H1
theorem intsAre_of {ns:List Int}:∀{us:List Value},Vals (ns.map V.int) us->IntsAre us ns:=by
 induction ns with
 | nil=>intro us r;rw [List.map_nil] at r;cases r;exact .nil
 | cons n ns ih=>
  intro us r
  rw [List.map_cons] at r
  cases r with
  | cons r1 r2=>
   obtain ⟨t,e⟩:=r1
   subst e
   exact .cons n t (ih r2)
section
variable {X:Cx} {e:Expr} {te:TE} {lo hi:Option Expr} {tl th:TO} {pos p2:Pos}
theorem po_none:PO X none tNoPart:=by
 intro pins s σ H Q I h
 rw [evalPart_none]
 exact wpAny_pure ⟨none,H,I,.none,h⟩
theorem po_some (h:PE X e te):PO X (some e) (tPart te):=by
 intro pins s σ H Q I hw
 rw [evalPart_some]
 refine thn (h pins s σ H _ I hw) fun u s1 ⟨x,H1,I1,r1,q1⟩=>?_
 obtain ⟨i,rfl,q⟩:=q1
 obtain ⟨t,rfl⟩:=r1
 exact ⟨some i,H1,I1,.int i t,q⟩
def SlR (X:Cx) (r:V->Option Int->Option Int->Hp->VK->Prop):Prop:=
 ∀(pins:List (Addr×Obj)) (s:Shared) (σ:St) (H:Hp) (x:V) (v vl vu:Value) (lo hi:Option Int) (sl:Addr) (Q:VK),Inv X pins σ H s->RelV x v->s.heap.IsSliceOf sl vl vu .none->IsPart vl lo->IsPart vu hi->r x lo hi H Q->
  ∃T id,typeLookup (.type T) "__getitem__" = pure (some (.builtin id))/\s.TypeIs v T/\wpAny (model X.prog X.w) X.A (getItem v (.ref sl)) (EP X pins σ Q) X.xe s
def tSl (r:V->Option Int->Option Int->Hp->VK->Prop) (te:TE) (tl th:TO):TE:=fun σ H Q=>te σ H fun x H1=>tl σ H1 fun l H2=>th σ H2 fun u H3=>r x l u H3 Q
theorem pe_slice {r:V->Option Int->Option Int->Hp->VK->Prop} (hr:SlR X r) (he:PE X e te) (hl:PO X lo tl) (hu:PO X hi th):PE X (.Subscript e (.Slice lo hi none p2) pos) (tSl r te tl th):=by
 intro pins s σ H Q I h
 refine Subscript_ (thn (he pins s σ H _ I h) fun v s1 ⟨x,H1,I1,r1,q1⟩=>?_)
 refine wpAny_Slice (thn (hl pins s1 σ H1 _ I1 q1) fun vl s2 ⟨l,H2,I2,pl,q2⟩=>thn (hu pins s2 σ H2 _ I2 q2) fun vu s3 ⟨u,H3,I3,pu,q3⟩=>?_)
 rw [evalPart_none]
 refine wpAny_pure ?_
 have I4:Inv X pins σ H3 { s3 with heap:=s3.heap.push { cls:=.type "slice",data:=.fields #[vl,vu,.none] } }:=I3.kept (t':=s3.toks) fun b ob q=>Heap.get?_push_of_some _ q
 obtain ⟨T,id,hT,ht,hg⟩:=hr pins { s3 with heap:=s3.heap.push { cls:=.type "slice",data:=.fields #[vl,vu,.none] } } σ H3 x v vl vu l u s3.heap.objs.size Q I4 r1 (Heap.IsSliceOf.new ..) pl pu q3
 show wpAny (model X.prog X.w) X.A (subscriptTail e (.Slice lo hi none p2) v (.ref s3.heap.objs.size)) (EP X pins σ Q) X.xe { s3 with heap:=s3.heap.push { cls:=.type "slice",data:=.fields #[vl,vu,.none] } }
 exact tail_any (ops:=[.ref s3.heap.objs.size,v]) ht hT hg (by with_unfolding_all rfl)
def cutV (xs:List V) (lo hi:Option Int):List V:=(xs.drop (HT.sIx xs.length 0 lo)).take (HT.sIx xs.length xs.length hi - HT.sIx xs.length 0 lo)
theorem cutV_length (xs:List V) (lo hi:Option Int):(cutV xs lo hi).length<=xs.length:=by
 unfold cutV
 rw [List.length_take,List.length_drop]
 lia
def rSlT (K:PySem.W.Frag):V->Option Int->Option Int->Hp->VK->Prop:=fun x lo hi H Q=>∃a xs,x=.ref a/\SqT K H a xs/\
 ¬(HT.sIx xs.length 0 lo=0/\HT.sIx xs.length xs.length hi=xs.length)/\∀p,H p=none->Q (.ref p) (upd H p (.tup (cutV xs lo hi)))
theorem sl_tup:SlR X (rSlT X.K):=by
 intro pins s σ H x v vl vu lo hi sl Q I rx hs pl pu h
 obtain ⟨a,xs,rfl,hx,hw,q⟩:=h
 cases rx
 obtain ⟨its,r,ht,hz⟩:=I.tuple hx
 have hlen:its.toArray.size=xs.length:=by rw [List.size_toArray];exact r.length.symm
 refine ⟨"tuple",_,PyProof.Rows.slot_tuple_getitem.lookup,ht.typeIs,?_⟩
 refine HT.getItem_tuple_cut ht hs pl pu (by rw [hlen];exact hw) ?_ (by rw [hlen];exact hz)
 rw [hlen]
 refine ⟨.ref s.heap.objs.size,_,I.laid (t':=s.toks) (o:=.tup (cutV xs lo hi)) (fun b ob q=>Heap.get?_push_of_some _ q) (Nat.le_refl _) ?_,rfl,q _ (I.hok.fresh (Nat.le_refl _))⟩
 exact ⟨Nat.le_trans (cutV_length xs lo hi) hz,_,(r.drop (HT.sIx xs.length 0 lo)).take (HT.sIx xs.length xs.length hi - HT.sIx xs.length 0 lo),IsTup.new _ _⟩
def rCatT (K:PySem.W.Frag):R2:=fun x y H Q=>∃a b xs ys,x=.ref a/\y=.ref b/\SqT K H a xs/\SqT K H b ys/\xs≠[]/\xs.length+ys.length<=sizeLine/\
 (ys=[]->Q (.ref a) H)/\(ys≠[]->∀p,H p=none->Q (.ref p) (upd H p (.tup (xs++ys))))
theorem Vals.nil_iff {xs:List V} {us:List Value} (r:Vals xs us):us=[]↔xs=[]:=by
 cases r with
 | nil=>simp
 | cons _ _=>simp
theorem op_catT:OpR X (binaryOp .Add) (rCatT X.K):=by
 intro pins s σ H x y v u Q I rx ry h
 obtain ⟨a,b,xs,ys,rfl,rfl,ha,hb,hx,hz,q1,q2⟩:=h
 cases rx
 cases ry
 obtain ⟨its,r1,p1,_⟩:=I.tuple ha
 obtain ⟨its2,r2,p2,_⟩:=I.tuple hb
 refine HT.cat_tup p1 p2 (fun z=>hx (r1.nil_iff.mp z)) (fun z=>⟨.ref a,H,I,rfl,q1 (r2.nil_iff.mp z)⟩) (fun z=>?_) (by rw [<-r1.length,<-r2.length];exact hz)
 refine ⟨.ref s.heap.objs.size,_,I.laid (t':=s.toks) (o:=.tup (xs++ys)) (fun b ob q=>Heap.get?_push_of_some _ q) (Nat.le_refl _) ?_,rfl,q2 (fun w=>z (r2.nil_iff.mpr w)) _ (I.hok.fresh (Nat.le_refl _))⟩
 exact ⟨by rw [List.length_append];exact hz,_,r1.append r2,IsTup.new _ _⟩
end
end L2
namespace L2
open PySem PySem.Spec PyProof.Rows
def ixN (n:Nat) (i:Int):Option Nat:=if 0<=i then (if i < n then some i.toNat else none) else if -(n:Int)<=i then some (i+n).toNat else none
def atI {α:Type} (xs:List α) (i:Int):Option α:=(ixN xs.length i).bind fun j=>xs[j]?
theorem ixN_seq {n:Nat} {i:Int} {j:Nat} (h:ixN n i=some j):seqIndex? i n=some j/\j < n/\-(n:Int)<=i/\i < n:=by
 unfold ixN at h
 by_cases h0:0<=i
 ·rw [if_pos h0] at h
  by_cases h1:i < n
  ·rw [if_pos h1] at h
   have e:i.toNat=j:=Option.some.inj h
   exact ⟨by rw [seqIndex_of h0 h1,e],by lia,by lia,h1⟩
  ·rw [if_neg h1] at h;cases h
 ·rw [if_neg h0] at h
  by_cases h1 : -(n:Int)<=i
  ·rw [if_pos h1] at h
   have e:(i+n).toNat=j:=Option.some.inj h
   exact ⟨by rw [seqIndex_neg (by lia) h1,e],by lia,h1,by lia⟩
  ·rw [if_neg h1] at h;cases h
theorem atI_get {α:Type} {xs:List α} {i:Int} {v:α} (h:atI xs i=some v):∃j,seqIndex? i xs.length=some j/\xs[j]? = some v/\j < xs.length/\-(xs.length:Int)<=i/\i < xs.length:=by
 unfold atI at h
 cases e:ixN xs.length i with
 | none=>rw [e] at h;cases h
 | some j=>
  rw [e] at h
  obtain ⟨h1,h2,h3,h4⟩:=ixN_seq e
  exact ⟨j,h1,h,h2,h3,h4⟩
theorem atI_nat {α:Type} {xs:List α} {j:Nat} {v:α} (h:xs[j]? = some v):atI xs (j:Int)=some v:=by
 have hj:j < xs.length:=(List.getElem?_eq_some_iff.mp h).1
 have e:ixN xs.length (j:Int)=some j:=by
  unfold ixN
  rw [if_pos (by lia),if_pos (by lia)];simp
 unfold atI;rw [e];exact h
def PlainIx (b:Expr):Prop:=∀o i,subscripted b false o i=operate [o,i] (getItem o i)
def IxR (X:Cx) (r:R2):Prop:=
 ∀(value slice:Expr) (pins:List (Addr×Obj)) (s:Shared) (σ:St) (H:Hp) (x y:V) (v u:Value) (Q:VK),Inv X pins σ H s->RelV x v->RelV y u->r x y H Q->
  subscripted slice false v u=operate [v,u] (getItem v u)->wpAny (model X.prog X.w) X.A (subscriptTail value slice v u) (EP X pins σ Q) X.xe s
def MtR (X:Cx) (id:String) (r:V->List V->Hp->VK->Prop):Prop:=
 ∀(pins:List (Addr×Obj)) (s:Shared) (σ:St) (H:Hp) (x:V) (xs:List V) (v:Value) (us:List Value) (Q:VK),Inv X pins σ H s->RelV x v->Vals xs us->r x xs H Q->
  wpAny (model X.prog X.w) X.A (call (.builtin id) (v::us)) (EP X pins σ Q) X.xe s
section
variable {X:Cx} {a b:Expr} {ta tb:TE} {pos:Pos}
theorem pe_ix {r:R2} (hr:IxR X r) (ha:PE X a ta) (hb:PE X b tb) (hs:PlainIx b):PE X (.Subscript a b pos) (tOp r ta tb):=by
 intro pins s σ H Q I h
 exact Subscript_ (binT ha hb I h fun v u s2 x y H2 I2 rx ry q=>hr a b pins s2 σ H2 x y v u Q I2 rx ry q (hs _ _))
def rIxL (K:PySem.W.Frag):R2:=fun x y H Q=>∃p xs i v,x=.ref p/\y=.int i/\SqL K H p xs/\atI xs i=some v/\Q v H
def rIxT (K:PySem.W.Frag):R2:=fun x y H Q=>∃p xs i v,x=.ref p/\y=.int i/\SqT K H p xs/\atI xs i=some v/\Q v H
theorem ix_list:IxR X (rIxL X.K):=by
 intro value slice pins s σ H x y v u Q I rx ry h hs
 obtain ⟨p,xs,i,z,rfl,rfl,hq,he,q⟩:=h
 cases rx
 obtain ⟨t,rfl⟩:=ry
 obtain ⟨its,r,pl,hz⟩:=I.list hq
 obtain ⟨j,h1,h2,h3,h4,h5⟩:=atI_get he
 obtain ⟨w,ew,rw'⟩:=r.get h2
 have hl:=r.length
 have hn:=line63
 have fin:EP X pins σ Q w s:=⟨z,H,I,rw',q⟩
 by_cases h0:0<=i
 ·have hj:i.toNat=j:=by
   rw [seqIndex_of h0 h5] at h1
   exact Option.some.inj h1
  exact item_listR pl.isList h0 (by lia) (by rw [hj];simpa using ew) fin hs
 ·have hj:(i+(its.toArray.size:Int)).toNat=j:=by
   rw [seqIndex_neg (by lia) h4] at h1
   rw [List.size_toArray,<-hl]
   exact Option.some.inj h1
  exact subscriptTail_builtinR (x:=w) pl.isList.typeIs slot_list_getitem.lookup
   (wpAny_getItem_list_neg (Q:=fun r s'=>r=w/\EP X pins σ Q r s') pl.isList (by lia) (by rw [List.size_toArray] <;> lia) (by lia) (by rw [hj];simpa using ew) ⟨rfl,fin⟩) hs
theorem ix_tup:IxR X (rIxT X.K):=by
 intro value slice pins s σ H x y v u Q I rx ry h hs
 obtain ⟨p,xs,i,z,rfl,rfl,hq,he,q⟩:=h
 cases rx
 obtain ⟨t,rfl⟩:=ry
 obtain ⟨its,r,pl,hz⟩:=I.tuple hq
 obtain ⟨j,h1,h2,h3,h4,h5⟩:=atI_get he
 obtain ⟨w,ew,rw'⟩:=r.get h2
 have hl:=r.length
 have hn:=line63
 have fin:EP X pins σ Q w s:=⟨z,H,I,rw',q⟩
 exact subscriptTail_builtinR (x:=w) pl.typeIs slot_tuple_getitem.lookup
  (getItem_tuple (j:=j) (Q:=fun r s'=>r=w/\EP X pins σ Q r s') pl (by lia) (by lia) (by rw [List.size_toArray,<-hl];exact h1) (by simpa using ew) ⟨rfl,fin⟩) hs
theorem mapSeq_set (its:List Value) (n j:Nat) (u:Value):Obj.mapSeq (·.setIfInBounds j u) { cls:=.type "list",data:=.seq its.toArray n }={ cls:=.type "list",data:=.seq (its.set j u).toArray n }:=by
 simp [Obj.mapSeq]
theorem Inv.lst {pins:List (Addr×Obj)} {σ:St} {H:Hp} {s:Shared} {p:Addr} {xs:List V} (I:Inv X pins σ H s) (h:H p=some (.lst xs)) :
  ∃(its:List Value) (n:Nat),Vals xs its/\s.heap.get? p=some { cls:=.type "list",data:=.seq its.toArray n }/\xs.length<=sizeLine:=by
 obtain ⟨z,its,n,r,e⟩:=I.hok p _ h
 exact ⟨its,n,r,e,z⟩
theorem Inv.lstUpd {pins:List (Addr×Obj)} {σ:St} {H:Hp} {s:Shared} {p:Addr} {xs ys:List V} {its its':List Value} {n n':Nat} {f:Obj->Obj} (I:Inv X pins σ H s) (h:H p=some (.lst xs))
  (ho:s.heap.get? p=some { cls:=.type "list",data:=.seq its.toArray n }) (hf:f { cls:=.type "list",data:=.seq its.toArray n }={ cls:=.type "list",data:=.seq its'.toArray n' }) (r:Vals ys its') (hz:ys.length<=sizeLine) (t:Nat) :
  Inv X pins σ (upd H p (.lst ys)) { s with heap:=s.heap.update p f,toks:=t }:=by
 have e:(s.heap.update p f).get? p=some { cls:=.type "list",data:=.seq its'.toArray n' }:=by
  rw [Heap.get?_update_self f ho (by rw [hf] <;> rfl),hf]
 refine I.write (x:=p) (e:=p) (by rw [h];trivial) (.inl rfl) (fun b u hb q=>(Heap.get?_update_other _ _ (Ne.symm hb)).trans q) ⟨_,e⟩ ?_
 exact ⟨hz,its',n',r,e⟩
def rSetL:V->V->V->Hp->(Hp->Prop)->Prop:=fun o i v H Q=>∃p xs k j,o=.ref p/\i=.int k/\H p=some (.lst xs)/\ixN xs.length k=some j/\Q (upd H p (.lst (xs.set j v)))
theorem set_list:PSet X rSetL:=by
 intro pins s σ H o i v ov iv u Q I ro ri rv h
 obtain ⟨p,xs,k,j,rfl,rfl,hp,hj,q⟩:=h
 cases ro
 obtain ⟨t,rfl⟩:=ri
 obtain ⟨its,n,r,ho,hz⟩:=I.lst hp
 obtain ⟨h1,h2,h3,h4⟩:=ixN_seq hj
 have hl:=r.length
 have hn:=line63
 have I':Inv X pins σ (upd H p (.lst (xs.set j v))) { s with heap:=s.heap.update p (Obj.mapSeq (·.setIfInBounds j u)) }:=
  I.lstUpd hp ho (mapSeq_set its n j u) (r.set rv j) (by rw [List.length_set];exact hz) s.toks
 by_cases h0:0<=k
 ·have hk:k.toNat=j:=by
   rw [seqIndex_of h0 h4] at h1
   exact Option.some.inj h1
  exact PySem.W.ki_setAt ho h0 (by lia) (by rw [List.size_toArray,<-hl];exact h4) (by rw [hk];exact ⟨_,I',q⟩)
 ·have hk:(k+(its.toArray.size:Int)).toNat=j:=by
   rw [seqIndex_neg (by lia) h3] at h1
   rw [List.size_toArray,<-hl]
   exact Option.some.inj h1
  exact PySem.W.ki_setBack ho (by lia) (by rw [List.size_toArray,<-hl];exact h3) (by lia) (by rw [hk];exact ⟨_,I',q⟩)
theorem slice_bounds (lo hi:Option Int) (n:Nat):(sliceBounds lo hi none n).1=((HT.sIx n 0 lo:Nat):Int)/\(sliceBounds lo hi none n).2.1=((HT.sIx n n hi:Nat):Int)/\(sliceBounds lo hi none n).2.2=1:=by
 refine ⟨?_,?_,rfl⟩
 ·cases lo with
  | none=>simp [sliceBounds,HT.sIx]
  | some i=>
   simp only [sliceBounds,HT.sIx,Option.getD_none,show (1:Int) > 0 by decide,if_true]
   by_cases h:i < 0
   ·simp only [h,if_true] <;> lia
   ·simp only [h,if_false] <;> lia
 ·cases hi with
  | none=>simp [sliceBounds,HT.sIx]
  | some i=>
   simp only [sliceBounds,HT.sIx,Option.getD_none,show (1:Int) > 0 by decide,if_true]
   by_cases h:i < 0
   ·simp only [h,if_true] <;> lia
   ·simp only [h,if_false] <;> lia
theorem slicePick_cut (its:List Value) (lo hi:Option Int):slicePick its.toArray lo hi none=((its.drop (HT.sIx its.length 0 lo)).take (HT.sIx its.length its.length hi - HT.sIx its.length 0 lo)).toArray:=by
 obtain ⟨h1,h2,h3⟩:=slice_bounds lo hi its.toArray.size
 unfold slicePick
 rw [h1,h2,h3]
 simp only [sliceRange_one,pick_run,List.size_toArray] <;> rfl
def rSlL (K:PySem.W.Frag):V->Option Int->Option Int->Hp->VK->Prop:=fun x lo hi H Q=>∃a xs,x=.ref a/\SqL K H a xs/\∀p,H p=none->Q (.ref p) (upd H p (.lst (cutV xs lo hi)))
theorem sl_list:SlR X (rSlL X.K):=by
 intro pins s σ H x v vl vu lo hi sl Q I rx hs pl pu h
 obtain ⟨a,xs,rfl,hx,q⟩:=h
 cases rx
 obtain ⟨its,r,ht,hz⟩:=I.list hx
 have hlen:=r.length
 refine ⟨"list",_,slot_list_getitem.lookup,ht.isList.typeIs,?_⟩
 refine wpAny_getItem_list_slice ht.isList hs pl pu .none (by simp) ?_ (by rw [List.size_toArray] <;> lia)
 rw [slicePick_cut,<-hlen]
 refine ⟨.ref s.heap.objs.size,_,I.laid (t':=s.toks) (o:=.lst (cutV xs lo hi)) (fun b ob q=>Heap.get?_push_of_some _ q) (Nat.le_refl _) ?_,rfl,q _ (I.hok.fresh (Nat.le_refl _))⟩
 exact ⟨Nat.le_trans (cutV_length xs lo hi) hz,_,0,(r.drop (HT.sIx xs.length 0 lo)).take (HT.sIx xs.length xs.length hi - HT.sIx xs.length 0 lo),Heap.get?_push_size _ rfl⟩
def flatV:V->Bool
 | .non=>true
 | .bl _=>true
 | .int _=>true
 | .str _=>true
 | _=>false
def eqV:V->V->Bool
 | .non,.non=>true
 | .bl a,.bl b=>a == b
 | .bl a,.int b=>(if a then 1 else 0) == b
 | .int a,.bl b=>a == (if b then 1 else 0)
 | .int a,.int b=>a == b
 | .str a,.str b=>a == b
 | _,_=>false
theorem eqAt_V {A:Around} {s:Shared} {y x:V} {u v:Value} (ry:RelV y u) (rx:RelV x v) (fy:flatV y=true) (fx:flatV x=true):SeqAt.EqAt A s u v (eqV y x):=by
 cases y with
 | non=>
  cases ry
  cases x with
  | non=>cases rx;exact SeqAt.EqAt.same _
  | bl b=>cases rx;exact SeqAt.EqAt.none_bool b
  | int b=>obtain ⟨t,rfl⟩:=rx;exact SeqAt.EqAt.none_int b t
  | str b=>obtain ⟨t,rfl⟩:=rx;exact SeqAt.EqAt.none_str b t
  | _=>exact absurd (show false=true from fx) Bool.false_ne_true
 | bl a=>
  cases ry
  cases x with
  | non=>cases rx;exact SeqAt.EqAt.bool_none a
  | bl b=>cases rx;exact SeqAt.EqAt.bool_bool a b
  | int b=>obtain ⟨t,rfl⟩:=rx;exact SeqAt.EqAt.bool_int a b t
  | str b=>obtain ⟨t,rfl⟩:=rx;exact SeqAt.EqAt.bool_str a b t
  | _=>exact absurd (show false=true from fx) Bool.false_ne_true
 | int a=>
  obtain ⟨t',rfl⟩:=ry
  cases x with
  | non=>cases rx;exact SeqAt.EqAt.int_none a t'
  | bl b=>cases rx;exact SeqAt.EqAt.int_bool a t' b
  | int b=>obtain ⟨t,rfl⟩:=rx;exact SeqAt.EqAt.int_int a t' b t
  | str b=>obtain ⟨t,rfl⟩:=rx;exact SeqAt.EqAt.int_str a t' b t
  | _=>exact absurd (show false=true from fx) Bool.false_ne_true
 | str a=>
  obtain ⟨t',rfl⟩:=ry
  cases x with
  | non=>cases rx;exact SeqAt.EqAt.str_none a t'
  | bl b=>cases rx;exact SeqAt.EqAt.str_bool a t' b
  | int b=>obtain ⟨t,rfl⟩:=rx;exact SeqAt.EqAt.str_int a t' b t
  | str b=>obtain ⟨t,rfl⟩:=rx;exact SeqAt.EqAt.str_str a t' b t
  | _=>exact absurd (show false=true from fx) Bool.false_ne_true
 | _=>exact absurd (show false=true from fy) Bool.false_ne_true
def eqU (x:V) (u:Value):Bool:=match u with
 | .none=>eqV .non x
 | .bool b=>eqV (.bl b) x
 | .int i _=>eqV (.int i) x
 | .str z _=>eqV (.str z) x
 | _=>false
theorem eqU_of {x y:V} {u:Value} (r:RelV y u) (f:flatV y=true):eqU x u=eqV y x:=by
 cases y with
 | non=>cases r;rfl
 | bl b=>cases r;rfl
 | int i=>obtain ⟨t,rfl⟩:=r;rfl
 | str z=>obtain ⟨t,rfl⟩:=r;rfl
 | _=>exact absurd (show false=true from f) Bool.false_ne_true
theorem any_eqU {x:V}:∀{xs:List V} {us:List Value},Vals xs us->xs.all flatV=true->us.any (eqU x)=xs.any fun y=>eqV y x
 | _,_,.nil,_=>rfl
 | y::xs,u::us,.cons r t,f=>by
  rw [List.all_cons,Bool.and_eq_true] at f
  rw [List.any_cons,List.any_cons,eqU_of r f.1,any_eqU t f.2]
theorem mem_eqAt {A:Around} {s:Shared} {x:V} {v:Value} (rx:RelV x v) (fx:flatV x=true):∀{xs:List V} {us:List Value},Vals xs us->xs.all flatV=true->∀u∈us,SeqAt.EqAt A s u v (eqU x u)
 | _,_,.nil,_=>fun u hu=>by cases hu
 | y::xs,u::us,.cons r t,f=>fun u' hu=>by
  rw [List.all_cons,Bool.and_eq_true] at f
  rcases List.mem_cons.mp hu with rfl | hu
  ·rw [eqU_of r f.1];exact eqAt_V r rx f.1 fx
  ·exact mem_eqAt rx fx t f.2 u' hu
def inV (x:V) (xs:List V):Bool:=xs.any fun y=>eqV y x
def rIn (K:PySem.W.Frag) (neg:Bool):R2:=fun x y H Q=>∃p xs,y=.ref p/\(SqL K H p xs\/SqT K H p xs)/\flatV x=true/\xs.all flatV=true/\Q (.bl (if neg then !inV x xs else inV x xs)) H
theorem op_in_seq:OpR X (compareOp .In) (rIn X.K false):=by
 intro pins s σ H x y v u Q I rx ry h
 obtain ⟨p,xs,rfl,hq,fx,fs,q⟩:=h
 cases ry
 rcases hq with hq | hq
 ·obtain ⟨its,r,pl,hz⟩:=I.list hq
  refine SeqAt.in_listAt (eqU x) pl.isList (fun w hw=>mem_eqAt rx fx r fs w (by simpa using hw)) ⟨.bl _,H,I,rfl,?_⟩
  rw [show its.toArray.any (eqU x)=its.any (eqU x) by simp,any_eqU r fs]
  exact q
 ·obtain ⟨its,r,pl,hz⟩:=I.tuple hq
  refine SeqAt.in_tupleAt (eqU x) pl (fun w hw=>mem_eqAt rx fx r fs w (by simpa using hw)) ⟨.bl _,H,I,rfl,?_⟩
  rw [show its.toArray.any (eqU x)=its.any (eqU x) by simp,any_eqU r fs]
  exact q
theorem op_notIn_seq:OpR X (compareOp .NotIn) (rIn X.K true):=by
 intro pins s σ H x y v u Q I rx ry h
 obtain ⟨p,xs,rfl,hq,fx,fs,q⟩:=h
 cases ry
 rcases hq with hq | hq
 ·obtain ⟨its,r,pl,hz⟩:=I.list hq
  refine SeqAt.notIn_listAt (eqU x) pl.isList (fun w hw=>mem_eqAt rx fx r fs w (by simpa using hw)) ⟨.bl _,H,I,rfl,?_⟩
  rw [show its.toArray.any (eqU x)=its.any (eqU x) by simp,any_eqU r fs]
  exact q
 ·obtain ⟨its,r,pl,hz⟩:=I.tuple hq
  refine SeqAt.notIn_tupleAt (eqU x) pl (fun w hw=>mem_eqAt rx fx r fs w (by simpa using hw)) ⟨.bl _,H,I,rfl,?_⟩
  rw [show its.toArray.any (eqU x)=its.any (eqU x) by simp,any_eqU r fs]
  exact q
theorem call_len_seq:CallR X (.builtin "len") (fun xs H Q=>∃p ys,xs=[.ref p]/\(SqL X.K H p ys\/SqT X.K H p ys)/\Q (.int ys.length) H):=by
 intro pins s σ H xs us Q I r h
 obtain ⟨p,ys,rfl,hq,q⟩:=h
 obtain ⟨u,rfl,rx⟩:=vals1 r
 cases rx
 have hn:=line63
 rcases hq with hq | hq
 ·obtain ⟨its,r',pl,hz⟩:=I.list hq
  have hlen:=r'.length
  exact Calls.call_len_list pl.isList (by simp only [List.size_toArray] <;> lia) ⟨.int ys.length,H,I.tok _,⟨s.toks+1,by rw [List.size_toArray,hlen]⟩,q⟩
 ·obtain ⟨its,r',pl,hz⟩:=I.tuple hq
  have hlen:=r'.length
  exact len_tuple pl (by simp only [List.size_toArray] <;> lia) ⟨.int ys.length,H,I.tok _,⟨s.toks+1,by rw [List.size_toArray,hlen]⟩,q⟩
theorem call_list_of:CallR X (.type "list") (fun xs H Q=>∃p ys,xs=[.ref p]/\(SqL X.K H p ys\/SqT X.K H p ys)/\∀l,H l=none->Q (.ref l) (upd H l (.lst ys))):=by
 intro pins s σ H xs us Q I r h
 obtain ⟨p,ys,rfl,hq,q⟩:=h
 obtain ⟨u,rfl,rx⟩:=vals1 r
 cases rx
 have fin:∀(its:List Value),Vals ys its->ys.length<=sizeLine->∀(h':Heap) (c':Nat),(∀b o',s.heap.get? b=some o'->h'.get? b=some o')->
   h'.get? s.heap.objs.size=some { cls:=.type "list",dict:=none,data:=.seq its.toArray c',slots:=#[] }->EP X pins σ Q (.ref s.heap.objs.size) { s with heap:=h' }:=fun its r' hz h' c' kp e=>
  ⟨.ref s.heap.objs.size,_,I.laid (t':=s.toks) kp (Nat.le_refl _) (show ObjOk X.prog X.w _ h' _ (.lst ys) from ⟨hz,its,c',r',e⟩),rfl,q _ (I.hok.fresh (Nat.le_refl _))⟩
 rcases hq with hq | hq
 ·obtain ⟨its,r',pl,hz⟩:=I.list hq
  have hlen:=r'.length
  obtain ⟨o,ho,hc,n,hd⟩:=pl.isList
  exact call_list_seq p (.inl rfl) ho hc hd (fun h' c' kp e=>fin its r' hz h' c' kp e) (by simp only [List.size_toArray] <;> lia)
 ·obtain ⟨its,r',pl,hz⟩:=I.tuple hq
  have hlen:=r'.length
  obtain ⟨o,ho,hc,n,hd⟩:=pl
  exact call_list_seq p (.inr rfl) ho hc hd (fun h' c' kp e=>fin its r' hz h' c' kp e) (by simp only [List.size_toArray] <;> lia)
theorem call_tuple_of:CallR X (.type "tuple") (fun xs H Q=>∃p ys,xs=[.ref p]/\((SqL X.K H p ys/\∀l,H l=none->Q (.ref l) (upd H l (.tup ys)))\/(SqT X.K H p ys/\Q (.ref p) H))):=by
 intro pins s σ H xs us Q I r h
 obtain ⟨p,ys,rfl,h⟩:=h
 obtain ⟨u,rfl,rx⟩:=vals1 r
 cases rx
 rcases h with ⟨hq,q⟩ | ⟨hq,q⟩
 ·obtain ⟨its,r',pl,hz⟩:=I.list hq
  have hlen:=r'.length
  refine call_tuple_list pl.isList (fun h' kp=>?_) (by simp only [List.size_toArray] <;> lia)
  have I1:Inv X pins σ H { s with heap:=h' }:=I.kept (t':=s.toks) kp
  have I2:Inv X pins σ (upd H h'.objs.size (.tup ys)) { s with heap:=h'.push { cls:=.type "tuple",data:=.seq its.toArray } }:=
   I1.laid (t':=s.toks) (fun b o e=>Heap.get?_push_of_some _ e) (Nat.le_refl _) (show ObjOk X.prog X.w _ _ _ (.tup ys) from ⟨hz,its,r',IsTup.new _ _⟩)
  exact ⟨.ref h'.objs.size,_,I2,rfl,q _ (I1.hok.fresh (Nat.le_refl _))⟩
 ·obtain ⟨its,r',pl,hz⟩:=I.tuple hq
  exact call_tuple_same pl ⟨.ref p,H,I,rfl,q⟩
def tyV (K:PySem.W.Frag) (T:String) (x:V) (H:Hp):Prop:=match x with
 | .str _=>T = "str"
 | .int _=>T = "int"
 | .ref p=>(T = "list"/\∃xs,SqL K H p xs)\/(T = "tuple"/\∃o,K.lookup p=some o/\o.cls=.type "tuple"/\o.dict=none)\/
   (T = "dict"/\((∃kvs,H p=some (.dK kvs))\/∃kvs,H p=some (.dT kvs)))\/(T = "set"/\∃S n,H p=some (.set S n))
 | _=>False
theorem tyV_is {pins:List (Addr×Obj)} {σ:St} {H:Hp} {s:Shared} {T:String} {x:V} {v:Value} (I:Inv X pins σ H s) (r:RelV x v) (ty:tyV X.K T x H) :
  s.TypeIs v T/\∀a,v=.ref a->∃ob,s.heap.get? a=some ob/\ob.dict=none:=by
 cases x with
 | str z=>
  obtain ⟨t,rfl⟩:=r
  cases (show T = "str" from ty)
  exact ⟨typeIs_str s z t,fun _ e=>nomatch e⟩
 | int i=>
  obtain ⟨t,rfl⟩:=r
  cases (show T = "int" from ty)
  exact ⟨typeIs_int s i t,fun _ e=>nomatch e⟩
 | ref p=>
  cases r
  rcases ty with ⟨rfl,xs,hq⟩ | ⟨rfl,o,hk,hc,hd⟩ | ⟨rfl,hk⟩ | ⟨rfl,S,n,hk⟩
  ·obtain ⟨its,_,pl,_⟩:=I.list hq
   refine ⟨pl.isList.typeIs,fun a e=>?_⟩
   cases e
   obtain ⟨o,n,e,c,hd,_⟩:=pl
   exact ⟨o,e,hd⟩
  ·refine ⟨⟨o,I.kIn p o hk,hc⟩,fun a e=>?_⟩
   cases e
   exact ⟨o,I.kIn _ o hk,hd⟩
  ·have z:∃o,s.heap.get? p=some o/\o.ExactDict:=by
    rcases hk with ⟨kvs,hk⟩ | ⟨kvs,hk⟩
    ·obtain ⟨_,_,_,_,o,_,_,e,ex,_⟩:=I.hok p _ hk
     exact ⟨o,e,ex⟩
    ·obtain ⟨_,_,_,_,o,_,_,e,ex,_⟩:=I.hok p _ hk
     exact ⟨o,e,ex⟩
   obtain ⟨o,e,ex⟩:=z
   refine ⟨⟨o,e,ex.1⟩,fun a e2=>?_⟩
   cases e2
   exact ⟨o,e,ex.2.1⟩
  ·obtain ⟨o,_,_,_,e,ex,_⟩:=I.hok p _ hk
   refine ⟨⟨o,e,ex.1⟩,fun a e2=>?_⟩
   cases e2
   exact ⟨o,e,ex.2.1⟩
 | _=>exact False.elim ty
def tBM0 (K:PySem.W.Frag) (T:String) (r:V->List V->Hp->VK->Prop) (to:TE):TE:=fun σ H Q=>to σ H fun x H1=>tyV K T x H1/\r x [] H1 Q
def tBM (K:PySem.W.Frag) (T:String) (r:V->List V->Hp->VK->Prop) (to:TE) (t:TA):TE:=fun σ H Q=>to σ H fun x H1=>tyV K T x H1/\t σ H1 fun xs H2=>r x xs H2 Q
variable {o e:Expr} {es:List Expr} {to:TE} {t:TA} {name:Str} {apos cpos:Pos} {T id:String} {r:V->List V->Hp->VK->Prop}
theorem pe_bm (pa:PlainAttrs T) (slot:Slot T name id) (hty:typeOf (.builtin id)=pure (.type "method_descriptor")) (hm:MtR X id r) (ho:PE X o to) (ha:PA X (e::es) t)
  (hbase:attributeBase o name X.env (eval o X.env)=eval o X.env:=by rfl)
  (hfew:((backTo cpos (starEach (e::es) X.env)).all (fun x=>!x.1) && (backToKw cpos (keywordEach [] X.env)).all (fun x=>x.1.isSome)
   && decide ((e::es).length+([]:List Keyword).length+(if ([]:List Keyword).isEmpty then 0 else 1) < 30))=true:=by rfl)
  (hline:(apos.endLine == cpos.line)=true:=by rfl) (hs:starEach (e::es) X.env=(false,eval e X.env)::starEach es X.env:=by rfl) (hplain:(backTo cpos (starEach es X.env)).any (·.1)=false:=by rfl) :
  PE X (.Call (.Attribute o name apos) (e::es) [] cpos) (tBM X.K T r to t):=by
 intro pins s σ H Q I h
 refine wpAny_Call_method_late hbase hfew hline rfl (thn (ho pins s σ H _ I h) fun v s1 ⟨x,H1,I1,r1,ty,q1⟩=>?_)
 obtain ⟨h1,h2⟩:=tyV_is I1 r1 ty
 refine ⟨T,id,pa,slot,hty,h1,h2,?_⟩
 have hA:=ha cpos pins s1 σ H1 _ I1 q1
 rw [hs] at hA ⊢
 refine Calls.callWith_builtin (by show (false || (backTo cpos (starEach es X.env)).any (·.1))=false;rw [hplain] <;> rfl) (Calls.evalArgs_plain ?_)
 exact thn hA fun us s2 ⟨vs,H2,I2,r2,q2⟩=>hm pins s2 σ H2 x vs v us Q I2 r1 r2 q2
end
end L2
namespace L2
open PySem PySem.Spec PyProof.Rows
def MtM (X:Cx) (id:String) (r:V->List V->Hp->VK->Prop):Prop:=
 ∀(pins:List (Addr×Obj)) (s:Shared) (σ:St) (H:Hp) (x:V) (xs:List V) (v:Value) (us:List Value) (Q:VK),Inv X pins σ H s->RelV x v->Vals xs us->r x xs H Q->
  wpAny (model X.prog X.w) X.A (call (.builtin id) (v::us)) (EP X pins σ Q) X.xe s
theorem Vals.one:∀{x:V} {us:List Value},Vals [x] us->∃u,us=[u]/\RelV x u
 | _,_,.cons r .nil=>⟨_,rfl,r⟩
theorem Vals.two:∀{x y:V} {us:List Value},Vals [x,y] us->∃u v,us=[u,v]/\RelV x u/\RelV y v
 | _,_,_,.cons r (.cons q .nil)=>⟨_,_,rfl,r,q⟩
theorem Vals.eraseIdx:∀{xs:List V} {us:List Value} (i:Nat),Vals xs us->Vals (xs.eraseIdx i) (us.eraseIdx i)
 | _,_,_,.nil=>.nil
 | _,_,0,.cons _ t=>t
 | _,_,i+1,.cons r t=>.cons r (Vals.eraseIdx i t)
theorem Vals.rep {xs:List V} {us:List Value} (h:Vals xs us):∀k:Nat,Vals (List.replicate k xs).flatten (List.replicate k us).flatten
 | 0=>.nil
 | k+1=>by
  rw [List.replicate_succ,List.replicate_succ,List.flatten_cons,List.flatten_cons]
  exact Vals.append h (Vals.rep h k)
theorem len_erase {α:Type}:∀(l:List α) (i:Nat),(l.eraseIdx i).length<=l.length
 | [],_=>Nat.le_refl _
 | _::_,0=>Nat.le_succ _
 | _::r,i+1=>Nat.succ_le_succ (len_erase r i)
theorem foldl_rep (its:List Value):∀(k:Nat) (acc:List Value),
  List.foldl (fun x1 x2=>x1++x2) acc.toArray (List.replicate k its.toArray)=(acc++(List.replicate k its).flatten).toArray
 | 0,acc=>by simp
 | k+1,acc=>by
  have e:acc.toArray++its.toArray=(acc++its).toArray:=by simp
  have e2:(acc++its)++(List.replicate k its).flatten=acc++(List.replicate (k+1) its).flatten:=by
   rw [List.replicate_succ,List.flatten_cons,List.append_assoc]
  rw [<-e2,<-foldl_rep its k (acc++its),<-e,List.replicate_succ,List.foldl_cons]
section
variable {X:Cx} {pins:List (Addr×Obj)} {σ:St} {H:Hp} {s:Shared} {l b:Addr} {xs ys zs:List V}
theorem Inv.lset {its its':List Value} {n:Nat} {f:Array Value->Array Value} {t':Nat} (I:Inv X pins σ H s) (hH:H l=some (.lst xs))
  (e:s.heap.get? l=some { cls:=.type "list",data:=.seq its.toArray n }) (hf:f its.toArray=its'.toArray) (hv:Vals ys its') (hz:ys.length<=sizeLine) :
  Inv X pins σ (upd H l (.lst ys)) { s with heap:=s.heap.update l (Obj.mapSeq f),toks:=t' }:=by
 have q:=PySem.IsL.update e f
 rw [hf] at q
 refine I.write (x:=l) (e:=l) (by rw [hH];exact trivial) (.inl rfl) (fun b' u hb hu=>(Heap.get?_update_other s.heap (Obj.mapSeq f) (Ne.symm hb)).trans hu) ⟨_,q⟩ ?_
 exact ⟨hz,its',_,hv,q⟩
theorem Inv.lnew {its:List Value} {t':Nat} (I:Inv X pins σ H s) (hv:Vals ys its) (hz:ys.length<=sizeLine) :
  Inv X pins σ (upd H s.heap.objs.size (.lst ys)) { s with heap:=s.heap.push { cls:=.type "list",data:=.seq its.toArray },toks:=t' }:=
 I.laid (fun _ _ q=>Heap.get?_push_of_some _ q) (Nat.le_refl _) ⟨hz,its,0,hv,Heap.get?_push_size _ rfl⟩
theorem Inv.fresh (I:Inv X pins σ H s):H s.heap.objs.size=none:=I.hok.fresh (Nat.le_refl _)
theorem Inv.lstM (I:Inv X pins σ H s) (hH:H l=some (.lst xs)):xs.length<=sizeLine/\∃(its:List Value) (n:Nat),Vals xs its/\xs.length=its.length/\s.heap.get? l=some { cls:=.type "list",data:=.seq its.toArray n }:=by
 obtain ⟨z,its,n,r,e⟩:=I.hok l _ hH
 exact ⟨z,its,n,r,r.length,e⟩
theorem notLongL {n:Nat} (h:n<=sizeLine):Builtin.List.listTooLong n=false:=by
 unfold Builtin.List.listTooLong
 exact decide_eq_false (by lia)
end
section
variable {X:Cx}
def rAppend:V->List V->Hp->VK->Prop:=fun x vs H Q=>∃l xs y,x=.ref l/\vs=[y]/\H l=some (.lst xs)/\xs.length < sizeLine/\Q .non (upd H l (.lst (xs++[y])))
theorem mt_append:MtM X "list.append" rAppend:=by
 intro pins s σ H x vs v us Q I rx rv h
 obtain ⟨l,xs,y,rfl,rfl,hH,hz,q⟩:=h
 cases rx
 obtain ⟨u,rfl,ru⟩:=rv.one
 obtain ⟨z,its,n,r,hl,e⟩:=I.lstM hH
 refine call_meets F.slot_list_append ⟨_,e,rfl⟩ F.entry_list_append (F.args_list_append_2 _ _) (PySem.list_append l its.toArray n u (by rw [List.size_toArray];lia)) ⟨e,?_⟩
 refine ⟨.non,_,I.lset (its':=its++[u]) hH e (by simp) (r.append (.cons ru .nil)) ?_,rfl,q⟩
 rw [List.length_append,List.length_singleton]
 lia
def rExtend:V->List V->Hp->VK->Prop:=fun x vs H Q=>∃l b xs zs,x=.ref l/\vs=[.ref b]/\H l=some (.lst xs)/\H b=some (.lst zs)/\xs.length+zs.length<=sizeLine/\Q .non (upd H l (.lst (xs++zs)))
def rPopAt:V->List V->Hp->VK->Prop:=fun x vs H Q=>∃l xs i k y,x=.ref l/\vs=[.int i]/\H l=some (.lst xs)/\-(2 ^ 63)<=i/\i < 2 ^ 63/\seqIndex? i xs.length=some k/\xs[k]? = some y/\Q y (upd H l (.lst (xs.eraseIdx k)))
theorem mt_popAt:MtM X "list.pop" rPopAt:=by
 intro pins s σ H x vs v us Q I rx rv h
 obtain ⟨l,xs,i,k,y,rfl,rfl,hH,h1,h2,hk,hy,q⟩:=h
 cases rx
 obtain ⟨u,rfl,ru⟩:=rv.one
 obtain ⟨t,rfl⟩:=ru
 obtain ⟨z,its,n,r,hl,e⟩:=I.lstM hH
 obtain ⟨w,hw,rw'⟩:=r.get hy
 refine call_meets F.slot_list_pop ⟨_,e,rfl⟩ F.entry_list_pop (F.args_list_pop_2 _ _)
  (MeetsSeq.list_pop_at l its.toArray n i t k w (fitsIndex_both h1 h2) (by rw [List.size_toArray,<-hl];exact hk) (by rw [<-Array.getElem?_toList];exact hw) (by rw [List.size_toArray];lia)) ⟨e,?_⟩
 refine ⟨y,_,I.lset (its':=its.eraseIdx k) hH e ?_ (r.eraseIdx k) ?_,rw',q⟩
 ·show its.toArray.eraseIdxIfInBounds k=(its.eraseIdx k).toArray
  rw [List.eraseIdxIfInBounds_toArray]
 ·have:=len_erase xs k
  lia
def rReverse:V->List V->Hp->VK->Prop:=fun x vs H Q=>∃l xs,x=.ref l/\vs=[]/\H l=some (.lst xs)/\Q .non (upd H l (.lst xs.reverse))
def rClear:V->List V->Hp->VK->Prop:=fun x vs H Q=>∃l xs,x=.ref l/\vs=[]/\H l=some (.lst xs)/\Q .non (upd H l (.lst []))
def rCat:R2:=fun x y H Q=>∃l b xs zs,x=.ref l/\y=.ref b/\H l=some (.lst xs)/\H b=some (.lst zs)/\xs.length+zs.length<=sizeLine/\∀p,H p=none->Q (.ref p) (upd H p (.lst (xs++zs)))
theorem op_cat:OpR X (binaryOp .Add) rCat:=by
 intro pins s σ H x y v u Q I rx ry h
 obtain ⟨l,b,xs,zs,rfl,rfl,hH,hB,hz,q⟩:=h
 cases rx
 cases ry
 obtain ⟨z,its,n,r,hl,e⟩:=I.lstM hH
 obtain ⟨z2,its2,n2,r2,hl2,e2⟩:=I.lstM hB
 refine PySem.P.add_list e e2 ?_ (by rw [List.size_toArray,List.size_toArray];lia)
 have ea:its.toArray++its2.toArray=(its++its2).toArray:=by simp
 rw [ea]
 exact ⟨.ref _,_,I.lnew (t':=s.toks) (r.append r2) (by rw [List.length_append];lia),rfl,q _ I.fresh⟩
def rRep:R2:=fun x y H Q=>∃l k xs,x=.ref l/\y=.int k/\H l=some (.lst xs)/\-(2 ^ 63)<=k/\k < 2 ^ 63/\xs.length * k.toNat<=sizeLine/\
 ∀p,H p=none->Q (.ref p) (upd H p (.lst (List.replicate k.toNat xs).flatten))
theorem len_rep {α:Type} (xs:List α) (k:Nat):(List.replicate k xs).flatten.length=k * xs.length:=by
 induction k with
 | zero=>simp
 | succ k ih=>rw [List.replicate_succ,List.flatten_cons,List.length_append,ih,Nat.succ_mul,Nat.add_comm]
theorem op_rep:OpR X (binaryOp .Mult) rRep:=by
 intro pins s σ H x y v u Q I rx ry h
 obtain ⟨l,k,xs,rfl,rfl,hH,h1,h2,hz,q⟩:=h
 cases rx
 obtain ⟨t,rfl⟩:=ry
 obtain ⟨z,its,n,r,hl,e⟩:=I.lstM hH
 have hlen:its.toArray.size * k.toNat<=sizeLine:=by rw [List.size_toArray,<-hl];exact hz
 have hcap:¬its.toArray.size * k.toNat > (2 ^ 63 - 1) / 8:=by
  have:(sizeLine:Nat)<=(2 ^ 63 - 1) / 8:=by decide
  lia
 have hfit:¬(!Builtin.List.listFitsIndex k)=true:=by
  rw [fitsIndex_both h1 h2]
  exact Bool.false_ne_true
 have hlong:¬Builtin.List.listTooLong (its.toArray.size * k.toNat)=true:=by
  rw [notLongL hlen]
  exact Bool.false_ne_true
 have hnew:List.foldl (fun x1 x2=>x1++x2) #[] (List.replicate (if its.toArray.isEmpty=true then 0 else k.toNat) its.toArray)=(List.replicate k.toNat its).flatten.toArray:=by
  have f0:∀m:Nat,List.foldl (fun x1 x2=>x1++x2) #[] (List.replicate m its.toArray)=(List.replicate m its).flatten.toArray:=fun m=>by
   have:=foldl_rep its m []
   rw [List.nil_append] at this
   exact this
  rw [f0]
  cases its with
  | nil=>simp
  | cons a r'=>rw [if_neg (by simp)]
 refine wpAny_binaryOp_repeat_ref (T:="list") (U:="int") (by decide) ⟨_,e,rfl⟩ (fun s'=>typeIs_int s' k t) noFill_list_mul F.fills_int_mul F.slot_int_rmul repeat_list F.slot_int_index.lookup
  (call_meets F.slot_int_rmul (typeIs_int s k t) F.entry_int_rmul (F.args_int_rmul_2 _ _) (int___rmul___int_list k t l its.toArray n)
   ⟨e,rfl,⟨_,e,rfl⟩,call_meets F.slot_list_mul ⟨_,e,rfl⟩ F.entry_list_mul (F.args_list_mul_2 _ _) (AutoListH.list___mul___list_int_3 l its.toArray n k t hfit hcap hlong) ⟨e,?_⟩⟩)
 rw [hnew]
 exact ⟨.ref _,_,I.lnew (t':=s.toks) (r.rep k.toNat) (by rw [len_rep,Nat.mul_comm];exact hz),rfl,q _ I.fresh⟩
end
section
variable {prog:Program} {w:World} {A:Around} {E:Value->Shared->Prop} {s:Shared}
end
section
variable {X:Cx}
end
end L2
namespace L2
open PySem PySem.Spec PyProof.Rows
section
variable {κ:Type} [DecidableEq κ]
def valV (kvs:List (κ×V)) (k:κ):Option V:=(kvs.find? fun kv=>decide (kv.1=k)).map (·.2)
def putK (kvs:List (κ×V)) (k:κ) (v:V):List (κ×V):=
 if (kvs.any fun kv=>decide (kv.1=k))=true then kvs.map (fun kv=>if kv.1=k then (kv.1,v) else kv) else kvs++[(k,v)]
theorem valV_pos {p:κ×V} {r:List (κ×V)} {k:κ} (e:p.1=k):valV (p::r) k=some p.2:=by simp [valV,List.find?_cons,e]
theorem valV_neg {p:κ×V} {r:List (κ×V)} {k:κ} (e:¬p.1=k):valV (p::r) k=valV r k:=by simp [valV,List.find?_cons,e]
theorem valV_any (k:κ):∀kvs:List (κ×V),(kvs.any fun kv=>decide (kv.1=k))=(valV kvs k).isSome
 | []=>rfl
 | p::r=>by
  rw [List.any_cons]
  by_cases e:p.1=k
  ·simp only [valV_pos e,decide_eq_true e,Bool.true_or,Option.isSome_some]
  ·rw [valV_neg e,decide_eq_false e,Bool.false_or];exact valV_any k r
theorem length_putK (kvs:List (κ×V)) (k:κ) (v:V):(putK kvs k v).length<=kvs.length+1:=by
 unfold putK
 split
 ·rw [List.length_map];lia
 ·rw [List.length_append,List.length_cons,List.length_nil];lia
theorem RelO.isSome_eq {o:Option V} {u:Option Value} (r:RelO o u):o.isSome=u.isSome:=by
 cases o with
 | none=>cases u with
  | none=>rfl
  | some _=>exact (show False from r).elim
 | some _=>cases u with
  | none=>exact (show False from r).elim
  | some _=>rfl
theorem KV.any {kvs:List (κ×V)} {vs:List (κ×Value)} (r:KV kvs vs) (k:κ):(kvs.any fun kv=>decide (kv.1=k))=vs.any fun kv=>decide (kv.1=k):=by
 unfold KV at r
 induction r with
 | nil=>rfl
 | cons h t ih=>rw [List.any_cons,List.any_cons,ih,h.1]
theorem KV.repl {kvs:List (κ×V)} {vs:List (κ×Value)} (r:KV kvs vs) (k:κ) {y:V} {u:Value} (ry:RelV y u) :
  KV (kvs.map fun kv=>if kv.1=k then (kv.1,y) else kv) (vs.map fun kv=>if kv.1=k then (kv.1,u) else kv):=by
 unfold KV at r ⊢
 induction r with
 | nil=>exact .nil
 | @cons p q ps qs h t ih=>
  rw [List.map_cons,List.map_cons]
  refine .cons ?_ ih
  obtain ⟨h1,h2⟩:=h
  by_cases e:p.1=k
  ·rw [if_pos e,if_pos (h1.symm.trans e)];exact ⟨h1,ry⟩
  ·rw [if_neg e,if_neg (fun z=>e (h1.trans z))];exact ⟨h1,h2⟩
theorem KV.put {kvs:List (κ×V)} {vs:List (κ×Value)} (r:KV kvs vs) (k:κ) {y:V} {u:Value} (ry:RelV y u):KV (putK kvs k y) (stored vs k u):=by
 unfold putK stored
 rw [r.any k]
 by_cases e:(vs.any fun kv=>decide (kv.1=k))=true
 ·rw [if_pos e,if_pos e];exact r.repl k ry
 ·rw [if_neg e,if_neg e];exact Paired.snoc r ⟨rfl,ry⟩
theorem KV.length {kvs:List (κ×V)} {vs:List (κ×Value)} (r:KV kvs vs):kvs.length=vs.length:=Paired.length r
end
theorem kV_is {P:Program} {w:World} {k:Key} {u:Value} (r:RelV (kV k) u):(mixKind P w).is k u=true:=by
 cases k with
 | inl i=>obtain ⟨t,e⟩:=(show ∃t,u=Value.int i t from r);subst e;exact mixKind_int P w i t
 | inr x=>obtain ⟨t,e⟩:=(show ∃t,u=Value.str x t from r);subst e;exact mixKind_str P w x t
theorem items_are {P:Program} {w:World}:∀{ks:List Key} {us:List Value},Vals (ks.map kV) us->ItemsAre (mixKind P w) ks us
 | [],_,r=>by rw [List.map_nil] at r;cases r;exact .nil
 | k::ks,_,r=>by
  rw [List.map_cons] at r
  cases r with
  | cons h t=>exact .cons (kV_is h) (items_are t)
abbrev KT (H:Hp):List (List Key×V)->List (List Key×Addr×Value)->Prop:=Paired fun p q=>p.1=q.1/\H q.2.1=some (.tup (p.1.map kV))/\RelV p.2 q.2.2
theorem KT.val {H:Hp} {kvs:List (List Key×V)} {xs:List (List Key×Addr×Value)} (r:KT H kvs xs) (k:List Key):RelO (valV kvs k) ((atKey xs k).map (·.2)):=by
 induction r with
 | nil=>exact True.intro
 | @cons p q ps qs h t ih=>
  obtain ⟨h1,_,h2⟩:=h
  by_cases e:p.1=k
  ·have e':q.1=k:=h1.symm.trans e
   have b:atKey (q::qs) k=some q.2:=by simp [atKey,List.find?_cons,e']
   rw [valV_pos e,b];exact h2
  ·have e':¬q.1=k:=fun z=>e (h1.trans z)
   have b:atKey (q::qs) k=atKey qs k:=by simp [atKey,List.find?_cons,e']
   rw [valV_neg e,b];exact ih
theorem KT.repl {H:Hp} {kvs:List (List Key×V)} {xs:List (List Key×Addr×Value)} (r:KT H kvs xs) (k:List Key) {y:V} {u:Value} (ry:RelV y u) :
  KT H (kvs.map fun kv=>if kv.1=k then (kv.1,y) else kv) (xs.map (putAt k u)):=by
 induction r with
 | nil=>exact .nil
 | @cons p q ps qs h t ih=>
  rw [List.map_cons,List.map_cons]
  refine .cons ?_ ih
  obtain ⟨h1,h2,h3⟩:=h
  unfold putAt
  by_cases e:p.1=k
  ·rw [if_pos e,if_pos (h1.symm.trans e)];exact ⟨h1,h2,ry⟩
  ·rw [if_neg e,if_neg (fun z=>e (h1.trans z))];exact ⟨h1,h2,h3⟩
theorem KT.put {H:Hp} {kvs:List (List Key×V)} {xs:List (List Key×Addr×Value)} (r:KT H kvs xs) (k:List Key) {b:Addr} {y:V} {u:Value} (hb:H b=some (.tup (k.map kV))) (ry:RelV y u) :
  KT H (putK kvs k y) (storedH xs k b u):=by
 have e:(kvs.any fun kv=>decide (kv.1=k))=(atKey xs k).isSome:=by
  rw [valV_any,(r.val k).isSome_eq,Option.isSome_map]
 unfold putK storedH
 rw [e]
 by_cases q:(atKey xs k).isSome=true
 ·rw [if_pos q,if_pos q];exact r.repl k ry
 ·rw [if_neg q,if_neg q];exact Paired.snoc r ⟨rfl,hb,ry⟩
theorem KT.keeps {H H':Hp} {kvs:List (List Key×V)} {xs:List (List Key×Addr×Value)} (r:KT H kvs xs) (ht:∀b ys,H b=some (.tup ys)->H' b=some (.tup ys)):KT H' kvs xs:=
 Paired.mapP r fun _ _ z=>⟨z.1,ht _ _ z.2.1,z.2.2⟩
section
variable {P:Program} {w:World} {H:Hp} {h:Heap} {a:Addr}
theorem rd_of {u:HO} (ok:HOk P w H h) (e:Rd H a u):ObjOk P w H h a u:=e.ok ok
theorem dk_rd {kvs:List (Key×V)} (ok:HOk P w H h) (e:Rd H a (.dK kvs)):kvs.length<=sizeLine/\(a == sysModules)=false/\∃vs,KV kvs vs/\h.DictOf (mixKind P w) a vs:=
 show ObjOk P w H h a (.dK kvs) from rd_of ok e
theorem dk_of {kvs:List (Key×V)} (ok:HOk P w H h) (e:H a=some (.dK kvs)):kvs.length<=sizeLine/\(a == sysModules)=false/\∃vs,KV kvs vs/\h.DictOf (mixKind P w) a vs:=dk_rd ok (.inl e)
theorem key_of {ks:List Key} (ok:HOk P w H h) (e:H a=some (.tup (ks.map kV))):(tupleKind (mixKind P w)).is h ks a:=by
 obtain ⟨_,its,r,o,h1,h2,n,h3⟩:=(show ObjOk P w H h a (.tup (ks.map kV)) from ok a _ e)
 exact ⟨o,its.toArray,n,h1,h2,h3,by simpa using items_are r⟩
theorem dt_rd {kvs:List (List Key×V)} (ok:HOk P w H h) (e:Rd H a (.dT kvs)):kvs.length<=sizeLine/\(a == sysModules)=false/\
  ∃xs,KT H kvs xs/\h.DictOfH (tupleKind (mixKind P w)) a xs:=by
 obtain ⟨z,y,xs,r,o,es,ep,h1,h2,h3,h4,h5⟩:=(show ObjOk P w H h a (.dT kvs) from rd_of ok e)
 refine ⟨z,y,xs,r,o,es,ep,h1,h2,h3,h4,fun x hx=>?_,h5⟩
 have all:∀{l:List (List Key×V)} {m:List (List Key×Addr×Value)},KT H l m->∀x∈m,(tupleKind (mixKind P w)).is h x.1 x.2.1:=by
  intro l m q
  induction q with
  | nil=>intro x hx;exact nomatch hx
  | @cons p q ps qs hq t ih=>
   intro x hx
   rcases List.mem_cons.mp hx with e | hx
   ·subst e
    exact key_of ok (by rw [<-hq.1];exact hq.2.1)
   ·exact ih x hx
 exact all r x hx
theorem dt_of {kvs:List (List Key×V)} (ok:HOk P w H h) (e:H a=some (.dT kvs)):kvs.length<=sizeLine/\(a == sysModules)=false/\
  ∃xs,KT H kvs xs/\h.DictOfH (tupleKind (mixKind P w)) a xs:=dt_rd ok (.inl e)
end
def DPut (H:Hp) (a:Addr) (y v:V) (H':Hp):Prop:=
 (∃kvs k,H a=some (.dK kvs)/\y=kV k/\kvs.length < sizeLine/\H'=upd H a (.dK (putK kvs k v)))\/
 ∃kvs k b,H a=some (.dT kvs)/\y=.ref b/\H b=some (.tup (k.map kV))/\kvs.length < sizeLine/\H'=upd H a (.dT (putK kvs k v))
theorem DPut.t {H:Hp} {a b:Addr} {kvs:List (List Key×V)} {k:List Key} {v:V} (e:H a=some (.dT kvs)) (eb:H b=some (.tup (k.map kV))) (hl:kvs.length < sizeLine) :
  DPut H a (.ref b) v (upd H a (.dT (putK kvs k v))):=.inr ⟨kvs,k,b,e,rfl,eb,hl,rfl⟩
section
variable {X:Cx} {pins:List (Addr×Obj)} {σ:St} {H:Hp} {s:Shared} {a:Addr} {y v:V} {u r:Value} {o:Option V} {A:Around} {E:Value->Shared->Prop}
theorem Inv.big (I:Inv X pins σ H s):sysModules < s.heap.objs.size:=by
 have h:mainGlobals < s.heap.objs.size:=(I.mod.glob.keeps I.bk).lt
 exact Nat.lt_trans (by decide) h
theorem d_write {h':Heap} {t':Nat} {ob:HO} (I:Inv X pins σ H s) (mu:Mut (H a)) (hs:Heap.SameBut a s.heap h') (he:∃q,h'.get? a=some q) (new:ObjOk X.prog X.w (upd H a ob) h' a ob) :
  Inv X pins σ (upd H a ob) { s with heap:=h',toks:=t' }:=
 I.write (x:=a) (e:=a) mu (.inl rfl) (fun b q hb z=>(hs.2 b hb).trans z) he new
theorem dk_new {P:Program} {w:World} {H':Hp} {h':Heap} {kvs:List (Key×V)} {vs:List (Key×Value)} (z:kvs.length<=sizeLine) (hd:(a == sysModules)=false) (rel:KV kvs vs) (dd:h'.DictOf (mixKind P w) a vs) :
  ObjOk P w H' h' a (.dK kvs):=⟨z,hd,vs,rel,dd⟩
theorem d_setItem {H':Hp} {Q:Unit->Shared->Prop} (hu:A.units+1 < cLine) (I:Inv X pins σ H s) (g:DPut H a y v H') (ry:RelV y u) (rv:RelV v r) (h:∀s',Inv X pins σ H' s'->Q () s') :
  wpAny (model X.prog X.w) A (setItem (.ref a) u r) Q E s:=by
 rcases g with ⟨kvs,k,e,ey,l,eH⟩ | ⟨kvs,k,b,e,ey,eb,l,eH⟩
 ·subst ey eH
  obtain ⟨z,hd,vs,rel,dd⟩:=dk_of I.hok e
  have hz:vs.length<=sizeLine:=by rw [<-rel.length];exact z
  have hl:(putK kvs k v).length<=sizeLine:=by have:=length_putK kvs k v;lia
  refine wpAny_setItem_pairs (hsz:=hz) (kV_is ry) dd fun h' dd' hs=>h _ ?_
  have he:∃q,h'.get? a=some q:=let ⟨q,_,_,hq,_⟩:=dd';⟨q,hq⟩
  exact d_write I (by rw [e];exact True.intro) hs he (dk_new hl hd (rel.put k rv) dd')
 ·subst ey eH
  cases (show u=Value.ref b from ry)
  obtain ⟨z,hd,xs,rel,dd⟩:=dt_of I.hok e
  have hz:xs.length<=sizeLine:=by rw [<-Paired.length rel];exact z
  have hl:(putK kvs k v).length<=sizeLine:=by have:=length_putK kvs k v;lia
  refine wpAny_setItem_heap (hsz:=hz) (tupleKind_room_in1 hu) (key_of I.hok eb) dd fun h' dd' hs=>h _ ?_
  obtain ⟨q,es,ep,hq,h2,h3,h4,_,h5⟩:=dd'
  refine d_write I (by rw [e];exact True.intro) hs ⟨q,hq⟩ ⟨hl,hd,_,(rel.put k eb rv).keeps fun c ys ec=>?_,q,es,ep,hq,h2,h3,h4,h5⟩
  rw [upd_ne (ne_of ec e (fun z=>nomatch z))]
  exact ec
end
section
variable {X:Cx} {pins:List (Addr×Obj)} {σ:St} {H:Hp} {s:Shared} {a:Addr} {kvs:List (Key×V)} {k:Key} {u:Value} {A:Around} {E:Value->Shared->Prop}
end
def sDPut (td ty tv:TE):TS:=fun D σ H=>tv σ H fun v H1=>td σ H1 fun x H2=>ty σ H2 fun y H3=>∃a H4,x=.ref a/\DPut H3 a y v H4/\D.nx σ H4
section
variable {X:Cx} {o i e value:Expr} {pos pos' tpos:Pos} {td ty tv:TE}
theorem ps_dput (hu:X.A.units+1 < cLine) (ho:PE X o td) (hi:PE X i ty) (hv:PE X value tv) (hs:swapsWith value (some (.Subscript o i pos')) pos.line X.env=pure false) :
  PS X (.Assign [.Subscript o i pos'] value pos) (sDPut td ty tv):=by
 intro pins s σ H D I h
 refine wpAny_Assign_Subscript (thn (hv pins s σ H _ I h) fun r s1 ⟨v,H1,I1,rv,q1⟩=>thn (ho pins s1 σ H1 _ I1 q1) fun u s2 ⟨x,H2,I2,rx,q2⟩=>thn (hi pins s2 σ H2 _ I2 q2) fun iv s3 ⟨y,H3,I3,ry,a,H4,ex,g,q3⟩=>?_) hs
 subst ex
 obtain rfl:u=Value.ref a:=rx
 exact d_setItem hu I3 g ry rv fun s4 I4=>⟨σ,H4,I4,q3⟩
end
theorem dt_empty {P:Program} {w:World} {H:Hp} (h:Heap) (hb:sysModules < h.objs.size):ObjOk P w H (h.push { cls:=.type "dict",data:=.dict #[] }) h.objs.size (.dT []):=
 ⟨Nat.zero_le _,beq_eq_false_iff_ne.mpr (Ne.symm (Nat.ne_of_lt hb)),[],.nil,_,#[],0,Heap.get?_push_size _ rfl,⟨rfl,rfl,rfl⟩,rfl,rfl,List.nodup_nil⟩
def tDNewK:TE:=fun _ H Q=>∀p,H p=none->Q (.ref p) (upd H p (.dK []))
def tDNewT:TE:=fun _ H Q=>∀p,H p=none->Q (.ref p) (upd H p (.dT []))
section
variable {X:Cx} {pos:Pos}
theorem pe_dnewT:PE X (.Dict [] [] pos) tDNewT:=fun pins s σ H Q I h=>
 wpAny_Dict_empty ⟨.ref s.heap.objs.size,_,I.laid (a:=s.heap.objs.size) (o:=.dT []) (t':=s.toks) (fun _ _ q=>Heap.get?_push_of_some _ q) (Nat.le_refl _) (dt_empty s.heap I.big),rfl,h _ (I.hok.fresh (Nat.le_refl _))⟩
end
def mergeK (kvs more:List (Key×V)):List (Key×V):=more.foldl (fun acc kv=>putK acc kv.1 kv.2) kvs
structure M1 (X:Cx) (o:Expr) (m:Str) (apos:Pos) (e:Expr) (cpos:Pos):Prop where
 base:attributeBase o m X.env (eval o X.env)=eval o X.env
 few:((backTo cpos (starEach [e] X.env)).all (fun x=>!x.1) && (backToKw cpos (keywordEach [] X.env)).all (fun x=>x.1.isSome)
  && decide (([e]:List Expr).length+([]:List Keyword).length+(if ([]:List Keyword).isEmpty then 0 else 1) < 30))=true
 line:(apos.endLine == cpos.line)=true
 trees:backTo cpos (starEach [e] X.env)=[(false,eval e X.env)]
structure M2 (X:Cx) (o:Expr) (m:Str) (apos:Pos) (e f:Expr) (cpos:Pos):Prop where
 base:attributeBase o m X.env (eval o X.env)=eval o X.env
 few:((backTo cpos (starEach [e,f] X.env)).all (fun x=>!x.1) && (backToKw cpos (keywordEach [] X.env)).all (fun x=>x.1.isSome)
  && decide (([e,f]:List Expr).length+([]:List Keyword).length+(if ([]:List Keyword).isEmpty then 0 else 1) < 30))=true
 line:(apos.endLine == cpos.line)=true
 trees:backTo cpos (starEach [e,f] X.env)=[(false,eval e X.env),(false,eval f X.env)]
section
variable {X:Cx} {pins:List (Addr×Obj)} {σ:St} {H:Hp} {s:Shared} {a:Addr} {y d:V} {u r:Value} {o:Option V} {A:Around} {E:Value->Shared->Prop}
end
section
variable {X:Cx} {o e f:Expr} {apos cpos:Pos} {td ty tx:TE}
end
section
variable {X:Cx} {pins:List (Addr×Obj)} {σ:St} {H:Hp} {s:Shared} {a:Addr} {kvs:List (Key×V)} {A:Around} {E:Value->Shared->Prop}
end
section
variable {X:Cx} {pins:List (Addr×Obj)} {σ:St} {H:Hp} {s:Shared} {a:Addr} {y:V} {u:Value} {A:Around} {E:Value->Shared->Prop}
end
end L2
namespace Att
open PySem PySem.W PySem.Calls PyProof.Rows
theorem ints_of_wellAll {P:Params} {h:Heap}:∀(ns:List Int) (vs:List Value),WellAll P h vs (ns.map WData.int)->IntsAre vs ns:=by
 intro ns
 induction ns with
 | nil=>
  intro vs w
  rw [List.map_nil] at w
  cases w
  exact .nil
 | cons n ns ih=>
  intro vs w
  rw [List.map_cons] at w
  cases w with
  | cons a b=>
   cases a
   exact .cons _ _ (ih _ b)
theorem script_of {l:OpenLaw} {n:Nat} (hn:l.most=some n) {P:Params} {h:Heap} {args:List WData} {vals:List Value}
  (hpre:l.row.toRowW.claim.pre args=true) (hwl:WellAll P h vals args) :
  ∃a vs ns,vals=[Value.ref a]/\args=[WData.list (ns.map WData.int)]/\h.get? a=some { cls:=.type "list",data:=.seq vs.toArray }/\IntsAre vs ns/\ns.length<=n:=by
 have hsh:WShape.hasAll [] args [.list .int]=true:=(pre_splitW hpre).1
 have hc:l.pre.holds [] { args:=args }=true:=(pre_splitW hpre).2
 obtain ⟨d,r,rfl,h1,h2⟩:=hasAllW_cons hsh
 obtain rfl:=hasAllW_nil h2
 obtain ⟨xs,rfl,h3⟩:=hasW_list h1
 obtain ⟨ns,rfl⟩:=items_int h3
 have hlen:ns.length<=n:=by
  unfold OpenLaw.pre at hc
  have h4:(WTm.not (.lt (.lit (.int (n:Int))) (.len (.arg 0)))).holds [] { args:=[.list (ns.map .int)] }=true:=by
   have h4:=(holds_andW hc).1
   rw [hn] at h4
   exact h4
  have h5:=condW_of h4 (w_not (w_lt w_lit (w_len_list (w_arg rfl))))
  rw [List.length_map] at h5
  refine Nat.le_of_not_lt fun q=>?_
  have q':(n:Int) < ((ns.length:Nat):Int):=by lia
  first
   | (rw [decide_eq_true q'] at h5;exact absurd h5 (by decide))
   | (simp at h5;lia)
 cases hwl with
 | cons w1 w2=>
  cases w2
  cases w1 with
  | list ho hall=>exact ⟨_,_,ns,rfl,rfl,ho,ints_of_wellAll ns _ hall,hlen⟩
theorem post_true (l:OpenLaw) (args:List WData):l.row.toRowW.claim.post args (.bool true) args=true:=
 postW_of (r:=l.row.toRowW) (X:=(true == true))
  (show WShape.has [] (.bool true) .bool=true by first | rfl | decide | simp [WShape.has,WShape.arms,WShape.armsAll])
  (show (WTm.eq .res (.lit (.bool true))).value [] { args:=args,res:=some (.bool true),after:=args }=some (.bool (true == true)) from w_eq_bool (w_res rfl) w_lit) rfl
theorem attach_call {l:OpenLaw} {n:Nat} {q:Program} {loose:List Str} {XP:(Str->Option Value)->Heap->Prop} {YP:World->Heap->Prop} {d:DefRec}
  (hn:l.most=some n) (hdf:d.params.defaults=[])
  (call:∀(w:World) (s₀ s₁:Shared) (mg mb:Str->Option Value) (fa:Addr) (o:Obj) (pm cd doc:Value) (a:Addr) (vs:List Value) (ns:List Int),
   Ground q loose [] XP w s₀ mg mb s₁.heap->YP w s₁.heap->
   s₁.heap.get? fa=some o->o.data=.func (docDef d.name d.params d.body d.scope pm cd doc)->s₁.heap.CodeRec cd d.name->mg d.name=some (.ref fa)->
   s₁.heap.get? a=some { cls:=.type "list",data:=.seq vs.toArray }->IntsAre vs ns->ns.length<=n->s₁.gens = #[]->
   codeAny (model l.prog w) callerA (.call (.ref fa) ⟨[.ref a],[]⟩) (fun r s'=>r=.ok (.ret (.bool true))/\OldK s₁.heap s'.heap/\s'.os=s₁.os/\AllBare s'.gens) s₁) :
  WalkO q loose XP YP l.row.toRowW d [] (fun f vs=>PySem.call f vs):=by
 intro w s₀ s₁ mg mb G Y fa o pm cd doc dV kV ho hd hcd hD hmg hg args vals as hpre hlay hrd hwl hlo
 obtain rfl:dV=.none:=Dflts.none hD hdf
 obtain rfl:kV=.none:=Dflts.noKw hD
 obtain ⟨a,vs,ns,rfl,rfl,hobj,hints,hlen⟩:=script_of hn hpre hwl
 refine enter_call (codeAny_mono (call w s₀ s₁ mg mb fa o pm cd doc a vs ns G Y ho (fd_plain hd) hcd hmg hobj hints hlen hg) fun r s' hq=>?_)
 obtain ⟨rfl,h2,h3,h4⟩:=hq
 exact ⟨.inl ⟨.bool true,.bool true,[],rfl,fun _=>rfl,.bool true,post_true l _,fun _=>⟨List.Pairwise.nil,fun _ hm=>(nomatch hm)⟩⟩,h2,h3,h4⟩
section
variable {prog:Program} {w:World} {A:Around} {E:Value->Shared->Prop} {s:Shared} {K:Frag}
end
end Att
namespace L2
open PySem PySem.Spec PyProof.Rows
theorem vals_ints:∀{vs:List Value} {ns:List Int},IntsAre vs ns->Vals (ns.map V.int) vs
 | _,_,.nil=>.nil
 | _,_,.cons n t h=>.cons ⟨t,rfl⟩ (vals_ints h)
def Only (H:Hp):Prop:=∀b,H b=none\/∃o xs,H b=some (.frz o (.lst xs))
theorem law_call {P:Program} {w:World} {K:PySem.W.Frag} {mg mb:Str->Option Value} {CX:CXT} {k:Nat} {fa a:Addr} {fd:FuncData} {x:Str} {sp:Sp} {s₁:Shared} {vs:List Value} {ns:List Int}
  (KX:K.In s₁.heap) (hns:s₁.heap.Ns mainGlobals mg) (hb:s₁.heap.Ns builtinsNs mb) (hbb:∀x:Str,x≠"__name__"->mb x=bootBuiltins x) (hlim:s₁.heap.NoLimit) (hg:s₁.gens = #[])
  (ha:s₁.heap.get? a=some { cls:=.type "list",data:=.seq vs.toArray }) (hi:IntsAre vs ns) (hl:ns.length<=sizeLine) (hr:Room k callerA)
  (F:∀base:Heap,K.In base->base.Ns mainGlobals mg->FnOk P w K mg base CX k fa fd [x] sp) (hbind:∀(s:Shared) (u:Value),BindsTo s fd ⟨[u],[]⟩ [(x,u)])
  (hsp:∀H:Hp,Only H->SqL K H a (ns.map V.int)->sp [.ref a] H (fun v _=>v=.bl true) fun _ _ _=>False)
  (hCX:∀H e s',CX [] H s₁ (fun _ _ _=>False) e s'->False) :
  codeAny (model P w) callerA (.call (.ref fa) ⟨[.ref a],[]⟩) (fun r s'=>r=.ok (.ret (.bool true))/\OldK s₁.heap s'.heap/\s'.os=s₁.os/\AllBare s'.gens) s₁:=by
 have rv:=vals_ints hi
 have lenV:=hi.length
 have core:∀H:Hp,Only H->SqL K H a (ns.map V.int)->HOk P w H s₁.heap->(∀b,H b≠none->b=a)->(H a≠none->K.lookup a=none)->
   codeAny (model P w) callerA (.call (.ref fa) ⟨[.ref a],[]⟩) (fun r s'=>r=.ok (.ret (.bool true))/\OldK s₁.heap s'.heap/\s'.os=s₁.os/\AllBare s'.gens) s₁:=by
  intro H hO hS hok hA hK
  have base_of:∀{b:Addr} {o:Obj},s₁.heap.get? b=some o->H b=none->(hidT s₁.heap H).get? b=some o:=fun e n=>hidT_get e n
  have noA:∀{b:Addr} {o:Obj} {es:Array DictEntry} {ep:Nat},s₁.heap.get? b=some o->o.data=.dict es ep->H b=none:=fun {b o es ep} e d=>by
   cases q:H b with
   | none=>rfl
   | some u=>
    have e':b=a:=hA b (by rw [q];simp)
    subst e'
    rw [ha] at e;cases e
    have d':Data.seq vs.toArray _=Data.dict es ep:=d
    cases d'
  have nsK:∀{b:Addr} {m:Str->Option Value},s₁.heap.Ns b m->(hidT s₁.heap H).Ns b m:=fun {b m} ⟨o,es,ep,e,d,r⟩=>⟨o,es,ep,base_of e (noA e d),d,r⟩
  have hKb:K.In (hidT s₁.heap H):=fun b o e=>base_of (KX b o e) (by
   cases q:H b with
   | none=>rfl
   | some u=>
    have e':b=a:=hA b (by rw [q];simp)
    subst e'
    rw [hK (by rw [q];simp)] at e;cases e)
  have hM:Mod K mg (hidT s₁.heap H):=⟨hKb,nsK hns,⟨mb,nsK hb,hbb⟩,let ⟨mc,h1,h2⟩:=hlim;⟨mc,nsK h1,h2⟩⟩
  have e0:Env0 P w K mg (hidT s₁.heap H) callerA [] s₁ H:=⟨rfl,hM,fun b o e=>of_hidT e,Nat.le_of_eq (hidT_size _ _),trivial,fun b hb=>absurd (show b∈([]:List Addr) from hb) (by simp),hok,.of_eq hg⟩
  refine codeAny_mono ((F _ hKb (nsK hns)).run callerA [] s₁ H ⟨[.ref a],[]⟩ [.ref a] [.ref a] _ _ hr e0 (hbind s₁ (.ref a)) (.cons rfl .nil) (hsp H hO hS)) fun r s' h=>?_
  cases r with
  | error e=>exact (hCX H e s' h).elim
  | ok fl=>
   cases fl with
   | next=>exact False.elim h
   | brk=>exact False.elim h
   | cont=>exact False.elim h
   | ret u=>
    obtain ⟨v,H',os,bare,un,hok',r',q⟩:=h
    have q':v=.bl true:=q
    subst q'
    obtain rfl:u=Value.bool true:=r'
    refine ⟨rfl,OldK.of_keep fun b o e=>?_,os,bare⟩
    cases q:H b with
    | none=>exact un.keep b o e q (by intro z;exact absurd (show b∈([]:List Addr) from z) (by simp)) (by simp)
    | some u=>
     rcases hO b with z | ⟨ob,xs,z⟩
     ·rw [q] at z;cases z
     ·have z2:=un.frzs b ob _ z
      obtain ⟨e1,_⟩:=hok b _ z
      obtain ⟨e2,_⟩:=hok' b _ z2
      rw [e] at e1;cases e1
      exact e2
 cases hk:K.lookup a with
 | some o=>
  have e:=KX a o hk
  rw [ha] at e
  cases e
  refine core (fun _=>none) (fun _=>.inl rfl) (.inr ⟨_,vs.toArray,_,hk,rfl,rfl,rfl,by rw [List.size_toArray,lenV];exact hl,by simpa using rv⟩) (fun b u z=>by have z':(none:Option HO)=some u:=z;cases z') (fun b z=>absurd rfl z) fun z=>absurd rfl z
 | none=>
  refine core (fun b=>if b=a then some (.frz { cls:=.type "list",data:=.seq vs.toArray } (.lst (ns.map V.int))) else none) (fun b=>?_) (.inl (.inr ⟨{ cls:=.type "list",data:=.seq vs.toArray },if_pos rfl⟩)) (fun b u z=>?_) (fun b z=>?_) fun _=>hk
  ·by_cases hb:b=a
   ·exact .inr ⟨_,_,if_pos hb⟩
   ·exact .inl (if_neg hb)
  ·by_cases hb:b=a
   ·have z':=(if_pos hb).symm.trans z
    cases z'
    subst hb
    exact ⟨ha,by rw [List.length_map];exact hl,vs,_,rv,ha⟩
   ·have z':=(if_neg hb).symm.trans z
    cases z'
  ·by_cases hb:b=a
   ·exact hb
   ·exact absurd (if_neg hb) z
end L2
namespace L2
open PySem PySem.Spec PyProof.Rows
theorem walk_of {l:PySem.W.OpenLaw} {n k:Nat} {q:Program} {loose:List Str} {XP:(Str->Option Value)->Heap->Prop} {YP:World->Heap->Prop} {d:DefRec} {K:Params->PySem.W.Frag} {CX:World->CXT} {sp:World->Sp} {x:Str}
  (hn:l.most=some n) (hn2:n<=sizeLine) (hdf:d.params.defaults=[]) (hr:Room k callerA)
  (hY:∀(w:World) (h:Heap),YP w h->(K w.params).In h)
  (F:∀(w:World) (mg:Str->Option Value) (fa:Addr) (h:Heap),(K w.params).In h->h.Ns mainGlobals mg->mg d.name=some (.ref fa)->
   ∃fd:FuncData,(∀(s:Shared) (u:Value),BindsTo s fd ⟨[u],[]⟩ [(x,u)])/\
    ∀base:Heap,(K w.params).In base->base.Ns mainGlobals mg->FnOk l.prog w (K w.params) mg base (CX w) k fa fd [x] (sp w))
  (hsp:∀(w:World) (H:Hp) (a:Addr) (ns:List Int),ns.length<=n->Only H->SqL (K w.params) H a (ns.map V.int)->sp w [.ref a] H (fun v _=>v=.bl true) fun _ _ _=>False)
  (hCX:∀(w:World) (H:Hp) (s:Shared) (e:Value) (s':Shared),CX w [] H s (fun _ _ _=>False) e s'->False) :
  PySem.W.WalkO q loose XP YP l.row.toRowW d [] (fun f vs=>PySem.call f vs):=by
 refine Att.attach_call hn hdf fun w s₀ s₁ mg mb fa o pm cd doc a vs ns G Y ho hd hcd hmg hobj hints hlen hg=>?_
 have KX:=hY w _ Y
 obtain ⟨fd,hb,hF⟩:=F w mg fa _ KX G.T.g hmg
 exact law_call KX G.T.g G.T.b G.T.builtins G.T.nolimit hg hobj hints (Nat.le_trans hlen hn2) hr hF hb (fun H hO hS=>hsp w H a ns hlen hO hS) fun H e s'=>hCX w H s₁ e s'
end L2
namespace L2
open PySem PySem.Spec PyProof.Rows
def defArgs (s:Stmt):Arguments:=match s with
 | .FunctionDef _ a _ _ _ _ _ _ _ _=>a
 | _=>{ posonlyargs:=[],args:=[],vararg:=none,kwonlyargs:=[],kw_defaults:=[],kwarg:=none,defaults:=[] }
def defBody (s:Stmt):List Stmt:=match s with
 | .FunctionDef _ _ b _ _ _ _ _ _ _=>b
 | _=>[]
def defScope (s:Stmt):Scope:=match s with
 | .FunctionDef _ _ _ _ _ _ sc _ _ _=>sc
 | _=>{ kind:=.function,names:=[],isGenerator:=false,isCoroutine:=false }
abbrev CX0:CXT:=fun _ _ _ _ _ _=>False
abbrev E0:XK:=fun _ _ _=>False
theorem pass0 {X:Cx}:Passes CX0 X E0:=fun _ _ _ _ _ _ _ h=>h.elim
structure Fun (K:PySem.W.Frag) (x qual:Str) (st:Stmt) (f:Addr) (fd:FuncData):Prop where
 ex:∃(oc:Value) (od:Option Addr) (kV doc pm:Value) (an:Option Addr) (cdv ct:Value) (osl:Array (Option Value)),
  fd=PySem.W.fnOf x qual (defArgs st) (defBody st) (defScope st) .none kV doc pm an cdv ct/\K.lookup f=some ⟨oc,od,.func fd,osl⟩/\PySem.W.codeIn K cdv qual=true
 kp:PySem.W.keepIn K (.ref f)=true
section
variable {P:Program} {w:World} {K:PySem.W.Frag} {mg:Str->Option Value} {base:Heap}
theorem Fun.ok {x qual:Str} {st:Stmt} {f:Addr} {fd:FuncData} {N ps:List Str} {k:Nat} {sp:Sp} (F:Fun K x qual st f fd) (S:FnScope N ps (defScope st)) (len:∀vs H Q E,sp vs H Q E->vs.length=ps.length)
  (hbody:∀(cdv:Value) (A:Around) (outer:List Env) (s:Shared) (H:Hp) (vs:List V) (Q:VK) (E:XK),Room k (A.deeper (envOfC qual (defScope st) s.heap.objs.size f cdv))->sp vs H Q E->
   ∃t,PSs (cxOf CX0 P w K mg base N qual (defScope st) f cdv A outer s H E).nox (defBody st) t/\t { nx:=fun _ H'=>Q .non H',rt:=Q } (start N vs) H):FnOk P w K mg base CX0 (k+1) f fd ps sp:=by
 obtain ⟨oc,od,kV,doc,pm,an,cdv,ct,osl,rfl,lk,hcd⟩:=F.ex
 refine fn_of lk hcd S len fun A outer s H vs Q E hr hsp=>?_
 obtain ⟨t,h,q⟩:=hbody cdv A outer s H vs Q E hr hsp
 exact ⟨t,h.nox,q⟩
theorem Fun.binds {x qual:Str} {st:Stmt} {f:Addr} {fd:FuncData} {ps:List Str} (F:Fun K x qual st f fd)
  (h:∀(kV doc pm:Value) (an:Option Addr) (cdv ct:Value) (us:List Value),us.length=ps.length->bindArgs (PySem.W.fnOf x qual (defArgs st) (defBody st) (defScope st) .none kV doc pm an cdv ct) ⟨us,[]⟩=pure (ps.zip us)):Binds K fd ps []:=by
 obtain ⟨oc,od,kV,doc,pm,an,cdv,ct,osl,rfl,lk,hcd⟩:=F.ex
 exact .all (h kV doc pm an cdv ct)
theorem fun_mk {x qual:Str} {st:Stmt} {f:Addr} {oc:Value} {od an:Option Addr} {osl:Array (Option Value)} {kV doc pm cdv ct:Value} (l:K.lookup f=some ⟨oc,od,.func (PySem.W.fnOf x qual (defArgs st) (defBody st) (defScope st) .none kV doc pm an cdv ct),osl⟩)
  (c:PySem.W.codeIn K cdv qual=true) (k:PySem.W.keepIn K (.ref f)=true):Fun K x qual st f (PySem.W.fnOf x qual (defArgs st) (defBody st) (defScope st) .none kV doc pm an cdv ct):=⟨⟨oc,od,kV,doc,pm,an,cdv,ct,osl,rfl,l,c⟩,k⟩
end
theorem hu_of {A:Around} {k:Nat} (hr:Room k A):A.units+1 < cLine:=Nat.lt_of_le_of_lt (Nat.add_le_add_left (by decide:1<=64) _) hr.units
theorem small1000 {n:Nat} (h:n<=1000):n < sizeLine:=Nat.lt_of_le_of_lt h (by decide)
section
variable {X:Cx}
theorem pv (i:Nat) {x:Str} {pos:Pos} (hN:X.N[i]? = some x:=by rfl) (hv:Vis X.env.scope x:=by first | exact Or.inl rfl | exact Or.inr (Or.inl rfl) | exact Or.inr (Or.inr rfl)) (hd:(x == ("__debug__" : Str))=false:=by decide)
  (hcd:(x == ("__classdict__" : Str))=false:=by decide):PE X (.Name x pos) (tVar i):=pe_var hN hv hd hcd
end
def Same (H H':Hp):Prop:=∀b o,H b=some o->H' b=some o
theorem Same.refl (H:Hp):Same H H:=fun _ _ h=>h
theorem Same.trans {H H1 H2:Hp} (a:Same H H1) (b:Same H1 H2):Same H H2:=fun c o h=>b c o (a c o h)
theorem Same.free {H H':Hp} (e:Same H H') {l:Addr} (h:H' l=Option.none):H l=Option.none:=by
 cases q:H l with
 | none=>rfl
 | some o=>
  rw [e l o q] at h
  cases h
section
variable {κ:Type} [DecidableEq κ]
end
end L2
end
section
theorem L2.hide {p:Prop} (h:∀q:Prop,(p->q)->q):p:=h p id
end
section
namespace L2
open PySem PySem.Spec PyProof.Rows
theorem forIn_pureX {α β:Type} {f:α->β->Sem (ForInStep β)} (g:α->β->β):∀(l:List α) (b:β),(∀x∈l,∀c,f x c=pure (.yield (g x c)))->forIn l b f=pure (l.foldl (fun c x=>g x c) b)
 | [],b,_=>rfl
 | x::l,b,h=>by
  rw [List.forIn_cons,h x List.mem_cons_self,pure_bind]
  exact forIn_pureX g l (g x b) fun y hy=>h y (List.mem_cons_of_mem _ hy)
def closL (env:Env) (names:List (Str×NameKind)) (cs:List (Str×Addr)):List (Str×Addr):=
 names.foldl (fun c y=>if y.2 == NameKind.free then (y.1,(env.cells.lookup y.1).getD 0)::c else c) cs
theorem closureFor_closL {scope:Scope} {env:Env} (h:∀y∈scope.names,y.2=.free->∃c,env.cells.lookup y.1=some c):closureFor scope env=pure (closL env scope.names []):=by
 simp only [closureFor]
 rw [forIn_pureX (fun y c=>if y.2 == NameKind.free then (y.1,(env.cells.lookup y.1).getD 0)::c else c) scope.names [] (fun x hx c=>by
  obtain ⟨n,kind⟩:=x
  dsimp only
  by_cases hk:kind=.free
  ·subst hk
   obtain ⟨a,e⟩:=h (n,.free) hx rfl
   have e':env.cells.lookup n=some a:=e
   have:cellOf env n=pure a:=by unfold cellOf;rw [e']
   rw [this,e']
   rfl
  ·have hb:(kind == NameKind.free)=false:=by simpa using hk
   rw [hb];rfl)]
 simp only [pure_bind]
 rfl
theorem closL_mem {env:Env}:∀(names:List (Str×NameKind)) (cs:List (Str×Addr)),(∀y∈names,y.2=.free->∃c,env.cells.lookup y.1=some c)->(∀p∈cs,env.cells.lookup p.1=some p.2)->
  ∀p∈closL env names cs,env.cells.lookup p.1=some p.2
 | [],cs,_,hc=>hc
 | y::r,cs,h,hc=>by
  unfold closL
  rw [List.foldl_cons]
  refine closL_mem r _ (fun z hz=>h z (List.mem_cons_of_mem _ hz)) fun p hp=>?_
  by_cases hk:y.2=.free
  ·have hb:(y.2 == NameKind.free)=true:=by simpa using hk
   rw [if_pos hb] at hp
   rcases List.mem_cons.mp hp with e | hp
   ·obtain ⟨c,e1⟩:=h y List.mem_cons_self hk
    rw [e];dsimp only;rw [e1];rfl
   ·exact hc p hp
  ·have hb:¬(y.2 == NameKind.free)=true:=by simpa using hk
   rw [if_neg hb] at hp
   exact hc p hp
theorem closL_keeps {env:Env} {p:Str×Addr}:∀(names:List (Str×NameKind)) (cs:List (Str×Addr)),p∈cs->p∈closL env names cs
 | [],_,h=>h
 | y::r,cs,h=>by
  unfold closL
  rw [List.foldl_cons]
  refine closL_keeps r _ ?_
  split
  ·exact List.mem_cons_of_mem _ h
  ·exact h
theorem closL_has {env:Env} {x:Str}:∀(names:List (Str×NameKind)) (cs:List (Str×Addr)),(x,NameKind.free)∈names->∃c,(x,c)∈closL env names cs
 | y::r,cs,h=>by
  rcases List.mem_cons.mp h with e | h
  ·subst e
   exact ⟨_,by
    unfold closL;rw [List.foldl_cons]
    refine closL_keeps r _ ?_
    rw [if_pos (by rfl)]
    exact List.mem_cons_self⟩
  ·obtain ⟨c,hc⟩:=closL_has r (if y.2 == NameKind.free then (y.1,(env.cells.lookup y.1).getD 0)::cs else cs) h
   exact ⟨c,by unfold closL;rw [List.foldl_cons];exact hc⟩
theorem lookup_of_all {f:Str->Option Addr} {x:Str}:∀{cs:List (Str×Addr)},(∀p∈cs,f p.1=some p.2)->(∃c,(x,c)∈cs)->cs.lookup x=f x
 | [],_,⟨_,h⟩=>nomatch h
 | (n,a)::r,hc,⟨c,h⟩=>by
  rw [List.lookup_cons]
  by_cases e:x=n
  ·subst e
   rw [beq_self_eq_true]
   exact (hc (x,a) List.mem_cons_self).symm
  ·have hb:(x == n)=false:=by simpa using e
   rw [hb]
   refine lookup_of_all (fun p hp=>hc p (List.mem_cons_of_mem _ hp)) ⟨c,?_⟩
   rcases List.mem_cons.mp h with q | q
   ·exact absurd (congrArg Prod.fst q) e
   ·exact q
theorem relabel_free {env : Env} {y : Str} : ∀ {names : List (Str × NameKind)}, (∀ z ∈ names, z.2 ≠ .cell) →
    ((names.map fun (n, k) => if (k == NameKind.free && env.scope.kind == .function && env.kindOf n == some .cell) then (n, NameKind.cell) else (n, k)).lookup y = some .cell ∨
     (names.map fun (n, k) => if (k == NameKind.free && env.scope.kind == .function && env.kindOf n == some .cell) then (n, NameKind.cell) else (n, k)).lookup y = some .free) → names.lookup y = some .free
  | [], _, h => by rcases h with h | h <;> cases h
  | (n, k) :: r, hc, h => by
    have ih := @relabel_free env y r fun z hz => hc z (List.mem_cons_of_mem _ hz)
    rw [List.map_cons] at h
    rw [List.lookup_cons]
    by_cases e : y = n
    · subst e
      rw [beq_self_eq_true]
      by_cases hb : (k == NameKind.free && env.scope.kind == .function && env.kindOf y == some .cell) = true
      · have hk : k = .free := by
          rw [Bool.and_eq_true, Bool.and_eq_true] at hb
          simpa using hb.1.1
        rw [hk]
      · dsimp only at h
        rw [if_neg hb, List.lookup_cons, beq_self_eq_true] at h
        dsimp only at h
        rcases h with h | h
        · exact absurd (Option.some.inj h) (hc (y, k) List.mem_cons_self)
        · exact h
    · have hn : (y == n) = false := by simpa using e
      rw [hn]
      dsimp only at h ⊢
      apply ih
      by_cases hb : (k == NameKind.free && env.scope.kind == .function && env.kindOf n == some .cell) = true
      · rw [if_pos hb, List.lookup_cons, hn] at h
        exact h
      · rw [if_neg hb, List.lookup_cons, hn] at h
        exact h
structure CB where
 C:Addr
 cl:List (Str×Addr)
 s2:Shared
 H2:Hp
 ex:List Addr
@[reducible] def cxC (X:Cx) (scope:Scope) (N:List Str) (c:CB):Cx:=
 { prog:=X.prog,w:=X.w,K:=X.K,mg:=X.mg,base:=X.base,A:=X.A,N:=N,s₀:=c.s2,H₀:=c.H2,env:=compEnvC scope c.cl c.C X.env,outer:=X.stack,stack:=X.stack,ex:=c.ex,fn:=fun _=>false,calm:=X.calm,pn:=[],xe:=fun _ _=>False }
def subS (σ:St) (idx:List Nat):St:=idx.map fun i=>(σ[i]?).join
def subN (N:List Str) (idx:List Nat):List Str:=idx.map fun i=>N.getD i ""
def PIfs (X:Cx) (ifs:List Expr) (t:TT):Prop:=
 ∀(pins:List (Addr×Obj)) (s:Shared) (σ:St) (H:Hp) (Q:Bool->Hp->Prop),Inv X pins σ H s->t σ H Q->
  wpAny (model X.prog X.w) X.A (forIn ifs true fun c r=>if r=true then do let ok <-isTrue c X.env (eval c X.env);pure (ForInStep.yield ok) else pure (ForInStep.yield r)) (TP X pins σ Q) X.xe s
def tYes:TT:=fun _ H Q=>Q true H
theorem pifs_nil {X:Cx}:PIfs X [] tYes:=fun _ _ _ H _ I h=>wpAny_tests_nil ⟨H,I,h⟩
theorem pifs_one {X:Cx} {e:Expr} {t:TT} (h:PT X e t):PIfs X [e] t:=fun pins s σ H Q I q=>wpAny_tests_one (h pins s σ H Q I q)
def tComp (wi:TI) (k:Nat) (idx:List Nat) (g:CB->TG) (tt:CB->TT) (te:CB->TE):TE:=fun σ H Q=>wi σ H fun J H1=>∀D,H1 D=none->∃W:Nat->Nat->List V->Hp->Prop,(∃m,W 0 m [] (upd H1 D (.lst [])))/\
 ∀i m ys H',W i m ys H'->(J.stop i H'/\Q (.ref D) H')\/(J.go i H'/\∃N:List V->Hp->Prop,(∀ys' H'',N ys' H''->∃m',m' < m/\W (i+1) m' ys' H'')/\∀(c:CB) (own:St),own.length=k->∀x H2,J.yld i H' x H2->g c x (own++subS σ idx) H2 fun σ3 H3=>
  (∃own',own'.length=k/\σ3=own'++subS σ idx)/\tt c σ3 H3 fun b H4=>if b=true then te c σ3 H4 fun y H5=>H5 D=some (.lst ys)/\ys.length < sizeLine/\N (ys++[y]) (upd H5 D (.lst (ys++[y]))) else N ys H4)
structure CScope (X:Cx) (scope:Scope) (xs:List Str) (idx:List Nat):Prop where
 kind:scope.kind=.function
 nocell:∀y∈scope.names,y.2≠.cell
 loc:∀y∈scope.names,y.2=.local->scope.names.lookup y.1=some .local
 free:∀y∈scope.names,y.2=.free->scope.names.lookup y.1=some .free/\(X.env.kindOf y.1=some .cell\/X.env.kindOf y.1=some .free)
 ix:∀i∈idx,∃y,X.N[i]? = some y/\scope.names.lookup y=some .free
section
variable {prog:Program} {w:World} {A:Around} {R:Result->Shared->Prop} {s:Shared}
theorem codeAny_compLoop_any {elt target iter:Expr} {ifs:List Expr} {scope:Scope} {pos:Pos} {it acc:Value} {env:Env} (I:Nat->Shared->Prop)
  (turn:∀n s,I n s->wpAny (model prog w) A (pyNext it) (fun r s₁=>match r with
   | none=>R (.ok .next) s₁
   | some v=>wpAny (model prog w) A (letOwnedTupleGo target it v) (fun _ s₁'=>wpAny (model prog w) A (assign target env v) (fun _ s₂=>
     wpAny (model prog w) A (forIn ifs true fun c r=>if r=true then do let ok <-isTrue c env (eval c env);pure (ForInStep.yield ok) else pure (ForInStep.yield r)) (fun ok s₃=>
      if ok=true then wpAny (model prog w) A (eval elt env) (fun x s₄=>
       wpAny (model prog w) A (call (.builtin "list.append") [acc,x]) (fun _ s₅=>∃m,m < n/\I m s₅) (fun _ _=>False) s₄) (fun _ _=>False) s₃
      else ∃m,m < n/\I m s₃) (fun _ _=>False) s₂) (fun _ _=>False) s₁') (fun _ _=>False) s₁) (fun _ _=>False) s)
  (n:Nat) (h:I n s) :
  codeAny (model prog w) A (.compLoop (.ListComp elt [⟨target,iter,ifs,0⟩] scope pos) 0 it acc env) R s:=by
 refine codeAny_loop rfl I (fun n s hI=>?_) n h
 show wpAny _ A ((compTurn (.ListComp elt [⟨target,iter,ifs,0⟩] scope pos) 0 it acc env).onRaise (fun x=>do noteFrame x env;theTreesLotGoes x)) _ _ s
 refine wpAny_noted ?_
 rw [compTurn_list]
 refine wpAny_bind (wpAny_standAt (wpAny_bind (wpAny_mono (turn n s hI) (fun r s₁ h₁=>?_) fun _ _ h'=>False.elim h')))
 cases r with
 | none=>exact wpAny_pure h₁
 | some v=>
  refine wpAny_bind (wpAny_mono h₁ (fun _ s₁' h₁'=>?_) fun _ _ h'=>False.elim h')
  refine wpAny_bind (wpAny_mono h₁' (fun _ s₂ h₂=>wpAny_bind (wpAny_mono h₂ (fun ok s₃ h₃=>?_) fun _ _ h'=>False.elim h')) fun _ _ h'=>False.elim h')
  cases ok with
  | false=>exact wpAny_pure ⟨rfl,h₃⟩
  | true=>
   exact wpAny_bind (wpAny_bind (wpAny_mono h₃ (fun x s₄ h₄=>wpAny_bind (wpAny_mono h₄ (fun _ s₅ h₅=>wpAny_pure (wpAny_pure ⟨rfl,h₅⟩)) fun _ _ h'=>False.elim h')) fun _ _ h'=>False.elim h'))
end
section
variable {X:Cx} {pins:List (Addr×Obj)} {σ:St} {H:Hp} {s:Shared}
theorem HOk.but {P:Program} {w:World} {h h':Heap} {C:Addr} (x:HOk P w H h) (hn:H C=none) (hs:Heap.SameBut C h h'):HOk P w H h':=fun b ob e=>by
 refine (x b ob e).stay (fun c w' hc q=>(hs.2 c ?_).trans q) (fun _ q=>q) fun _ _ q=>q
 rintro rfl
 rcases hc with rfl | hc
 ·rw [hn] at e;cases e
 ·rw [hn] at hc;cases hc
theorem Un.but {fs ex:List Addr} {H':Hp} {h h1 h2:Heap} {C:Addr} (u:Un fs ex H H' h h1) (hC:h.get? C=none) (hs:Heap.SameBut C h1 h2):Un fs ex H H' h h2:=by
 have ne:∀b o,h.get? b=some o->b≠C:=fun b o e z=>by rw [z,hC] at e;cases e
 exact ⟨fun b o e n h1 h2=>(hs.2 b (ne b o e)).trans (u.keep b o e n h1 h2),fun b o e n h1 h2=>by
   obtain ⟨sl,q⟩:=u.slot b o e n h1 h2
   exact ⟨sl,(hs.2 b (ne b o e)).trans q⟩,u.free,fun b o e h2=>by
   obtain ⟨o',q⟩:=u.there b o e h2
   exact ⟨o',(hs.2 b (ne b o e)).trans q⟩,u.tups,u.frzs,u.tbls⟩
theorem subS_get {idx:List Nat} {j:Nat} {v:V} (h:(subS σ idx)[j]? = some (some v)):∃i,idx[j]? = some i/\σ[i]? = some (some v):=by
 unfold subS at h
 rw [List.getElem?_map] at h
 cases e:idx[j]? with
 | none=>rw [e] at h;cases h
 | some i=>
  rw [e] at h
  refine ⟨i,rfl,?_⟩
  have h':(σ[i]?).join=some v:=Option.some.inj h
  cases q:σ[i]? with
  | none=>rw [q] at h';cases h'
  | some o=>rw [q] at h';cases o with
   | none=>cases h'
   | some z=>cases h';rfl
theorem subN_get {N:List Str} {idx:List Nat} {j i:Nat} {y:Str} (h:idx[j]? = some i) (e:N[i]? = some y):(subN N idx)[j]? = some y:=by
 unfold subN
 rw [List.getElem?_map,h]
 show some (N.getD i "")=some y
 rw [List.getD_eq_getElem?_getD,e];rfl
theorem Inv.block {scope:Scope} {xs:List Str} {idx:List Nat} {fp:List Addr} {C:Addr} {h':Heap} {t':Nat} {H1:Hp} {D:Addr} {m0:Str->Option Value} (I:Inv X pins σ H s) (S:CScope X scope xs idx)
  (hfp:∀b∈fp,FpOk X pins H b) (hfo:∀b∈fp,∃o,s.heap.get? b=some o) (hC:s.heap.objs.size<=C) (hDC:D≠C) (hD:s.heap.objs.size<=D) (hn:h'.Ns C m0) (hk:∀b o,s.heap.get? b=some o->h'.get? b=some o)
  (hl:∃n,h'.get? D=some { cls:=.type "list",data:=.seq #[] n }) :
  Inv (cxC X scope (xs++subN X.N idx) ⟨C,closL X.env scope.names [],s,H,fp⟩) [] (List.replicate xs.length none++subS σ idx) (upd H D (.lst [])) { s with heap:=h',toks:=t' }:=by
 have hfree:∀y∈scope.names,y.2=.free->∃c,X.env.cells.lookup y.1=some c:=fun y hy e=>I.ok.has y.1 (S.free y hy e).2
 have hall:=closL_mem (env:=X.env) scope.names [] hfree (fun p hp=>(nomatch hp))
 have hcell:∀y c,(closL X.env scope.names []).lookup y=some c->X.env.cells.lookup y=some c:=fun y c e=>hall (y,c) (PySem.mem_of_lookup e)
 have hhas:∀y,scope.names.lookup y=some .free->(closL X.env scope.names []).lookup y=X.env.cells.lookup y:=fun y e=>lookup_of_all (f:=fun n=>X.env.cells.lookup n) hall (closL_has scope.names [] (PySem.mem_of_lookup e))
 have lt:∀b,(∃o,s.heap.get? b=some o)->b < s.heap.objs.size:=fun b ⟨o,e⟩=>Heap.lt_size e
 have hDn:H D=none:=I.hok.fresh hD
 refine ⟨⟨I.ok.mod,S.kind,I.ok.glob,I.ok.blt,hC,fun x y c h1 h2=>I.ok.inj x y c (hcell x c h1) (hcell y c h2),fun y hy=>?_,fun _ _ e=>(nomatch e),I.ok.hd,I.ok.frames,.inl rfl,fun b hb=>⟨?_,fun x c e=>(hfp b hb).2.2.2.2.1 x c (hcell x c e)⟩,I.bs,Nat.le_trans I.ok.bsz I.sz,fun b o e hb=>?_,fun b hb z=>?_,I.stack,I.stkFree⟩,
  rfl,I.bare,?_,⟨m0,hn,fun i y v e1 e2 hv=>?_⟩,fun x c e=>?_,?_,fun x c e=>?_,fun p hp=>(nomatch hp),?_,?_⟩
 ·
  have q:scope.names.lookup y=some .free:=relabel_free S.nocell hy
  have q2:=PySem.mem_of_lookup q
  obtain ⟨c,e⟩:=hfree _ q2 rfl
  exact ⟨c,(hhas y q).trans e⟩
 ·
  exact Nat.ne_of_lt (Nat.lt_of_lt_of_le (lt b (hfo b hb)) hC)
 ·
  rcases (hfp b hb).2.2.2.1 with z | z
  ·exact I.ok.noex b o e z
  ·exact absurd (Nat.lt_of_lt_of_le (Heap.lt_size e) (Nat.le_trans I.ok.bsz z)) (Nat.lt_irrefl _)
 ·
  rcases List.mem_cons.mp (I.stkSub b z) with q | q
  ·exact (hfp b hb).2.1 q
  ·exact (hfp b hb).2.2.1 q
 ·
  exact Un.laid hk hD hDn
 ·
  by_cases hi:i < xs.length
  ·rw [List.getElem?_append_left (by simpa using hi)] at e2
   rw [List.getElem?_replicate] at e2
   split at e2 <;> cases e2
  ·have hi':xs.length<=i:=Nat.le_of_not_lt hi
   rw [List.getElem?_append_right (by simpa using hi'),List.length_replicate] at e2
   obtain ⟨i0,ei,es⟩:=subS_get e2
   obtain ⟨y',ey,ef⟩:=S.ix i0 (List.mem_of_getElem? ei)
   have e1':(xs++subN X.N idx)[i]? = some y:=e1
   rw [List.getElem?_append_right hi',subN_get ei ey] at e1'
   cases e1'
   obtain ⟨m,hm,hl'⟩:=I.loc
   have ef2:=S.free (y,.free) (PySem.mem_of_lookup ef) rfl
   have vis:Vis X.env.scope y:=.inr ef2.2
   obtain ⟨u,ru,lk⟩:=hl' i0 y v ey es vis
   refine ⟨u,ru,?_⟩
   rcases lk with ⟨k1,_⟩ | ⟨_,c,ec,hc⟩
   ·rcases ef2.2 with z | z
    ·have z':X.env.kindOf y=some .cell:=z
     rw [k1] at z';cases z'
    ·have z':X.env.kindOf y=some .free:=z
     rw [k1] at z';cases z'
   ·refine .inr ⟨?_,c,(hhas y ef).trans ec,hc.keeps hk⟩
    rcases hv with z | z | z
    ·exfalso
     have z':(relabel scope X.env).names.lookup y=some .local:=z
     have:∀(names:List (Str×NameKind)),names.lookup y=some .free->(names.map fun (n,k)=>if (k == NameKind.free && X.env.scope.kind == .function && X.env.kindOf n == some .cell) then (n,NameKind.cell) else (n,k)).lookup y≠some .local:=by
      intro names
      induction names with
      | nil=>intro h;cases h
      | cons p r ih=>
       obtain ⟨n,k⟩:=p
       intro h
       rw [List.map_cons]
       by_cases e:y=n
       ·subst e
        rw [List.lookup_cons,beq_self_eq_true] at h
        cases h
        dsimp only
        split
        ·rw [List.lookup_cons,beq_self_eq_true];exact fun q=>nomatch q
        ·rw [List.lookup_cons,beq_self_eq_true];exact fun q=>nomatch q
       ·have hn:(y == n)=false:=by simpa using e
        rw [List.lookup_cons,hn] at h
        dsimp only
        split
        ·rw [List.lookup_cons,hn];exact ih h
        ·rw [List.lookup_cons,hn];exact ih h
     exact this scope.names ef z'
    ·exact .inl z
    ·exact .inr z
 ·
  obtain ⟨v,q⟩:=I.cell x c (hcell x c e)
  exact ⟨v,q.keeps hk⟩
 ·
  show upd H D (.lst []) C=none
  rw [upd_ne (Ne.symm hDC)]
  exact I.hok.fresh hC
 ·
  have e':=hcell x c e
  obtain ⟨v,q⟩:=I.cell x c e'
  rw [upd_ne (Nat.ne_of_lt (Nat.lt_of_lt_of_le q.lt hD))]
  exact I.freeC x c e'
 ·
  obtain ⟨n,e⟩:=hl
  exact I.hok.laid hk hD ⟨Nat.zero_le _,[],n,.nil,e⟩
 ·show (List.replicate xs.length none++subS σ idx).length=(xs++subN X.N idx).length
  rw [List.length_append,List.length_append,List.length_replicate]
  unfold subS subN
  rw [List.length_map,List.length_map]
end
section
variable {X:Cx} {elt target iter:Expr} {ifs:List Expr} {scope:Scope} {pos:Pos} {xs:List Str} {idx:List Nat} {wi:TI} {g:CB->TG} {tt:CB->TT} {te:CB->TE}
theorem comp_run {pins:List (Addr×Obj)} {σ:St} {H2:Hp} {s2:Shared} {fp:List Addr} {it:Addr} {tn:Nat->Heap->Prop} {J:It} {Q:V->Hp->Prop} {RR:Value->Addr->Result->Shared->Prop} {E:Value->Shared->Prop} (hc:X.calm=true) (S:CScope X scope xs idx)
  (hg:∀c,PG (cxC X scope (xs++subN X.N idx) c) target (g c)) (ht:∀c,PIfs (cxC X scope (xs++subN X.N idx) c) ifs (tt c)) (he:∀c,PE (cxC X scope (xs++subN X.N idx) c) elt (te c))
  (I2:Inv X pins σ H2 s2) (T:Turn X.prog X.w X.K target J fp it tn) (st2:tn 0 s2.heap) (f2:∀b∈fp,FpOk X pins H2 b)
  (h:∀D,H2 D=none->∃W:Nat->Nat->List V->Hp->Prop,(∃m,W 0 m [] (upd H2 D (.lst [])))/\
   ∀i m ys H',W i m ys H'->(J.stop i H'/\Q (.ref D) H')\/(J.go i H'/\∃N:List V->Hp->Prop,(∀ys' H'',N ys' H''->∃m',m' < m/\W (i+1) m' ys' H'')/\∀(c:CB) (own:St),own.length=xs.length->∀x H2,J.yld i H' x H2->g c x (own++subS σ idx) H2 fun σ3 H3=>
    (∃own',own'.length=xs.length/\σ3=own'++subS σ idx)/\tt c σ3 H3 fun b H4=>if b=true then te c σ3 H4 fun y H5=>H5 D=some (.lst ys)/\ys.length < sizeLine/\N (ys++[y]) (upd H5 D (.lst (ys++[y]))) else N ys H4))
  (hRR:∀D C σ' H' s',s2.heap.objs.size<=C->Inv (cxC X scope (xs++subN X.N idx) ⟨C,closL X.env scope.names [],s2,H2,fp⟩) [] σ' H' s'->Q (.ref D) H'->RR (.ref D) C (.ok .next) s') :
  wpAny (model X.prog X.w) X.A (newList []) (fun acc s₃=>wpAny (model X.prog X.w) X.A (newFunctionEnv scope X.env.globals (closL X.env scope.names []) [] X.env.qual none .none (some X.env)) (fun cenv s₄=>
   codeAny (model X.prog X.w) X.A (.compStart (.ListComp elt [⟨target,iter,ifs,0⟩] scope pos) 0 (.ref it) acc { cenv with scope:=relabel scope X.env }) (RR acc cenv.locals) s₄) E s₃) E s2:=by
 refine wpAny_newObj_type (wpAny_newFunctionEnv S.nocell (by intro y hy;simp at hy) (fun h₁ hns₁ hsb₁=>?_) S.kind)
 dsimp only at hns₁ hsb₁ ⊢
 generalize hH2:s2.heap.push { cls:=.type "list",dict:=none,data:=.seq ([]:List Value).toArray }=HH at hns₁ hsb₁ ⊢
 have hCs:HH.objs.size=s2.heap.objs.size+1:=by rw [<-hH2,Heap.size_push]
 have hDC:s2.heap.objs.size≠HH.objs.size:=by rw [hCs];exact Nat.ne_of_lt (Nat.lt_succ_self _)
 have hCle:s2.heap.objs.size<=HH.objs.size:=by rw [hCs];exact Nat.le_succ _
 have old:∀b o,s2.heap.get? b=some o->h₁.get? b=some o:=fun b o e=>hsb₁.extBut b o (by rw [hCs];exact Nat.ne_of_lt (Nat.lt_succ_of_lt (Heap.lt_size e))) (Heap.get?_push_of_some _ (hH2 ▸ Heap.get?_push_of_some _ e))
 have hacc:∃n,h₁.get? s2.heap.objs.size=some { cls:=.type "list",data:=.seq #[] n }:=⟨_,hsb₁.extBut _ _ hDC (Heap.get?_push_of_some _ (hH2 ▸ Heap.get?_push_size _ rfl))⟩
 have st1:tn 0 h₁:=T.keep _ _ _ st2 fun b _ o e=>old b o e
 obtain ⟨W,⟨m0,w0⟩,turn⟩:=h s2.heap.objs.size I2.fresh
 have loop:∀s₃:Shared,s₃={ s2 with heap:=h₁,toks:=s2.toks+([]:List (Str×Value)).length }->
   codeAny (model X.prog X.w) X.A (.compLoop (.ListComp elt [⟨target,iter,ifs,0⟩] scope pos) 0 (.ref it) (.ref s2.heap.objs.size) (compEnvC scope (closL X.env scope.names []) HH.objs.size X.env)) (RR (.ref s2.heap.objs.size) HH.objs.size) s₃:=by
  rintro s₃ rfl
  have I3:=I2.block (t':=s2.toks+([]:List (Str×Value)).length) (H1:=H2) S f2 (fun b hb=>let ⟨o,e,_⟩:=T.obj _ _ st2 b hb;⟨o,e⟩) hCle hDC (Nat.le_refl _) hns₁ old hacc
  generalize hY:cxC X scope (xs++subN X.N idx) ⟨HH.objs.size,closL X.env scope.names [],s2,H2,fp⟩=Y at I3
  have eY:Y=cxC X scope (xs++subN X.N idx) ⟨HH.objs.size,closL X.env scope.names [],s2,H2,fp⟩:=hY.symm
  have nof:∀b∈fp,b∉Y.fs:=fun b hb z=>by
   rw [eY] at z
   rcases List.mem_cons.mp (I2.stkSub b z) with q | q
   ·exact (f2 b hb).2.1 q
   ·exact (f2 b hb).2.2.1 q
  have stat:∀{H':Hp},(∀b∈fp,H' b=none)->∀b∈fp,FpOk Y [] H' b:=fun {H'} hn b hb=>by
   have lt:b < s2.heap.objs.size:=let ⟨o,e,_⟩:=T.obj _ _ st2 b hb;Heap.lt_size e
   refine ⟨hn b hb,?_,nof b hb,.inl (by rw [eY];exact hb),fun x c e=>?_,fun p hp=>?_⟩
   ·rw [eY];exact Nat.ne_of_lt (Nat.lt_of_lt_of_le lt hCle)
   ·rw [eY] at e
    have hall:=closL_mem (env:=X.env) scope.names [] (fun y hy e=>I2.ok.has y.1 (S.free y hy e).2) (fun p hp=>nomatch hp)
    exact (f2 b hb).2.2.2.2.1 x c (hall (x,c) (PySem.mem_of_lookup e))
   ·rw [eY] at hp;exact nomatch hp
  have T':Turn Y.prog Y.w Y.K target J fp it tn:=by rw [eY];exact T
  have hg':PG Y target (g ⟨HH.objs.size,closL X.env scope.names [],s2,H2,fp⟩):=by rw [eY];exact hg _
  have ht':PIfs Y ifs (tt ⟨HH.objs.size,closL X.env scope.names [],s2,H2,fp⟩):=by rw [eY];exact ht _
  have he':PE Y elt (te ⟨HH.objs.size,closL X.env scope.names [],s2,H2,fp⟩):=by rw [eY];exact he _
  have hcY:Y.calm=true:=by rw [eY];exact hc
  have eA:Y.A=X.A:=by rw [eY]
  have eP:Y.prog=X.prog:=by rw [eY]
  have eW:Y.w=X.w:=by rw [eY]
  have eE:Y.env=compEnvC scope (closL X.env scope.names []) HH.objs.size X.env:=by rw [eY]
  have eX:Y.xe=fun _ _=>False:=by rw [eY]
  have fin:∀σ' H' s',Inv Y [] σ' H' s'->Q (.ref s2.heap.objs.size) H'->RR (.ref s2.heap.objs.size) HH.objs.size (.ok .next) s':=fun σ' H' s' I' q=>hRR _ _ σ' H' s' hCle (by rw [<-eY];exact I') q
  rw [<-eE,<-eA,<-eP,<-eW]
  have fr0:∀b∈fp,(upd H2 s2.heap.objs.size (.lst [])) b=none:=fun b hb=>by
   have lt:b < s2.heap.objs.size:=let ⟨o,e,_⟩:=T.obj _ _ st2 b hb;Heap.lt_size e
   rw [upd_ne (Nat.ne_of_lt lt)];exact (f2 b hb).1
  refine codeAny_compLoop_any (fun n s'=>∃i ys own H',own.length=xs.length/\Inv Y [] (own++subS σ idx) H' s'/\tn i s'.heap/\(∀b∈fp,H' b=none)/\W i n ys H') ?_ m0
   ⟨0,[],_,_,List.length_replicate,I3,st1,fr0,w0⟩
  rintro n s4 ⟨i,ys,own,H4,hown,I4,st4,fr4,w4⟩
  rcases turn i n ys H4 w4 with ⟨stop,qn⟩ | ⟨go,NN,hNN,step⟩
  ·exact thn (T'.done Y rfl rfl rfl hcY i [] s4 _ H4 _ I4 (stat fr4) st4 stop) fun r s5 ⟨hr,I5⟩=>by subst hr;exact fin _ _ _ I5 qn
  ·refine thn (T'.item Y rfl rfl rfl hcY i [] s4 _ H4 _ I4 (stat fr4) st4 go) fun r s5 ⟨u,hr,h5⟩=>?_
   subst hr
   refine thn h5 fun _ s6 ⟨x,H6,I6,r6,y6,st6,fr6⟩=>?_
   have I6':=I6.pinned (stat fr6) (T'.obj _ _ st6)
   have step':=step ⟨HH.objs.size,closL X.env scope.names [],s2,H2,fp⟩ own hown x H6 y6
   refine wpAny_mono (hg' _ s6 _ H6 x u _ I6' r6 step') (fun _ s7 ⟨σ7,H7,I7,q7⟩=>?_) (fun _ _ z=>by rw [eX] at z;exact z)
   obtain ⟨⟨own7,ho7,e7⟩,q7⟩:=q7
   refine wpAny_mono (ht' _ s7 σ7 H7 _ I7 q7) (fun b s8 ⟨H8,I8,q8⟩=>?_) (fun _ _ z=>by rw [eX] at z;exact z)
   have again:∀{H9:Hp} {s9:Shared} {ys':List V},Inv Y ([]++pinsAt fp s6.heap) σ7 H9 s9->NN ys' H9->∃m,m < n/\∃i ys own H',own.length=xs.length/\Inv Y [] (own++subS σ idx) H' s9/\tn i s9.heap/\(∀b∈fp,H' b=none)/\W i m ys H':=fun {H9 s9 ys'} I9 n9=>by
    obtain ⟨m',hm,w9⟩:=hNN _ _ n9
    rw [e7] at I9
    refine ⟨m',hm,i+1,ys',own7,H9,ho7,I9.unpinned,T'.keep _ _ _ st6 fun b hb o e=>(I9.pin (b,o) (List.mem_append_right _ (List.mem_append_right _ (mem_pinsAt hb e)))).1,fun b hb=>?_,w9⟩
    obtain ⟨o,e,d⟩:=T'.obj _ _ st6 b hb
    exact (I9.pin (b,o) (List.mem_append_right _ (List.mem_append_right _ (mem_pinsAt hb e)))).2.1
   cases b with
   | false=>exact again I8 q8
   | true=>
    refine wpAny_mono (he' _ s8 σ7 H8 _ I8 q8) (fun u9 s9 ⟨y,H9,I9,r9,hy,hz,q9⟩=>?_) (fun _ _ z=>by rw [eX] at z;exact z)
    have ap:=mt_append (X:=Y) _ s9 σ7 H9 (.ref s2.heap.objs.size) [y] (.ref s2.heap.objs.size) [u9] (fun _ H10=>NN (ys++[y]) H10) I9 rfl (.cons r9 .nil) ⟨_,ys,y,rfl,rfl,hy,hz,q9⟩
    refine wpAny_mono ap (fun _ s10 ⟨_,H10,I10,_,q10⟩=>again I10 q10) (fun _ _ z=>by rw [eX] at z;exact z)
 exact codeAny_compStart_list (loop _ rfl) (T.self _ 0 _ _ _ st1 (loop _ rfl))
theorem pe_comp (hc:X.calm=true) (S:CScope X scope xs idx) (hi:PI X target iter wi)
  (hg:∀c,PG (cxC X scope (xs++subN X.N idx) c) target (g c)) (ht:∀c,PIfs (cxC X scope (xs++subN X.N idx) c) ifs (tt c)) (he:∀c,PE (cxC X scope (xs++subN X.N idx) c) elt (te c))
  (hs:∀x,foldedSetIterable iter X.env x=pure x:=by intro _;rfl):PE X (.ListComp elt [⟨target,iter,ifs,0⟩] scope pos) (tComp wi xs.length idx g tt te):=by
 intro pins s σ H Q I h
 rw [eval_ListComp]
 have hclos:closureFor scope X.env=pure (closL X.env scope.names []):=closureFor_closL fun y hy e=>I.ok.has y.1 (S.free y hy e).2
 refine wpAny_comprehension_free (use:=none) rfl hs hclos S.kind S.loc (thn (hi pins s σ H _ I h) fun xv s₁ h₁=>thn h₁ fun itv s₂ h₂=>?_)
 obtain ⟨it,fp,tn,J,H2,e,I2,T,st2,f2,hW⟩:=h₂
 subst e
 refine comp_run (Q:=Q) (RR:=fun acc C=>compPost (model X.prog X.w) X.A X.xe none (EP X pins σ Q) acc C) hc S hg ht he I2 T st2 f2 hW ?_
 intro D C σ' H' s' hC I' q
 obtain ⟨m',hn,_⟩:=I'.loc
 refine ⟨m',hn,fun h'' hs''=>?_⟩
 obtain ⟨hh,gg,d,t,os⟩:=s'
 obtain rfl:os=s₂.os:=I'.os
 have Cn:s₂.heap.get? C=none:=Heap.get?_none_of_le hC
 refine ⟨.ref D,H',I2.call (s:=s₂) (h':=h'') (g':=gg) (d':=d) (t':=t) (ch:=fp) (I'.base.but Cn hs'') (I'.hok.but I'.free hs'') I'.bare (fun b hb=>?_),rfl,q⟩
 obtain ⟨_,f1,_,f3,f4,f5⟩:=f2 b hb
 exact ⟨f3,f1,f4,f5⟩
end
theorem comp_range {lo:Int} {n k:Nat} {idx:List Nat} {g:CB->TG} {tt:CB->TT} {te:CB->TE} {σ:St} {Q:VK} {H1:Hp} {D:Addr} (Pv:Nat->List V->Hp->Prop) (h0:Pv 0 [] (upd H1 D (.lst [])))
  (hs:∀i ys H,i < n->Pv i ys H->∀(c:CB) (own:St),own.length=k->g c (.int (lo+i)) (own++subS σ idx) H fun σ3 H3=>
   (∃own',own'.length=k/\σ3=own'++subS σ idx)/\tt c σ3 H3 fun b H4=>if b=true then te c σ3 H4 fun y H5=>H5 D=some (.lst ys)/\ys.length < sizeLine/\Pv (i+1) (ys++[y]) (upd H5 D (.lst (ys++[y]))) else Pv (i+1) ys H4)
  (hd:∀ys H,Pv n ys H->Q (.ref D) H) :
  ∃W:Nat->Nat->List V->Hp->Prop,(∃m,W 0 m [] (upd H1 D (.lst [])))/\
   ∀i m ys H',W i m ys H'->((Itr lo n).stop i H'/\Q (.ref D) H')\/((Itr lo n).go i H'/\∃N:List V->Hp->Prop,(∀ys' H'',N ys' H''->∃m',m' < m/\W (i+1) m' ys' H'')/\∀(c:CB) (own:St),own.length=k->∀x H2,(Itr lo n).yld i H' x H2->g c x (own++subS σ idx) H2 fun σ3 H3=>
    (∃own',own'.length=k/\σ3=own'++subS σ idx)/\tt c σ3 H3 fun b H4=>if b=true then te c σ3 H4 fun y H5=>H5 D=some (.lst ys)/\ys.length < sizeLine/\N (ys++[y]) (upd H5 D (.lst (ys++[y]))) else N ys H4):=by
 refine ⟨fun i m ys H=>m=n - i/\i<=n/\Pv i ys H,⟨n,by simp,Nat.zero_le _,h0⟩,?_⟩
 rintro i m ys H ⟨rfl,hi,p⟩
 by_cases hlt:i < n
 ·refine .inr ⟨hlt,Pv (i+1),fun ys' H' p'=>⟨n - (i+1),by omega,rfl,hlt,p'⟩,fun c own ho x H' y=>?_⟩
  obtain ⟨e,y⟩:=y
  subst e y
  exact hs i ys _ hlt p c own ho
 ·have e:i=n:=by omega
  subst e
  exact .inl ⟨Nat.le_refl _,hd ys H p⟩
theorem comp_list {K:PySem.W.Frag} {a:Addr} {zs:List V} {k:Nat} {idx:List Nat} {g:CB->TG} {tt:CB->TT} {te:CB->TE} {σ:St} {Q:VK} {H1:Hp} {D:Addr} (Pv:Nat->List V->Hp->Prop) (h0:Pv 0 [] (upd H1 D (.lst [])))
  (hl:∀i ys H,i<=zs.length->Pv i ys H->SqL K H a zs)
  (hs:∀i x ys H,zs[i]? = some x->Pv i ys H->∀(c:CB) (own:St),own.length=k->g c x (own++subS σ idx) H fun σ3 H3=>
   (∃own',own'.length=k/\σ3=own'++subS σ idx)/\tt c σ3 H3 fun b H4=>if b=true then te c σ3 H4 fun y H5=>H5 D=some (.lst ys)/\ys.length < sizeLine/\Pv (i+1) (ys++[y]) (upd H5 D (.lst (ys++[y]))) else Pv (i+1) ys H4)
  (hd:∀ys H,Pv zs.length ys H->Q (.ref D) H) :
  ∃W:Nat->Nat->List V->Hp->Prop,(∃m,W 0 m [] (upd H1 D (.lst [])))/\
   ∀i m ys H',W i m ys H'->((Itl K a).stop i H'/\Q (.ref D) H')\/((Itl K a).go i H'/\∃N:List V->Hp->Prop,(∀ys' H'',N ys' H''->∃m',m' < m/\W (i+1) m' ys' H'')/\∀(c:CB) (own:St),own.length=k->∀x H2,(Itl K a).yld i H' x H2->g c x (own++subS σ idx) H2 fun σ3 H3=>
    (∃own',own'.length=k/\σ3=own'++subS σ idx)/\tt c σ3 H3 fun b H4=>if b=true then te c σ3 H4 fun y H5=>H5 D=some (.lst ys)/\ys.length < sizeLine/\N (ys++[y]) (upd H5 D (.lst (ys++[y]))) else N ys H4):=by
 refine ⟨fun i m ys H=>m=zs.length - i/\i<=zs.length/\Pv i ys H,⟨zs.length,by simp,Nat.zero_le _,h0⟩,?_⟩
 rintro i m ys H ⟨rfl,hi,p⟩
 have q:=hl i ys H hi p
 by_cases hlt:i < zs.length
 ·refine .inr ⟨⟨zs,zs[i],q,by simp [hlt]⟩,Pv (i+1),fun ys' H' p'=>⟨zs.length - (i+1),by omega,rfl,hlt,p'⟩,fun c own ho x H' y=>?_⟩
  obtain ⟨e,y⟩:=y
  subst e
  exact hs i x ys _ (y zs q) p c own ho
 ·have e:i=zs.length:=by omega
  subst e
  exact .inl ⟨⟨zs,q,Nat.le_refl _⟩,hd ys H p⟩
theorem own1 {own:St} {k:St} {x:V} (h:own.length=1):(own++k).set 0 (some x)=[some x]++k:=by
 match own,h with
 | [_],_=>rfl
theorem comp_range1 {lo:Int} {n:Nat} {idx:List Nat} {tt:CB->TT} {te:CB->TE} {σ:St} {Q:VK} {H1:Hp} {D:Addr} (Pv:Nat->List V->Hp->Prop) (h0:Pv 0 [] (upd H1 D (.lst [])))
  (hs:∀i ys H,i < n->Pv i ys H->∀(c:CB),tt c (some (.int (lo+i))::subS σ idx) H fun b H4=>if b=true then te c (some (.int (lo+i))::subS σ idx) H4 fun y H5=>H5 D=some (.lst ys)/\ys.length < sizeLine/\Pv (i+1) (ys++[y]) (upd H5 D (.lst (ys++[y]))) else Pv (i+1) ys H4)
  (hd:∀ys H,Pv n ys H->Q (.ref D) H) :
  ∃W:Nat->Nat->List V->Hp->Prop,(∃m,W 0 m [] (upd H1 D (.lst [])))/\
   ∀i m ys H',W i m ys H'->((Itr lo n).stop i H'/\Q (.ref D) H')\/((Itr lo n).go i H'/\∃N:List V->Hp->Prop,(∀ys' H'',N ys' H''->∃m',m' < m/\W (i+1) m' ys' H'')/\∀(c:CB) (own:St),own.length=1->∀x H2,(Itr lo n).yld i H' x H2->gName 0 x (own++subS σ idx) H2 fun σ3 H3=>
    (∃own',own'.length=1/\σ3=own'++subS σ idx)/\tt c σ3 H3 fun b H4=>if b=true then te c σ3 H4 fun y H5=>H5 D=some (.lst ys)/\ys.length < sizeLine/\N (ys++[y]) (upd H5 D (.lst (ys++[y]))) else N ys H4):=
 comp_range (g:=fun _=>gName 0) Pv h0 (fun i ys H hi p c own ho=>by
  show (∃own',own'.length=1/\(own++subS σ idx).set 0 _=own'++subS σ idx)/\tt c ((own++subS σ idx).set 0 _) H _
  rw [own1 ho]
  exact ⟨⟨[_],rfl,rfl⟩,hs i ys H hi p c⟩) hd
theorem comp_list1 {K:PySem.W.Frag} {a:Addr} {zs:List V} {idx:List Nat} {tt:CB->TT} {te:CB->TE} {σ:St} {Q:VK} {H1:Hp} {D:Addr} (Pv:Nat->List V->Hp->Prop) (h0:Pv 0 [] (upd H1 D (.lst [])))
  (hl:∀i ys H,i<=zs.length->Pv i ys H->SqL K H a zs)
  (hs:∀i x ys H,zs[i]? = some x->Pv i ys H->∀(c:CB),tt c (some x::subS σ idx) H fun b H4=>if b=true then te c (some x::subS σ idx) H4 fun y H5=>H5 D=some (.lst ys)/\ys.length < sizeLine/\Pv (i+1) (ys++[y]) (upd H5 D (.lst (ys++[y]))) else Pv (i+1) ys H4)
  (hd:∀ys H,Pv zs.length ys H->Q (.ref D) H) :
  ∃W:Nat->Nat->List V->Hp->Prop,(∃m,W 0 m [] (upd H1 D (.lst [])))/\
   ∀i m ys H',W i m ys H'->((Itl K a).stop i H'/\Q (.ref D) H')\/((Itl K a).go i H'/\∃N:List V->Hp->Prop,(∀ys' H'',N ys' H''->∃m',m' < m/\W (i+1) m' ys' H'')/\∀(c:CB) (own:St),own.length=1->∀x H2,(Itl K a).yld i H' x H2->gName 0 x (own++subS σ idx) H2 fun σ3 H3=>
    (∃own',own'.length=1/\σ3=own'++subS σ idx)/\tt c σ3 H3 fun b H4=>if b=true then te c σ3 H4 fun y H5=>H5 D=some (.lst ys)/\ys.length < sizeLine/\N (ys++[y]) (upd H5 D (.lst (ys++[y]))) else N ys H4):=
 comp_list (g:=fun _=>gName 0) Pv h0 hl (fun i x ys H hi p c own ho=>by
  show (∃own',own'.length=1/\(own++subS σ idx).set 0 _=own'++subS σ idx)/\tt c ((own++subS σ idx).set 0 _) H _
  rw [own1 ho]
  exact ⟨⟨[_],rfl,rfl⟩,hs i x ys H hi p c⟩) hd
end L2
end
section
namespace L2
open PySem PySem.Spec PyProof.Rows
def cutS (z:Str) (lo hi:Option Int):Str:=⟨((z.cps.toList.drop (HT.sIx z.length 0 lo)).take (HT.sIx z.length z.length hi - HT.sIx z.length 0 lo)).toArray⟩
section
variable {X:Cx}
def rSlS:V->Option Int->Option Int->Hp->VK->Prop:=fun x lo hi H Q=>∃z,x=.str z/\z.length<=sizeLine/\Q (.str (cutS z lo hi)) H
def tRev (K:PySem.W.Frag) (te ts:TE):TE:=fun σ H Q=>te σ H fun x H1=>ts σ H1 fun y H2=>∃a xs,x=.ref a/\y=.int (-1)/\SqL K H2 a xs/\∀p,H2 p=none->Q (.ref p) (upd H2 p (.lst xs.reverse))
theorem call_isi (c:Value):CallR X (.builtin "isinstance") (fun vs H Q=>∃x t b n,vs=[x,.ty n]/\TyOf X.K H x t/\PySem.W.kitOne X.K t (.type n)=some b/\Q (.bl b) H):=by
 intro pins s σ H vs us Q I rv h
 obtain ⟨x,t,b,n,rfl,ty,e,q⟩:=h
 obtain ⟨u,v,rfl,ru,rv'⟩:=rv.two
 obtain rfl:v=Value.type n:=rv'
 exact isinst_ok I ru ty e fun tk=>⟨.bl b,H,I.tok _,rfl,q⟩
def eqVs (xs ys:List V):Bool:=xs.length == ys.length && (List.range xs.length).all fun j=>eqV (xs.getD j .non) (ys.getD j .non)
def rClearD:V->List V->Hp->VK->Prop:=fun x vs H Q=>∃a kvs,x=.ref a/\vs=[]/\H a=some (.dK kvs)/\Q .non (upd H a (.dK []))
end
section
variable {X:Cx} {elt target iter:Expr} {ifs:List Expr} {scope:Scope} {pos spos py:Pos} {xs:List Str} {idx:List Nat} {wi:TI} {g:CB->TG} {tt:CB->TT} {te:CB->TE}
theorem ps_setC {i:Nat} {y:Str} (hN:X.N.Nodup) (hi0:X.N[i]? = some y) (hy:X.env.scope.names.lookup y=some .local) (hc:X.calm=true) (S:CScope X scope xs idx) (hi:PI X target iter wi)
  (hg:∀c,PG (cxC X scope (xs++subN X.N idx) c) target (g c)) (ht:∀c,PIfs (cxC X scope (xs++subN X.N idx) c) ifs (tt c)) (he:∀c,PE (cxC X scope (xs++subN X.N idx) c) elt (te c))
  (hsw:swapsWith (.ListComp elt [⟨target,iter,ifs,0⟩] scope pos) (some (.Name y py)) spos.line X.env=pure true:=by rfl)
  (hs:∀x,foldedSetIterable iter X.env x=pure x:=by intro _;rfl):PS X (.Assign [.Name y py] (.ListComp elt [⟨target,iter,ifs,0⟩] scope pos) spos) (tAsg (tComp wi xs.length idx g tt te) (gName i)):=by
 intro pins s σ H D I h
 have hclos:closureFor scope X.env=pure (closL X.env scope.names []):=closureFor_closL fun y hy e=>I.ok.has y.1 (S.free y hy e).2
 rw [exec_Assign_Name_used _ _ _ _ hsw]
 refine wpAny_bind (wpAny_standAt (wpAny_bind ?_))
 show wpAny _ X.A (do let _ <-comprehension (.ListComp elt [⟨target,iter,ifs,0⟩] scope pos) scope X.env _ (newList []) false (eval iter X.env) (some (assign (.Name y py) X.env))) _ _ s
 refine wpAny_bind (wpAny_mono (wpAny_comprehension_free (use:=some (assign (.Name y py) X.env)) (Q:=fun _ s'=>SP X pins D .next s') rfl hs hclos S.kind S.loc
  (thn (hi pins s σ H _ I h) fun xv s₁ h₁=>thn h₁ fun itv s₂ h₂=>?_)) (fun _ s' hq=>wpAny_pure (wpAny_pure hq)) fun _ _ e=>e)
 obtain ⟨it,fp,tn,J,H2,e,I2,T,st2,f2,hW⟩:=h₂
 subst e
 refine comp_run (Q:=fun v H'=>gName i v σ H' D.nx) (RR:=fun acc C=>compPost (model X.prog X.w) X.A X.xe (some (assign (.Name y py) X.env)) (fun _ s'=>SP X pins D .next s') acc C) hc S hg ht he I2 T st2 f2 hW ?_
 intro DD C σ' H' s' hC I' q
 show wpAny _ X.A (assign (.Name y py) X.env (.ref DD)) _ _ _
 obtain ⟨hh,gg,d,t,os⟩:=s'
 obtain rfl:os=s₂.os:=I'.os
 have Cn:s₂.heap.get? C=none:=Heap.get?_none_of_le hC
 have I3:Inv X pins σ H' { s₂ with heap:=hh,gens:=gg,drawn:=d,toks:=t }:=I2.call (s:=s₂) (h':=hh) (g':=gg) (d':=d) (t':=t) (ch:=fp) (I'.base.but Cn (Heap.SameBut.refl _ _)) I'.hok I'.bare (fun b hb=>by
  obtain ⟨_,f1,_,f3,f4,f5⟩:=f2 b hb
  exact ⟨f3,f1,f4,f5⟩)
 obtain ⟨m',hn,_⟩:=I'.loc
 have hLC:X.env.locals≠C:=Nat.ne_of_lt (Nat.lt_of_lt_of_le I2.lt hC)
 refine wpAny_assign_Name (store_ok2 I3 hN hi0 (.inl hy) (v:=.ref DD) rfl (fun s'' I4 ⟨a,hs4,ha⟩=>?_) (.inr hy))
 have haC:C≠a:=by
  rcases ha with e | e
  ·rw [e];exact Ne.symm hLC
  ·obtain ⟨v,q⟩:=I2.cell y a e
   exact Nat.ne_of_gt (Nat.lt_of_lt_of_le q.lt hC)
 refine ⟨m',hn.sameBut hs4 haC,fun h3 hs3=>?_⟩
 obtain ⟨hh4,gg4,d4,t4,os4⟩:=s''
 have I5:Inv X pins (σ.set i (some (.ref DD))) H' { heap:=h3,gens:=gg4,drawn:=d4,toks:=t4,os:=os4 }:=
  I4.turned (s:={ heap:=hh4,gens:=gg4,drawn:=d4,toks:=t4,os:=os4 }) (h':=h3) (t':=t4) (it:=C) (fun b o hb e=>(hs3.2 b hb).trans e) I'.free (Ne.symm hLC) (.inr (Nat.le_trans I2.sz hC)) (fun x c e z=>by
   obtain ⟨v,q⟩:=I2.cell x c e
   exact absurd (Nat.lt_of_lt_of_le q.lt hC) (by rw [z];exact Nat.lt_irrefl _)) (fun p hp z=>by
   have:=(I2.pin p hp).1
   rw [z,Cn] at this;cases this)
 exact ⟨_,H',I5,q⟩
end
end L2
end
section
namespace L2
open PySem PySem.Spec PyProof.Rows
def csOk (osc:Scope) (N:List Str) (scope:Scope) (idx:List Nat):Bool:=
 scope.kind == .function && scope.names.all (fun y=>y.2 != .cell) && scope.names.all (fun y=>y.2 != .local || scope.names.lookup y.1 == some .local) &&
 scope.names.all (fun y=>y.2 != .free || (scope.names.lookup y.1 == some .free && (osc.names.lookup y.1 == some .cell || osc.names.lookup y.1 == some .free))) &&
 idx.all (fun i=>match N[i]? with | some y=>scope.names.lookup y == some .free | none=>false)
theorem cscope_of {X:Cx} {scope:Scope} {xs:List Str} {idx:List Nat} {osc:Scope} {N:List Str} (h:csOk osc N scope idx=true) (e1:X.env.scope=osc:=by rfl) (e2:X.N=N:=by rfl):CScope X scope xs idx:=by
 unfold csOk at h
 simp only [Bool.and_eq_true] at h
 refine hide fun gG hG=>?_
 obtain ⟨⟨⟨⟨h1,h2⟩,h3⟩,h4⟩,h5⟩:=h
 refine hG ?_
 refine ⟨by simpa using h1,fun y hy e=>?_,fun y hy e=>?_,fun y hy e=>?_,fun i hi=>?_⟩
 ·have:=List.all_eq_true.mp h2 y hy
  rw [e] at this;exact absurd this (by decide)
 ·have:=List.all_eq_true.mp h3 y hy
  rw [e] at this;simpa using this
 ·have:=List.all_eq_true.mp h4 y hy
  rw [e] at this
  have t:(scope.names.lookup y.1 == some NameKind.free && (osc.names.lookup y.1 == some .cell || osc.names.lookup y.1 == some .free))=true:=by simpa using this
  rw [Bool.and_eq_true,Bool.or_eq_true] at t
  refine ⟨by simpa using t.1,?_⟩
  show X.env.scope.names.lookup y.1=_\/X.env.scope.names.lookup y.1=_
  rw [e1]
  exact t.2.imp (by simp) (by simp)
 ·have:=List.all_eq_true.mp h5 i hi
  rw [e2]
  cases e:N[i]? with
  | none=>rw [e] at this;cases this
  | some y=>rw [e] at this;exact ⟨y,rfl,by simpa using this⟩
theorem atI_0 {α:Type} (a:α) (xs:List α):atI (a::xs) 0=some a:=atI_nat (j:=0) rfl
theorem atI_1 {α:Type} (a b:α) (xs:List α):atI (a::b::xs) 1=some b:=atI_nat (j:=1) rfl
theorem atI_2 {α:Type} (a b c:α) (xs:List α):atI (a::b::c::xs) 2=some c:=atI_nat (j:=2) rfl
theorem atI_3 {α:Type} (a b c d:α) (xs:List α):atI (a::b::c::d::xs) 3=some d:=atI_nat (j:=3) rfl
theorem atI_4 {α:Type} (a b c d e:α) (xs:List α):atI (a::b::c::d::e::xs) 4=some e:=atI_nat (j:=4) rfl
theorem atI_5 {α:Type} (a b c d e f:α) (xs:List α):atI (a::b::c::d::e::f::xs) 5=some f:=atI_nat (j:=5) rfl
theorem ixN6_1:ixN 6 1=some 1:=rfl
theorem ixN6_2:ixN 6 2=some 2:=rfl
theorem ixN6_3:ixN 6 3=some 3:=rfl
theorem ixN6_4:ixN 6 4=some 4:=rfl
theorem ixN6_5:ixN 6 5=some 5:=rfl
theorem cmulR (i:Int):CMul i 48271/\CMul i 40693/\CMul i 3/\CMul i 4294967296:=⟨.inr ⟨by decide,by decide⟩,.inr ⟨by decide,by decide⟩,.inr ⟨by decide,by decide⟩,.inr ⟨by decide,by decide⟩⟩
theorem cmul1 (i:Int):CMul i 48271:=(cmulR i).1
theorem cmul2 (i:Int):CMul i 40693:=(cmulR i).2.1
theorem cmul3 (i:Int):CMul i 3:=(cmulR i).2.2.1
theorem cmul4 (i:Int):CMul i 4294967296:=(cmulR i).2.2.2
theorem cmul5 (i:Int):CMul 5 i/\CMul 3 i/\CMul 7 i/\CMul 10 i:=⟨.inl ⟨by decide,by decide⟩,.inl ⟨by decide,by decide⟩,.inl ⟨by decide,by decide⟩,.inl ⟨by decide,by decide⟩⟩
theorem cmul5a (i:Int):CMul 5 i:=(cmul5 i).1
theorem cmul5b (i:Int):CMul 3 i:=(cmul5 i).2.1
theorem cmul5c (i:Int):CMul 7 i:=(cmul5 i).2.2.1
theorem cmul5d (i:Int):CMul 10 i:=(cmul5 i).2.2.2
theorem cpow18:CPow 10 18:=⟨by decide,by decide,by decide⟩
def tCut (t u:TS):TS:=fun D σ H=>∃N:St->Hp->Prop,t { D with nx:=N } σ H/\∀σ' H',N σ' H'->u D σ' H'
theorem pss_cut {X:Cx} {st:Stmt} {rest:List Stmt} {t u:TS} (h1:PS X st t) (h2:PSs X rest u):PSs X (st::rest) (tCut t u):=by
 intro pins s σ H D I ⟨N,hn,hu⟩
 refine wpAny_execs_cons (thn (h1 pins s σ H { D with nx:=N } I hn) fun f s1 q=>?_)
 cases f with
 | next=>
  refine hide fun gG hG=>?_
  obtain ⟨σ',H',I',q⟩:=q
  refine hG ?_
  exact h2 pins s1 σ' H' D I' (hu σ' H' q)
 | ret v=>exact q
 | brk=>exact q
 | cont=>exact q
theorem atI_ints {ns:List Int} {k:Int} (h0:0<=k) (h:k < (ns.length:Int)):∃v:Int,atI (ns.map V.int) k=some (.int v):=by
 have hk:k.toNat < ns.length:=by lia
 have ek:k=((k.toNat:Nat):Int):=by lia
 have q:atI (ns.map V.int) ((k.toNat:Nat):Int)=some (.int ns[k.toNat]):=atI_nat (by rw [List.getElem?_map,List.getElem?_eq_getElem hk] <;> rfl)
 rw [<-ek] at q
 exact ⟨_,q⟩
section
variable {X:Cx}
theorem OpR.imp {f:Value->Value->Sem Value} {r r':R2} (h:OpR X f r) (i:∀x y H Q,r' x y H Q->r x y H Q):OpR X f r':=fun pins s σ H x y v u Q I rx ry q=>h pins s σ H x y v u Q I rx ry (i _ _ _ _ q)
theorem IxR.imp {r r':R2} (h:IxR X r) (i:∀x y H Q,r' x y H Q->r x y H Q):IxR X r':=fun value slice pins s σ H x y v u Q I rx ry q hs=>h value slice pins s σ H x y v u Q I rx ry (i _ _ _ _ q) hs
theorem CallR.imp {f:Value} {r r':List V->Hp->VK->Prop} (h:CallR X f r) (i:∀x H Q,r' x H Q->r x H Q):CallR X f r':=fun pins s σ H vs us Q I rv q=>h pins s σ H vs us Q I rv (i _ _ _ q)
theorem SlR.imp {r r':V->Option Int->Option Int->Hp->VK->Prop} (h:SlR X r) (i:∀x lo hi H Q,r' x lo hi H Q->r x lo hi H Q):SlR X r':=fun pins s σ H x v vl vu lo hi sl Q I rx hs pl pu q=>h pins s σ H x v vl vu lo hi sl Q I rx hs pl pu (i _ _ _ _ _ q)
theorem sqL_of {K:PySem.W.Frag} {H:Hp} {a:Addr} {xs:List V} (h:H a=some (.lst xs)):SqL K H a xs:=SqL.of h
theorem sqT_of {K:PySem.W.Frag} {H:Hp} {a:Addr} {xs:List V} (h:H a=some (.tup xs)):SqT K H a xs:=SqT.of h
def qIxL:R2:=fun x y H Q=>∃p i,x=.ref p/\y=.int i/\∃xs,H p=some (.lst xs)/\∃v,atI xs i=some v/\Q v H
theorem ix_l:IxR X qIxL:=ix_list.imp fun x y H Q ⟨p,i,e1,e2,xs,h,v,e3,q⟩=>⟨p,xs,i,v,e1,e2,sqL_of h,e3,q⟩
def qIxT:R2:=fun x y H Q=>∃p i,x=.ref p/\y=.int i/\∃xs,H p=some (.tup xs)/\∃v,atI xs i=some v/\Q v H
theorem ix_t:IxR X qIxT:=ix_tup.imp fun x y H Q ⟨p,i,e1,e2,xs,h,v,e3,q⟩=>⟨p,xs,i,v,e1,e2,sqT_of h,e3,q⟩
def qIxS:R2:=fun x y H Q=>∃z i,x=.str z/\y=.int i/\z.length<=sizeLine/\∃c,atI z.cps.toList i=some c/\Q (.str ⟨#[c]⟩) H
def qSlL:V->Option Int->Option Int->Hp->VK->Prop:=fun x lo hi H Q=>∃a,x=.ref a/\∃xs,H a=some (.lst xs)/\∀p,H p=none->Q (.ref p) (upd H p (.lst (cutV xs lo hi)))
def qSlT:V->Option Int->Option Int->Hp->VK->Prop:=fun x lo hi H Q=>∃a,x=.ref a/\∃xs,H a=some (.tup xs)/\¬(HT.sIx xs.length 0 lo=0/\HT.sIx xs.length xs.length hi=xs.length)/\∀p,H p=none->Q (.ref p) (upd H p (.tup (cutV xs lo hi)))
theorem sl_t:SlR X qSlT:=sl_tup.imp fun x lo hi H Q ⟨a,e,xs,h,n,q⟩=>⟨a,xs,e,sqT_of h,n,q⟩
def qLenL:List V->Hp->VK->Prop:=fun vs H Q=>∃p,vs=[.ref p]/\∃xs,H p=some (.lst xs)/\Q (.int xs.length) H
theorem call_lenL:CallR X (.builtin "len") qLenL:=call_len_seq.imp fun x H Q ⟨p,e,xs,h,q⟩=>⟨p,xs,e,.inl (sqL_of h),q⟩
def qLenT:List V->Hp->VK->Prop:=fun vs H Q=>∃p,vs=[.ref p]/\∃xs,H p=some (.tup xs)/\Q (.int xs.length) H
theorem call_lenT:CallR X (.builtin "len") qLenT:=call_len_seq.imp fun x H Q ⟨p,e,xs,h,q⟩=>⟨p,xs,e,.inr (sqT_of h),q⟩
def qListL:List V->Hp->VK->Prop:=fun vs H Q=>∃p,vs=[.ref p]/\∃xs,H p=some (.lst xs)/\∀l,H l=none->Q (.ref l) (upd H l (.lst xs))
theorem call_listL:CallR X (.type "list") qListL:=call_list_of.imp fun x H Q ⟨p,e,xs,h,q⟩=>⟨p,xs,e,.inl (sqL_of h),q⟩
def qListT:List V->Hp->VK->Prop:=fun vs H Q=>∃p,vs=[.ref p]/\∃xs,H p=some (.tup xs)/\∀l,H l=none->Q (.ref l) (upd H l (.lst xs))
def qTupleL:List V->Hp->VK->Prop:=fun vs H Q=>∃p,vs=[.ref p]/\∃xs,H p=some (.lst xs)/\∀l,H l=none->Q (.ref l) (upd H l (.tup xs))
theorem call_tupleL:CallR X (.type "tuple") qTupleL:=call_tuple_of.imp fun x H Q ⟨p,e,xs,h,q⟩=>⟨p,xs,e,.inl ⟨sqL_of h,q⟩⟩
def qListD:List V->Hp->VK->Prop:=fun vs H Q=>∃a,vs=[.ref a]/\∃kvs,H a=some (.dK kvs)/\∀p,H p=none->Q (.ref p) (upd H p (.lst (kvs.map fun kv=>kV kv.1)))
def qDictD:List V->Hp->VK->Prop:=fun vs H Q=>∃a,vs=[.ref a]/\∃kvs,H a=some (.dK kvs)/\∀p,H p=none->Q (.ref p) (upd H p (.dK kvs))
def qSorted:List V->Hp->VK->Prop:=fun vs H Q=>∃a,vs=[.ref a]/\∃ss:List Str,H a=some (.lst (ss.map V.str))/\ss.length < 64/\
 ∀ss':List Str,ss'.Perm ss->sortedS ss'=true->∀p,H p=none->Q (.ref p) (upd H p (.lst (ss'.map V.str)))
def qJoin:V->List V->Hp->VK->Prop:=fun x vs H Q=>∃sep a,x=.str sep/\vs=[.ref a]/\∃ss:List Str,H a=some (.lst (ss.map V.str))/\JoinOk sep ss=true/\Q (.str (Txt.join sep ss)) H
def qInL (neg:Bool):R2:=fun x y H Q=>∃p,y=.ref p/\∃xs,H p=some (.lst xs)/\flatV x=true/\xs.all flatV=true/\Q (.bl (if neg then !inV x xs else inV x xs)) H
theorem op_inL:OpR X (compareOp .In) (qInL false):=op_in_seq.imp fun x y H Q ⟨p,e,xs,h,f1,f2,q⟩=>⟨p,xs,e,.inl (sqL_of h),f1,f2,q⟩
def qInT (neg:Bool):R2:=fun x y H Q=>∃p,y=.ref p/\∃xs,H p=some (.tup xs)/\flatV x=true/\xs.all flatV=true/\Q (.bl (if neg then !inV x xs else inV x xs)) H
theorem op_inT:OpR X (compareOp .In) (qInT false):=op_in_seq.imp fun x y H Q ⟨p,e,xs,h,f1,f2,q⟩=>⟨p,xs,e,.inr (sqT_of h),f1,f2,q⟩
theorem op_notInT:OpR X (compareOp .NotIn) (qInT true):=op_notIn_seq.imp fun x y H Q ⟨p,e,xs,h,f1,f2,q⟩=>⟨p,xs,e,.inr (sqT_of h),f1,f2,q⟩
def qEqL (neg:Bool):R2:=fun x y H Q=>∃a b,x=.ref a/\y=.ref b/\∃xs,H a=some (.lst xs)/\∃ys,H b=some (.lst ys)/\xs.all flatV=true/\ys.all flatV=true/\Q (.bl (if neg then !eqVs xs ys else eqVs xs ys)) H
def qIsi (K:PySem.W.Frag):List V->Hp->VK->Prop:=fun vs H Q=>∃x n,vs=[x,.ty n]/\∃t,TyOf K H x t/\∃b,PySem.W.kitOne K t (.type n)=some b/\Q (.bl b) H
theorem call_isiT:CallR X (.builtin "isinstance") (qIsi X.K):=(call_isi .none).imp fun x H Q ⟨y,n,e,t,ty,b,h,q⟩=>⟨y,t,b,n,e,ty,h,q⟩
def qSet:V->V->V->Hp->(Hp->Prop)->Prop:=fun o i v H Q=>∃p k,o=.ref p/\i=.int k/\∃xs,H p=some (.lst xs)/\∃j,ixN xs.length k=some j/\Q (upd H p (.lst (xs.set j v)))
theorem set_l:PSet X qSet:=fun pins s σ H o i v ov iv u Q I ro ri rv ⟨p,k,e1,e2,xs,h,j,hj,q⟩=>set_list pins s σ H o i v ov iv u Q I ro ri rv ⟨p,xs,k,j,e1,e2,h,hj,q⟩
theorem get_l:PGet X (fun o i H Q=>qIxL o i H Q):=by
 intro pins s σ H o i ov iv Q I ro ri h
 refine hide fun gG hG=>?_
 obtain ⟨p,i,rfl,rfl,xs,hp,z,he,q⟩:=h
 refine hG ?_
 cases ro
 refine hide fun gG hG=>?_
 obtain ⟨t,rfl⟩:=ri
 obtain ⟨its,r,pl,hz⟩:=I.list (sqL_of hp)
 obtain ⟨j,h1,h2,h3,h4,h5⟩:=atI_get he
 obtain ⟨w,ew,rw'⟩:=r.get h2
 refine hG ?_
 have hl:=r.length
 have hn:=line63
 have fin:EP X pins σ Q w s:=⟨z,H,I,rw',q⟩
 by_cases h0:0<=i
 ·have hj:i.toNat=j:=by
   rw [seqIndex_of h0 h5] at h1
   exact Option.some.inj h1
  exact wpAny_getItem_list pl.isList h0 (by lia) (by rw [hj];simpa using ew) fin
 ·have hj:(i+(its.toArray.size:Int)).toNat=j:=by
   rw [seqIndex_neg (by lia) h4] at h1
   rw [List.size_toArray,<-hl]
   exact Option.some.inj h1
  exact wpAny_getItem_list_neg pl.isList (by lia) (by rw [List.size_toArray] <;> lia) (by lia) (by rw [hj];simpa using ew) fin
end
end L2
namespace L2
open PySem PySem.Spec PyProof.Rows
theorem of1 {α:Type} {C:List α->Prop} (h:∀a,C [a]):∀us:List α,us.length=1->C us
 | [a],_=>h a
theorem of2 {α:Type} {C:List α->Prop} (h:∀a b,C [a,b]):∀us:List α,us.length=2->C us
 | [a,b],_=>h a b
theorem of3 {α:Type} {C:List α->Prop} (h:∀a b c,C [a,b,c]):∀us:List α,us.length=3->C us
 | [a,b,c],_=>h a b c
theorem of4 {α:Type} {C:List α->Prop} (h:∀a b c d,C [a,b,c,d]):∀us:List α,us.length=4->C us
 | [a,b,c,d],_=>h a b c d
end L2
end
section
namespace L2
open PySem PySem.Spec PyProof.Rows
structure HC (X:Cx) (N:List Str) (sc:Scope):Prop where
 n:X.N=N
 s:X.env.scope=sc
def okV (N:List Str) (sc:Scope) (i:Nat) (x:Str):Bool:=
 N[i]? == some x && (sc.names.lookup x == some .local || sc.names.lookup x == some .cell || sc.names.lookup x == some .free) && !(x == ("__debug__" : Str)) && !(x == ("__classdict__" : Str))
def okL (N:List Str) (sc:Scope) (i:Nat) (x:Str):Bool:=N[i]? == some x && (sc.names.lookup x == some .local || sc.names.lookup x == some .cell)
def okL1 (N:List Str) (sc:Scope) (i:Nat) (x:Str):Bool:=N[i]? == some x && sc.names.lookup x == some .local
def okG (sc:Scope) (x:Str):Bool:=sc.names.lookup x == some .globalImplicit
section
variable {X:Cx} {N:List Str} {sc:Scope} {x:Str} {pos:Pos}
theorem pvk (hc:HC X N sc) (i:Nat) (h:okV N sc i x=true):PE X (.Name x pos) (tVar i):=by
 unfold okV at h
 simp only [Bool.and_eq_true,Bool.or_eq_true,beq_iff_eq,Bool.not_eq_true'] at h
 obtain ⟨⟨⟨h1,h2⟩,h3⟩,h4⟩:=h
 refine pe_var (by rw [hc.n];exact h1) ?_ h3 h4
 unfold Vis
 rw [hc.s]
 rcases h2 with (h2 | h2) | h2
 ·exact .inl h2
 ·exact .inr (.inl h2)
 ·exact .inr (.inr h2)
theorem glk (hc:HC X N sc) (h:okG sc x=true):Gl X x:=by
 show X.env.scope.names.lookup x=some .globalImplicit
 rw [hc.s];simpa [okG] using h
theorem okL_loc (hc:HC X N sc) {i:Nat} (h:okL N sc i x=true):X.N[i]? = some x/\Loc X.env.scope x:=by
 unfold okL at h
 simp only [Bool.and_eq_true,Bool.or_eq_true,beq_iff_eq] at h
 refine ⟨by rw [hc.n];exact h.1,?_⟩
 unfold Loc;rw [hc.s];exact h.2
theorem okL1_loc (hc:HC X N sc) {i:Nat} (h:okL1 N sc i x=true):X.N[i]? = some x/\X.env.scope.names.lookup x=some .local:=by
 unfold okL1 at h
 simp only [Bool.and_eq_true,beq_iff_eq] at h
 exact ⟨by rw [hc.n];exact h.1,by rw [hc.s];exact h.2⟩
theorem pgk (hc:HC X N sc) (nd:N.Nodup) (hf:∀x,X.fn x=true) (i:Nat) (h:okL N sc i x=true):PG X (.Name x pos) (gName i):=
 pg_name (by rw [hc.n];exact nd) (okL_loc hc h).1 (okL_loc hc h).2 (.inl (hf x))
theorem pgb (hc:HC X N sc) (nd:N.Nodup) (i:Nat) (h:okL1 N sc i x=true):PG X (.Name x pos) (gName i):=
 pg_name (by rw [hc.n];exact nd) (okL1_loc hc h).1 (.inl (okL1_loc hc h).2) (.inr (okL1_loc hc h).2)
theorem psk_set {e:Expr} {te:TE} {pos':Pos} (hc:HC X N sc) (nd:N.Nodup) (hf:∀x,X.fn x=true) (i:Nat) (h:okL N sc i x=true) (he:PE X e te) (hs:swapsWith e (some (.Name x pos')) pos.line X.env=pure false:=by rfl) :
  PS X (.Assign [.Name x pos'] e pos) (tAsg te (gName i)):=
 ps_set (by rw [hc.n];exact nd) (okL_loc hc h).1 (okL_loc hc h).2 he hs (.inl (hf x))
theorem psk_aug {e:Expr} {te:TE} {op:Operator} {ti:TIp} {pos':Pos} (hc:HC X N sc) (nd:N.Nodup) (hf:∀x,X.fn x=true) (i:Nat) (h:okL N sc i x=true) (he:PE X e te) (ho:PIp X op ti):PS X (.AugAssign (.Name x pos') op e pos) (tAug i te ti):=
 ps_aug (by rw [hc.n];exact nd) (okL_loc hc h).1 (okL_loc hc h).2 he ho (.inl (hf x))
end
def relabelS (scope osc:Scope):Scope:=
 { scope with names:=scope.names.map fun (n,k)=>if (k == .free && osc.kind == .function && osc.names.lookup n == some .cell) then (n,.cell) else (n,k) }
theorem relabelS_eq {scope osc:Scope} {env:Env} (h:env.scope=osc):relabel scope env=relabelS scope osc:=by
 subst h;rfl
theorem hc_block {X:Cx} {N:List Str} {osc scope:Scope} {xs:List Str} {idx:List Nat} (hc:HC X N osc) (c:CB):HC (cxC X scope (xs++subN X.N idx) c) (xs++subN N idx) (relabelS scope osc):=
 ⟨by show xs++subN X.N idx=_;rw [hc.n],relabelS_eq hc.s⟩
section
variable {X:Cx} {N:List Str} {osc:Scope} {elt target iter:Expr} {ifs:List Expr} {scope:Scope} {pos spos py:Pos} {xs:List Str} {idx:List Nat} {wi:TI} {g:CB->TG} {tt:CB->TT} {te:CB->TE}
theorem pek_comp (hc:HC X N osc) (xs:List Str) (idx:List Nat) (hcalm:X.calm=true) (S:csOk osc N scope idx=true) (hi:PI X target iter wi)
  (hg:∀c,HC (cxC X scope (xs++subN X.N idx) c) (xs++subN N idx) (relabelS scope osc)->PG (cxC X scope (xs++subN X.N idx) c) target (g c))
  (ht:∀c,HC (cxC X scope (xs++subN X.N idx) c) (xs++subN N idx) (relabelS scope osc)->PIfs (cxC X scope (xs++subN X.N idx) c) ifs (tt c))
  (he:∀c,HC (cxC X scope (xs++subN X.N idx) c) (xs++subN N idx) (relabelS scope osc)->PE (cxC X scope (xs++subN X.N idx) c) elt (te c))
  (hs:∀x,foldedSetIterable iter X.env x=pure x:=by intro _;rfl):PE X (.ListComp elt [⟨target,iter,ifs,0⟩] scope pos) (tComp wi xs.length idx g tt te):=
 pe_comp hcalm (cscope_of S hc.s hc.n) hi (fun c=>hg c (hc_block hc c)) (fun c=>ht c (hc_block hc c)) (fun c=>he c (hc_block hc c)) hs
theorem psk_comp {y:Str} (hc:HC X N osc) (nd:N.Nodup) (i:Nat) (h:okL1 N osc i y=true) (xs:List Str) (idx:List Nat) (hcalm:X.calm=true) (S:csOk osc N scope idx=true) (hi:PI X target iter wi)
  (hg:∀c,HC (cxC X scope (xs++subN X.N idx) c) (xs++subN N idx) (relabelS scope osc)->PG (cxC X scope (xs++subN X.N idx) c) target (g c))
  (ht:∀c,HC (cxC X scope (xs++subN X.N idx) c) (xs++subN N idx) (relabelS scope osc)->PIfs (cxC X scope (xs++subN X.N idx) c) ifs (tt c))
  (he:∀c,HC (cxC X scope (xs++subN X.N idx) c) (xs++subN N idx) (relabelS scope osc)->PE (cxC X scope (xs++subN X.N idx) c) elt (te c))
  (hsw:swapsWith (.ListComp elt [⟨target,iter,ifs,0⟩] scope pos) (some (.Name y py)) spos.line X.env=pure true)
  (hs:∀x,foldedSetIterable iter X.env x=pure x:=by intro _;rfl):PS X (.Assign [.Name y py] (.ListComp elt [⟨target,iter,ifs,0⟩] scope pos) spos) (tAsg (tComp wi xs.length idx g tt te) (gName i)):=
 ps_setC (by rw [hc.n];exact nd) (okL1_loc hc h).1 (okL1_loc hc h).2 hcalm (cscope_of S hc.s hc.n) hi (fun c=>hg c (hc_block hc c)) (fun c=>ht c (hc_block hc c)) (fun c=>he c (hc_block hc c)) hsw hs
end
end L2
namespace L2
open PySem PySem.Spec PyProof.Rows
@[irreducible] def QSs (X:Cx) (st:List Stmt) (t:TS):Prop:=PSs X st t
theorem QSs.to {X:Cx} {st:List Stmt} {t:TS} (h:QSs X st t):PSs X st t:=by unfold QSs at h;exact h
theorem QSs.of {X:Cx} {st:List Stmt} {t:TS} (h:PSs X st t):QSs X st t:=by unfold QSs;exact h
section
variable {X:Cx} {st:Stmt} {rest:List Stmt} {t u:TS} {pos:Pos}
theorem qss_nil:QSs X [] tNext:=.of pss_nil
theorem qss_one (h1:PS X st t):QSs X [st] t:=.of (pss_one h1)
theorem qss_cons (h1:PS X st t) (h2:QSs X rest u):QSs X (st::rest) (tSeq t u):=.of (pss_cons h1 h2.to)
theorem qss_cut (h1:PS X st t) (h2:QSs X rest u):QSs X (st::rest) (tCut t u):=.of (pss_cut h1 h2.to)
theorem qs_if {c:Expr} {a b:List Stmt} {tc:TT} (hc:PT X c tc) (ha:QSs X a t) (hb:QSs X b u):PS X (.If c a b pos) (tIfS tc t u):=ps_if hc ha.to hb.to
theorem qs_while {c:Expr} {body:List Stmt} {tc:TT} {tb:TS} (hp:PassesOwn (model X.prog X.w) X.A X.env X.xe) (hc:PT X c tc) (hb:QSs X body tb):PS X (.While c body [] pos) (tWhile tc tb):=ps_while hp hc hb.to
theorem qs_for {tg iter:Expr} {body:List Stmt} {wi:TI} {g:TG} {tb:TS} (hp:PassesOwn (model X.prog X.w) X.A X.env X.xe) (hc:X.calm=true) (hi:PI X tg iter wi) (hg:PG X tg g) (hb:QSs X body tb)
  (hs:∀x,foldedSetIterable iter X.env x=pure x:=by intro _;rfl):PS X (.For tg iter body [] pos) (tFor wi g tb):=ps_for hp hc hi hg hb.to hs
end
theorem Fun.okK {P:Program} {w:World} {K:PySem.W.Frag} {mg:Str->Option Value} {base:Heap} {x qual:Str} {st:Stmt} {f:Addr} {fd:FuncData} {N ps:List Str} {k:Nat} {sp:Sp} (F:Fun K x qual st f fd) (S:FnScope N ps (defScope st)) (len:∀vs H Q E,sp vs H Q E->vs.length=ps.length)
  (hbody:∀(cdv:Value) (A:Around) (outer:List Env) (s:Shared) (H:Hp) (vs:List V) (Q:VK) (E:XK),Room k (A.deeper (envOfC qual (defScope st) s.heap.objs.size f cdv))->sp vs H Q E->
   HC (cxOf CX0 P w K mg base N qual (defScope st) f cdv A outer s H E).nox N (defScope st)->(∀x,(cxOf CX0 P w K mg base N qual (defScope st) f cdv A outer s H E).nox.fn x=true)->
   ∃t,QSs (cxOf CX0 P w K mg base N qual (defScope st) f cdv A outer s H E).nox (defBody st) t/\t { nx:=fun _ H'=>Q .non H',rt:=Q } (start N vs) H):FnOk P w K mg base CX0 (k+1) f fd ps sp:=
 F.ok S len fun cdv A outer s H vs Q E hr h=>let ⟨t,h1,h2⟩:=hbody cdv A outer s H vs Q E hr h ⟨rfl,rfl⟩ fun _=>rfl;⟨t,h1.to,h2⟩
end L2
namespace L2
open PySem PySem.Spec PyProof.Rows
def ForAll (J:It) (g:TG) (tb:TS) (D:Ends) (σ:St) (H:Hp):Prop:=∃W:Nat->Nat->St->Hp->Prop,(∃m,W 0 m σ H)/\∀i m σ H,W i m σ H->
 (J.stop i H/\D.nx σ H)\/(J.go i H/\∃N:St->Hp->Prop,(∀σ' H',N σ' H'->∃m',m' < m/\W (i+1) m' σ' H')/\∀x H',J.yld i H x H'->g x σ H' fun σ2 H2=>tb { D with nx:=N,ct:=N,bk:=D.nx } σ2 H2)
theorem tFor_eq {wi:TI} {g:TG} {tb:TS} {D:Ends} {σ:St} {H:Hp}:tFor wi g tb D σ H=wi σ H (fun J H1=>ForAll J g tb D σ H1):=rfl
def CompAll (J:It) (k:Nat) (idx:List Nat) (g:CB->TG) (tt:CB->TT) (te:CB->TE) (σ:St) (Q:VK) (H1:Hp):Prop:=∀D,H1 D=none->∃W:Nat->Nat->List V->Hp->Prop,(∃m,W 0 m [] (upd H1 D (.lst [])))/\
 ∀i m ys H',W i m ys H'->(J.stop i H'/\Q (.ref D) H')\/(J.go i H'/\∃N:List V->Hp->Prop,(∀ys' H'',N ys' H''->∃m',m' < m/\W (i+1) m' ys' H'')/\∀(c:CB) (own:St),own.length=k->∀x H2,J.yld i H' x H2->g c x (own++subS σ idx) H2 fun σ3 H3=>
  (∃own',own'.length=k/\σ3=own'++subS σ idx)/\tt c σ3 H3 fun b H4=>if b=true then te c σ3 H4 fun y H5=>H5 D=some (.lst ys)/\ys.length < sizeLine/\N (ys++[y]) (upd H5 D (.lst (ys++[y]))) else N ys H4)
theorem tComp_eq {wi:TI} {k:Nat} {idx:List Nat} {g:CB->TG} {tt:CB->TT} {te:CB->TE} {σ:St} {H:Hp} {Q:VK}:tComp wi k idx g tt te σ H Q=wi σ H (fun J H1=>CompAll J k idx g tt te σ Q H1):=rfl
theorem forAll_rng {lo:Int} {n:Nat} {g:TG} {tb:TS} {D:Ends} {σ:St} {H:Hp} (Pv:Nat->St->Hp->Prop) (h0:Pv 0 σ H)
  (hs:∀i σ H,i < n->Pv i σ H->g (.int (lo+i)) σ H fun σ2 H2=>tb { D with nx:=Pv (i+1),ct:=Pv (i+1),bk:=D.nx } σ2 H2) (hd:∀σ H,Pv n σ H->D.nx σ H):ForAll (Itr lo n) g tb D σ H:=for_range Pv h0 hs hd
theorem forAll_list {K:PySem.W.Frag} {a:Addr} {xs:List V} {g:TG} {tb:TS} {D:Ends} {σ:St} {H:Hp} (Pv:Nat->St->Hp->Prop) (h0:Pv 0 σ H) (hl:∀i σ H,i<=xs.length->Pv i σ H->H a=some (.lst xs))
  (hs:∀i x σ H,xs[i]? = some x->Pv i σ H->g x σ H fun σ2 H2=>tb { D with nx:=Pv (i+1),ct:=Pv (i+1),bk:=D.nx } σ2 H2) (hd:∀σ H,Pv xs.length σ H->D.nx σ H):ForAll (Itl K a) g tb D σ H:=
 for_list Pv h0 (fun i σ H hi p=>sqL_of (hl i σ H hi p)) hs hd
theorem forAll_tup {K:PySem.W.Frag} {a:Addr} {xs:List V} {g:TG} {tb:TS} {D:Ends} {σ:St} {H:Hp} (Pv:Nat->St->Hp->Prop) (h0:Pv 0 σ H) (hl:∀i σ H,i<=xs.length->Pv i σ H->H a=some (.tup xs))
  (hs:∀i x σ H,xs[i]? = some x->Pv i σ H->g x σ H fun σ2 H2=>tb { D with nx:=Pv (i+1),ct:=Pv (i+1),bk:=D.nx } σ2 H2) (hd:∀σ H,Pv xs.length σ H->D.nx σ H):ForAll (Itt K a) g tb D σ H:=
 for_tup Pv h0 (fun i σ H hi p=>sqT_of (hl i σ H hi p)) hs hd
theorem compAll_rng {lo:Int} {n:Nat} {idx:List Nat} {tt:CB->TT} {te:CB->TE} {σ:St} {Q:VK} {H1:Hp} (Pv:Addr->Nat->List V->Hp->Prop) (h0:∀D,H1 D=none->Pv D 0 [] (upd H1 D (.lst [])))
  (hs:∀D,H1 D=none->∀i ys H,i < n->Pv D i ys H->∀(c:CB),tt c (some (.int (lo+i))::subS σ idx) H fun b H4=>if b=true then te c (some (.int (lo+i))::subS σ idx) H4 fun y H5=>H5 D=some (.lst ys)/\ys.length < sizeLine/\Pv D (i+1) (ys++[y]) (upd H5 D (.lst (ys++[y]))) else Pv D (i+1) ys H4)
  (hd:∀D,H1 D=none->∀ys H,Pv D n ys H->Q (.ref D) H):CompAll (Itr lo n) 1 idx (fun _=>gName 0) tt te σ Q H1:=
 fun D hD=>comp_range1 (Pv D) (h0 D hD) (hs D hD) (hd D hD)
theorem compAll_list {K:PySem.W.Frag} {a:Addr} {zs:List V} {idx:List Nat} {tt:CB->TT} {te:CB->TE} {σ:St} {Q:VK} {H1:Hp} (Pv:Addr->Nat->List V->Hp->Prop) (h0:∀D,H1 D=none->Pv D 0 [] (upd H1 D (.lst [])))
  (hl:∀D,H1 D=none->∀i ys H,i<=zs.length->Pv D i ys H->H a=some (.lst zs))
  (hs:∀D,H1 D=none->∀i x ys H,zs[i]? = some x->Pv D i ys H->∀(c:CB),tt c (some x::subS σ idx) H fun b H4=>if b=true then te c (some x::subS σ idx) H4 fun y H5=>H5 D=some (.lst ys)/\ys.length < sizeLine/\Pv D (i+1) (ys++[y]) (upd H5 D (.lst (ys++[y]))) else Pv D (i+1) ys H4)
  (hd:∀D,H1 D=none->∀ys H,Pv D zs.length ys H->Q (.ref D) H):CompAll (Itl K a) 1 idx (fun _=>gName 0) tt te σ Q H1:=
 fun D hD=>comp_list1 (Pv D) (h0 D hD) (fun i ys H hi p=>sqL_of (hl D hD i ys H hi p)) (hs D hD) (hd D hD)
end L2
namespace L2
open PySem PySem.Spec PyProof.Rows
def tTxtsL (ss:List Str):TA:=fun _ H Q=>Q (List.map V.str ss) H
end L2
end
section
namespace L2
open PySem PySem.Spec PyProof.Rows
structure ZE (X:Cx) (e:Expr) (t:TE):Prop where
 to:PE X e t
structure ZT (X:Cx) (e:Expr) (t:TT):Prop where
 to:PT X e t
structure ZW (X:Cx) (e:Expr) (t:TT):Prop where
 to:PW X e t
structure ZA (X:Cx) (e:List Expr) (t:TA):Prop where
 to:PA X e t
structure ZS (X:Cx) (e:Stmt) (t:TS):Prop where
 to:PS X e t
structure ZSs (X:Cx) (e:List Stmt) (t:TS):Prop where
 to:PSs X e t
structure ZG (X:Cx) (e:Expr) (t:TG):Prop where
 to:PG X e t
structure ZGs (X:Cx) (e:List Expr) (t:TGs):Prop where
 to:PGs X e t
structure ZIfs (X:Cx) (e:List Expr) (t:TT):Prop where
 to:PIfs X e t
structure ZO (X:Cx) (e:Option Expr) (t:TO):Prop where
 to:PO X e t
structure ZI (X:Cx) (tg iter:Expr) (t:TI):Prop where
 to:PI X tg iter t
theorem zpe_bl {X:Cx} {b:Bool} {j:Nat} {pos:Pos}:ZE X (Expr.Constant (Const.bool b) j pos) (tC (V.bl b)):=⟨pe_bl⟩
theorem zpe_int {X:Cx} {i:Int} {j:Nat} {pos:Pos}:ZE X (Expr.Constant (Const.int i) j pos) (tC (V.int i)):=⟨pe_int⟩
theorem zpe_str {X:Cx} {x:Str} {j:Nat} {pos:Pos}:ZE X (Expr.Constant (Const.str x) j pos) (tC (V.str x)):=⟨pe_str⟩
theorem zpe_non {X:Cx} {j:Nat} {pos:Pos}:ZE X (Expr.Constant Const.none j pos) (tC V.non):=⟨pe_non⟩
theorem zpvk {X:Cx} {N:List Str} {sc:Scope} {x:Str} {pos:Pos} (h1:HC X N sc) (i:Nat) (h2:okV N sc i x=true):ZE X (Expr.Name x pos) (tVar i):=⟨pvk h1 i h2⟩
theorem zpe_bltn {X:Cx} {x:Str} {v:V} {u:Value} {pos:Pos} (h1:Gl X x) (h2:Cx.mg X x=none) (h3:bootBuiltins x=some u) (h4:RelV v u) (h5:autoParam (x≠Str.ofString "__name__") pe_bltn._auto_1) (h6:autoParam ((x == Str.ofString "__debug__")=false) pe_bltn._auto_2):ZE X (Expr.Name x pos) (tC v):=⟨pe_bltn h1 h2 h3 h4 h5 h6⟩
theorem zpe_lst {X:Cx} {es:List Expr} {t:TA} {pos:Pos} (h1:ZA X es t):ZE X (Expr.List es pos) (tLst t):=⟨pe_lst h1.to⟩
theorem zpe_tup {X:Cx} {es:List Expr} {t:TA} {pos:Pos} {x1:Nat} (h1:ZA X es t):ZE X (Expr.Tuple es x1 pos) (tTup t):=⟨pe_tup h1.to⟩
theorem zpe_op {X:Cx} {a b:Expr} {ta tb:TE} {pos:Pos} {op:Operator} {r:R2} (h1:OpR X (binaryOp op) r) (h2:ZE X a ta) (h3:ZE X b tb):ZE X (Expr.BinOp a op b pos) (tOp r ta tb):=⟨pe_op h1 h2.to h3.to⟩
theorem zpe_not {X:Cx} {a:Expr} {ta:TE} {pos:Pos} (h1:ZE X a ta):ZE X (Expr.UnaryOp UnaryOp.Not a pos) (tNotV ta):=⟨pe_not h1.to⟩
theorem zpe_cmpR {X:Cx} {a b:Expr} {ta tb:TE} {pos:Pos} {op:CmpOp} {r:R2} (h1:OpR X (compareOp op) r) (h2:ZE X a ta) (h3:ZE X b tb) (h4:behindInMarks op b=false):ZE X (Expr.Compare a [op] [b] pos) (tOp r ta tb):=⟨pe_cmpR h1 h2.to h3.to h4⟩
theorem zpe_one {X:Cx} {a:Expr} {pos:Pos} {op:BoolOp} {t:TE} (h1:ZE X a t):ZE X (Expr.BoolOp op [a] pos) t:=⟨pe_one h1.to⟩
theorem zpe_and {X:Cx} {a b:Expr} {ta tb:TE} {pos:Pos} {rest:List Expr} (h1:ZE X a ta) (h2:ZE X (Expr.BoolOp BoolOp.And (b::rest) pos) tb):ZE X (Expr.BoolOp BoolOp.And (a::b::rest) pos) (tAndV ta tb):=⟨pe_and h1.to h2.to⟩
theorem zpo_none {X:Cx}:ZO X none tNoPart:=⟨po_none⟩
theorem zpo_some {X:Cx} {e:Expr} {te:TE} (h1:ZE X e te):ZO X (some e) (tPart te):=⟨po_some h1.to⟩
theorem zpe_slice {X:Cx} {e:Expr} {te:TE} {lo hi:Option Expr} {tl th:TO} {pos p2:Pos} {r:V->Option Int->Option Int->Hp->VK->Prop} (h1:SlR X r) (h2:ZE X e te) (h3:ZO X lo tl) (h4:ZO X hi th):ZE X (Expr.Subscript e (Expr.Slice lo hi none p2) pos) (tSl r te tl th):=⟨pe_slice h1 h2.to h3.to h4.to⟩
theorem zpe_ix {X:Cx} {a b:Expr} {ta tb:TE} {pos:Pos} {r:R2} (h1:IxR X r) (h2:ZE X a ta) (h3:ZE X b tb) (h4:PlainIx b):ZE X (Expr.Subscript a b pos) (tOp r ta tb):=⟨pe_ix h1 h2.to h3.to h4⟩
theorem zpek_comp {X : Cx} {N : List Str} {osc : Scope} {elt target iter : Expr} {ifs : List Expr} {scope : Scope} {pos : Pos} {wi : TI} {g : CB → TG} {tt : CB → TT} {te : CB → TE} (h1 : HC X N osc) (xs : List Str) (idx : List Nat) (h2 : Cx.calm X = true) (h3 : csOk osc N scope idx = true) (h4 : ZI X target iter wi) (h5 : (∀ (c : CB),
                HC (cxC X scope (xs ++ subN (Cx.N X) idx) c) (xs ++ subN N idx) (relabelS scope osc) →
                  ZG (cxC X scope (xs ++ subN (Cx.N X) idx) c) target (g c))) (h6 : (∀ (c : CB),
                  HC (cxC X scope (xs ++ subN (Cx.N X) idx) c) (xs ++ subN N idx) (relabelS scope osc) →
                    ZIfs (cxC X scope (xs ++ subN (Cx.N X) idx) c) ifs (tt c))) (h7 : (∀ (c : CB),
                    HC (cxC X scope (xs ++ subN (Cx.N X) idx) c) (xs ++ subN N idx) (relabelS scope osc) →
                      ZE (cxC X scope (xs ++ subN (Cx.N X) idx) c) elt (te c))) (h8 : autoParam (∀ (x : Value), foldedSetIterable iter (Cx.env X) x = pure x) pek_comp._auto_1) : ZE X (Expr.ListComp elt [{ target := target, iter := iter, ifs := ifs, is_async := 0 }] scope pos)
                      (tComp wi (List.length xs) idx g tt te) := ⟨pek_comp h1 xs idx h2 h3 h4.to (fun c z => (h5 c z).to) (fun c z => (h6 c z).to) (fun c z => (h7 c z).to) h8⟩
theorem zpa_nil {X:Cx}:ZA X [] tNil:=⟨pa_nil⟩
theorem zpa_cons {X:Cx} {e:Expr} {es:List Expr} {te:TE} {t:TA} (h1:ZE X e te) (h2:ZA X es t) (h3:autoParam (starEach (e::es) (Cx.env X)=(false,eval e (Cx.env X))::starEach es (Cx.env X)) pa_cons._auto_1):ZA X (e::es) (tCons te t):=⟨pa_cons h1.to h2.to h3⟩
theorem zpg_tup {X : Cx} {pos : Pos} {es : List Expr} {k : Nat} {t : TGs} {n : Nat} (h1 : Cx.calm X = true) (h2 : ZGs X es t) (h3 : autoParam (List.length (assignEach es (Cx.env X)) = n) pg_tup._auto_1) (h4 : autoParam (List.findIdx? (fun (x : Bool × (Value → Sem Unit)) => Prod.fst x) (assignEach es (Cx.env X)) = none)
            pg_tup._auto_2) : ZG X (Expr.Tuple es k pos) (gTup (Cx.K X) n t) := ⟨pg_tup h1 h2.to h3 h4⟩
theorem zpgb {X:Cx} {N:List Str} {sc:Scope} {x:Str} {pos:Pos} (h1:HC X N sc) (h2:List.Nodup N) (i:Nat) (h3:okL1 N sc i x=true):ZG X (Expr.Name x pos) (gName i):=⟨pgb h1 h2 i h3⟩
theorem zpifs_nil {X:Cx}:ZIfs X [] tYes:=⟨pifs_nil⟩
theorem zpifs_one {X:Cx} {e:Expr} {t:TT} (h1:ZT X e t):ZIfs X [e] t:=⟨pifs_one h1.to⟩
theorem zpgs_nil {X:Cx}:ZGs X [] gNil:=⟨pgs_nil⟩
theorem zpgs_cons {X : Cx} {e : Expr} {es : List Expr} {t : TG} {u : TGs} (h1 : ZG X e t) (h2 : ZGs X es u) (h3 : autoParam
          (List.map (fun (x : Bool × (Value → Sem Unit)) => Prod.snd x) (assignEach (e :: es) (Cx.env X)) =
            assign e (Cx.env X) ::
              List.map (fun (x : Bool × (Value → Sem Unit)) => Prod.snd x) (assignEach es (Cx.env X)))
          pgs_cons._auto_1) : ZGs X (e :: es) (gCons t u) := ⟨pgs_cons h1.to h2.to h3⟩
theorem zpi_range1 {X:Cx} {tg a:Expr} {ta:TA} {p pos:Pos} (h1:Gl X (Str.ofString "range")) (h2:Cx.mg X (Str.ofString "range")=none) (h3:ZA X [a] ta) (h4:autoParam (starEach [a] (Cx.env X)=[(false,eval a (Cx.env X))]) pi_range1._auto_1):ZI X tg (Expr.Call (Expr.Name (Str.ofString "range") p) [a] [] pos) (iRng1 ta):=⟨pi_range1 h1 h2 h3.to h4⟩
theorem zpi_range2 {X : Cx} {tg a b : Expr} {ta : TA} {p pos : Pos} (h1 : Gl X (Str.ofString "range")) (h2 : Cx.mg X (Str.ofString "range") = none) (h3 : ZA X [a, b] ta) (h4 : autoParam (starEach [a, b] (Cx.env X) = [(false, eval a (Cx.env X)), (false, eval b (Cx.env X))])
            pi_range2._auto_1) (h5 : autoParam (starEach [b] (Cx.env X) = [(false, eval b (Cx.env X))]) pi_range2._auto_2) : ZI X tg (Expr.Call (Expr.Name (Str.ofString "range") p) [a, b] [] pos) (iRng2 ta) := ⟨pi_range2 h1 h2 h3.to h4 h5⟩
theorem zpi_list {X:Cx} {tg l:Expr} {tl:TE} (h1:ZE X l tl):ZI X tg l (iList (Cx.K X) tl):=⟨pi_list h1.to⟩
theorem zpi_tup {X:Cx} {tg l:Expr} {tl:TE} (h1:ZE X l tl):ZI X tg l (iTup (Cx.K X) tl):=⟨pi_tup h1.to⟩
theorem zpt_cmpR {X:Cx} {a b:Expr} {ta tb:TE} {pos:Pos} {op:CmpOp} {r:R2} (h1:OpR X (compareOp op) r) (h2:ZE X a ta) (h3:ZE X b tb) (h4:behindInMarks op b=false):ZT X (Expr.Compare a [op] [b] pos) (tTest (tOp r ta tb)):=⟨pt_cmpR h1 h2.to h3.to h4⟩
theorem zpt_not {X:Cx} {a:Expr} {pos:Pos} {tA:TT} (h1:ZT X a tA):ZT X (Expr.UnaryOp UnaryOp.Not a pos) (tNot tA):=⟨pt_not h1.to⟩
theorem zPWpt {X:Cx} {e:Expr} {t:TT} (h1:ZW X e t):ZT X e t:=⟨PW.pt h1.to⟩
theorem zpt_val {X:Cx} {e:Expr} {t:TE} (h1:ZE X e t) (h2:autoParam
    (∀(whole:Sem Value),
     PySem.isTrue e (Cx.env X) whole=do
      let v <-whole
      standAt (Expr.pos e)
      holding [v] (truthy v))
    pt_val._auto_1):ZT X e (tB t):=⟨pt_val h1.to h2⟩
theorem zpw_and1 {X:Cx} {a:Expr} {pos:Pos} {tA:TT} (h1:ZT X a tA):ZW X (Expr.BoolOp BoolOp.And [a] pos) tA:=⟨pw_and1 h1.to⟩
theorem zpw_or1 {X:Cx} {a:Expr} {pos:Pos} {tA:TT} (h1:ZT X a tA):ZW X (Expr.BoolOp BoolOp.Or [a] pos) tA:=⟨pw_or1 h1.to⟩
theorem zpw_and {X:Cx} {a b:Expr} {pos:Pos} {tA tB':TT} {rest:List Expr} (h1:ZT X a tA) (h2:ZW X (Expr.BoolOp BoolOp.And (b::rest) pos) tB'):ZW X (Expr.BoolOp BoolOp.And (a::b::rest) pos) (tAnd tA tB'):=⟨pw_and h1.to h2.to⟩
theorem zpw_or {X:Cx} {a b:Expr} {pos:Pos} {tA tB':TT} {rest:List Expr} (h1:ZT X a tA) (h2:ZW X (Expr.BoolOp BoolOp.Or (b::rest) pos) tB'):ZW X (Expr.BoolOp BoolOp.Or (a::b::rest) pos) (tOr tA tB'):=⟨pw_or h1.to h2.to⟩
theorem zpe_call {X : Cx} {CX : CXT} {k : Nat} {f : Addr} {fd : FuncData} {ps : List Str} {sp : Sp} {dvs : List V} {ds : List Value} {E : XK} {x : Str} {p pos : Pos} {e : Expr} {es : List Expr} {t : TA} (h1 : FnOk (Cx.prog X) (Cx.w X) (Cx.K X) (Cx.mg X) (Cx.base X) CX k f fd ps sp) (h2 : Room k (Cx.A X)) (h3 : Gl X x) (h4 : Cx.mg X x = some (Value.ref f)) (h5 : W.keepIn (Cx.K X) (Value.ref f) = true) (h6 : Binds (Cx.K X) fd ps ds) (h7 : Vals dvs ds) (h8 : Passes CX X E) (h9 : ZA X (e :: es) t) (h10 : autoParam ((x == Str.ofString "__debug__") = false) pe_call._auto_1) (h11 : autoParam (starEach (e :: es) (Cx.env X) = (false, eval e (Cx.env X)) :: starEach es (Cx.env X))
                          pe_call._auto_2) (h12 : autoParam
                            ((List.any (backTo pos (starEach es (Cx.env X))) fun (x : Bool × Sem Value) => Prod.fst x) =
                              false)
                            pe_call._auto_3) : ZE X (Expr.Call (Expr.Name x p) (e :: es) [] pos) (tCall sp dvs E t) := ⟨pe_call h1 h2 h3 h4 h5 h6 h7 h8 h9.to h10 h11 h12⟩
theorem zpe_callTy {X : Cx} {x : Str} {p pos : Pos} {e : Expr} {es : List Expr} {t : TA} {T : String} {r : List V → Hp → VK → Prop} (h1 : CallR X (Value.type T) r) (h2 : Gl X x) (h3 : Cx.mg X x = none) (h4 : bootBuiltins x = some (Value.type T)) (h5 : ZA X (e :: es) t) (h6 : autoParam (x ≠ Str.ofString "__name__") pe_callTy._auto_1) (h7 : autoParam ((x == Str.ofString "__debug__") = false) pe_callTy._auto_2) (h8 : autoParam (starEach (e :: es) (Cx.env X) = (false, eval e (Cx.env X)) :: starEach es (Cx.env X))
                    pe_callTy._auto_3) (h9 : autoParam
                      ((List.any (backTo pos (starEach es (Cx.env X))) fun (x : Bool × Sem Value) => Prod.fst x) =
                        false)
                      pe_callTy._auto_4) : ZE X (Expr.Call (Expr.Name x p) (e :: es) [] pos) (tCB r t) := ⟨pe_callTy h1 h2 h3 h4 h5.to h6 h7 h8 h9⟩
theorem zpe_callB {X : Cx} {x : Str} {p pos : Pos} {e : Expr} {es : List Expr} {t : TA} {id : String} {r : List V → Hp → VK → Prop} (h1 : CallR X (Value.builtin id) r) (h2 : Gl X x) (h3 : Cx.mg X x = none) (h4 : bootBuiltins x = some (Value.builtin id)) (h5 : ZA X (e :: es) t) (h6 : autoParam (x ≠ Str.ofString "__name__") pe_callB._auto_1) (h7 : autoParam ((x == Str.ofString "__debug__") = false) pe_callB._auto_2) (h8 : autoParam (starEach (e :: es) (Cx.env X) = (false, eval e (Cx.env X)) :: starEach es (Cx.env X))
                    pe_callB._auto_3) (h9 : autoParam
                      ((List.any (backTo pos (starEach es (Cx.env X))) fun (x : Bool × Sem Value) => Prod.fst x) =
                        false)
                      pe_callB._auto_4) : ZE X (Expr.Call (Expr.Name x p) (e :: es) [] pos) (tCB r t) := ⟨pe_callB h1 h2 h3 h4 h5.to h6 h7 h8 h9⟩
theorem zpe_bm {X : Cx} {o e : Expr} {es : List Expr} {to : TE} {t : TA} {name : Str} {apos cpos : Pos} {T id : String} {r : V → List V → Hp → VK → Prop} (h1 : PlainAttrs T) (h2 : Slot T name id) (h3 : typeOf (Value.builtin id) = pure (Value.type "method_descriptor")) (h4 : MtR X id r) (h5 : ZE X o to) (h6 : ZA X (e :: es) t) (h7 : autoParam (attributeBase o name (Cx.env X) (eval o (Cx.env X)) = eval o (Cx.env X)) pe_bm._auto_1) (h8 : autoParam
                    ((((List.all (backTo cpos (starEach (e :: es) (Cx.env X))) fun (x : Bool × Sem Value) =>
                            !Prod.fst x) &&
                          List.all (backToKw cpos (keywordEach [] (Cx.env X))) fun (x : Option Str × Sem Value) =>
                            Option.isSome (Prod.fst x)) &&
                        decide
                          ((List.length (e :: es) + List.length ([] : List Keyword) + if List.isEmpty ([] : List Keyword) = true then 0 else 1) < 30)) =
                      true)
                    pe_bm._auto_2) (h9 : autoParam ((Pos.endLine apos == Pos.line cpos) = true) pe_bm._auto_3) (h10 : autoParam (starEach (e :: es) (Cx.env X) = (false, eval e (Cx.env X)) :: starEach es (Cx.env X))
                        pe_bm._auto_4) (h11 : autoParam
                          ((List.any (backTo cpos (starEach es (Cx.env X))) fun (x : Bool × Sem Value) => Prod.fst x) =
                            false)
                          pe_bm._auto_5) : ZE X (Expr.Call (Expr.Attribute o name apos) (e :: es) [] cpos) (tBM (Cx.K X) T r to t) := ⟨pe_bm h1 h2 h3 h4 h5.to h6.to h7 h8 h9 h10 h11⟩
theorem zps_ret {X:Cx} {e:Expr} {te:TE} {pos:Pos} (h1:ZE X e te):ZS X (Stmt.Return (some e) pos) (tRet te):=⟨ps_ret h1.to⟩
theorem zps_expr {X:Cx} {e:Expr} {te:TE} {pos:Pos} (h1:ZE X e te) (h2:autoParam (swapsWith e none (Pos.line pos) (Cx.env X)=pure false) ps_expr._auto_1):ZS X (Stmt.Expr e pos) (tDrop te):=⟨ps_expr h1.to h2⟩
theorem zpsk_comp {X : Cx} {N : List Str} {osc : Scope} {elt target iter : Expr} {ifs : List Expr} {scope : Scope} {pos spos py : Pos} {wi : TI} {g : CB → TG} {tt : CB → TT} {te : CB → TE} {y : Str} (h1 : HC X N osc) (h2 : List.Nodup N) (i : Nat) (h3 : okL1 N osc i y = true) (xs : List Str) (idx : List Nat) (h4 : Cx.calm X = true) (h5 : csOk osc N scope idx = true) (h6 : ZI X target iter wi) (h7 : (∀ (c : CB),
                      HC (cxC X scope (xs ++ subN (Cx.N X) idx) c) (xs ++ subN N idx) (relabelS scope osc) →
                        ZG (cxC X scope (xs ++ subN (Cx.N X) idx) c) target (g c))) (h8 : (∀ (c : CB),
                        HC (cxC X scope (xs ++ subN (Cx.N X) idx) c) (xs ++ subN N idx) (relabelS scope osc) →
                          ZIfs (cxC X scope (xs ++ subN (Cx.N X) idx) c) ifs (tt c))) (h9 : (∀ (c : CB),
                          HC (cxC X scope (xs ++ subN (Cx.N X) idx) c) (xs ++ subN N idx) (relabelS scope osc) →
                            ZE (cxC X scope (xs ++ subN (Cx.N X) idx) c) elt (te c))) (h10 : swapsWith
                              (Expr.ListComp elt [{ target := target, iter := iter, ifs := ifs, is_async := 0 }] scope
                                pos)
                              (some (Expr.Name y py)) (Pos.line spos) (Cx.env X) =
                            pure true) (h11 : autoParam (∀ (x : Value), foldedSetIterable iter (Cx.env X) x = pure x) psk_comp._auto_1) : ZS X
                              (Stmt.Assign [Expr.Name y py]
                                (Expr.ListComp elt [{ target := target, iter := iter, ifs := ifs, is_async := 0 }] scope
                                  pos)
                                spos)
                              (tAsg (tComp wi (List.length xs) idx g tt te) (gName i)) := ⟨psk_comp h1 h2 i h3 xs idx h4 h5 h6.to (fun c z => (h7 c z).to) (fun c z => (h8 c z).to) (fun c z => (h9 c z).to) h10 h11⟩
theorem zpsk_set {X:Cx} {N:List Str} {sc:Scope} {x:Str} {pos:Pos} {e:Expr} {te:TE} {pos':Pos} (h1:HC X N sc) (h2:List.Nodup N) (h3:(∀(x:Str),Cx.fn X x=true)) (i:Nat) (h4:okL N sc i x=true) (h5:ZE X e te) (h6:autoParam (swapsWith e (some (Expr.Name x pos')) (Pos.line pos) (Cx.env X)=pure false) psk_set._auto_1):ZS X (Stmt.Assign [Expr.Name x pos'] e pos) (tAsg te (gName i)):=⟨psk_set h1 h2 h3 i h4 h5.to h6⟩
theorem zps_dput {X:Cx} {o i value:Expr} {pos pos':Pos} {td ty tv:TE} (h1:Around.units (Cx.A X)+1 < cLine) (h2:ZE X o td) (h3:ZE X i ty) (h4:ZE X value tv) (h5:swapsWith value (some (Expr.Subscript o i pos')) (Pos.line pos) (Cx.env X)=pure false):ZS X (Stmt.Assign [Expr.Subscript o i pos'] value pos) (sDPut td ty tv):=⟨ps_dput h1 h2.to h3.to h4.to h5⟩
theorem zps_asg {X : Cx} {pos : Pos} {tg e : Expr} {te : TE} {g : TG} (h1 : ZE X e te) (h2 : ZG X tg g) (h3 : autoParam (swapsWithSole [tg] e (Pos.line pos) (Cx.env X) = pure false) ps_asg._auto_1) (h4 : autoParam (swappedStores [tg] e (Cx.env X) = pure none) ps_asg._auto_2) (h5 : autoParam
              (List.map (fun (x : Bool × (Value → Sem Unit)) => Prod.snd x) (assignEach [tg] (Cx.env X)) =
                [assign tg (Cx.env X)])
              ps_asg._auto_3) : ZS X (Stmt.Assign [tg] e pos) (tAsg te g) := ⟨ps_asg h1.to h2.to h3 h4 h5⟩
theorem zpg_sub {X : Cx} {pos : Pos} {o i : Expr} {to ti : TE} {t : TSet} (h1 : ZE X o to) (h2 : ZE X i ti) (h3 : PSet X t) (h4 : autoParam
            (∀ (v : Value),
              assign (Expr.Subscript o i pos) (Cx.env X) v = do
                let ov ← holding [v] (eval o (Cx.env X))
                let iv ← holding [v, ov] (eval i (Cx.env X))
                standAt pos
                holding [v, ov, iv] (setItem ov iv v)
                release [v, ov, iv] [])
            pg_sub._auto_1) : ZG X (Expr.Subscript o i pos) (gSub to ti t) := ⟨pg_sub h1.to h2.to h3 h4⟩
theorem zps_augS {X : Cx} {pos : Pos} {o i e : Expr} {to ti te : TE} {tget : V → V → Hp → VK → Prop} {tip : TIp} {tset : TSet} {op : Operator} {tpos : Pos} (h1 : ZE X o to) (h2 : ZE X i ti) (h3 : PGet X tget) (h4 : ZE X e te) (h5 : PIp X op tip) (h6 : PSet X tset) (h7 : autoParam
                  (∀ (ov iv new : Value),
                    augStore i ov iv new = do
                      holding [new, ov, iv] (setItem ov iv new)
                      release [new, ov, iv] []
                      pure Flow.next)
                  ps_augS._auto_1) : ZS X (Stmt.AugAssign (Expr.Subscript o i tpos) op e pos) (tAugS to ti te tget tip tset) := ⟨ps_augS h1.to h2.to h3 h4.to h5 h6 h7⟩
theorem zpsk_aug {X:Cx} {N:List Str} {sc:Scope} {x:Str} {pos:Pos} {e:Expr} {te:TE} {op:Operator} {ti:TIp} {pos':Pos} (h1:HC X N sc) (h2:List.Nodup N) (h3:(∀(x:Str),Cx.fn X x=true)) (i:Nat) (h4:okL N sc i x=true) (h5:ZE X e te) (h6:PIp X op ti):ZS X (Stmt.AugAssign (Expr.Name x pos') op e pos) (tAug i te ti):=⟨psk_aug h1 h2 h3 i h4 h5.to h6⟩
theorem zqs_if {X:Cx} {t u:TS} {pos:Pos} {c:Expr} {a b:List Stmt} {tc:TT} (h1:ZT X c tc) (h2:ZSs X a t) (h3:ZSs X b u):ZS X (Stmt.If c a b pos) (tIfS tc t u):=⟨qs_if h1.to (.of h2.to) (.of h3.to)⟩
theorem zqs_while {X:Cx} {pos:Pos} {c:Expr} {body:List Stmt} {tc:TT} {tb:TS} (h1:PassesOwn (model (Cx.prog X) (Cx.w X)) (Cx.A X) (Cx.env X) (Cx.xe X)) (h2:ZT X c tc) (h3:ZSs X body tb):ZS X (Stmt.While c body [] pos) (tWhile tc tb):=⟨qs_while h1 h2.to (.of h3.to)⟩
theorem zpgk {X:Cx} {N:List Str} {sc:Scope} {x:Str} {pos:Pos} (h1:HC X N sc) (h2:List.Nodup N) (h3:(∀(x:Str),Cx.fn X x=true)) (i:Nat) (h4:okL N sc i x=true):ZG X (Expr.Name x pos) (gName i):=⟨pgk h1 h2 h3 i h4⟩
theorem zqs_for {X:Cx} {pos:Pos} {tg iter:Expr} {body:List Stmt} {wi:TI} {g:TG} {tb:TS} (h1:PassesOwn (model (Cx.prog X) (Cx.w X)) (Cx.A X) (Cx.env X) (Cx.xe X)) (h2:Cx.calm X=true) (h3:ZI X tg iter wi) (h4:ZG X tg g) (h5:ZSs X body tb) (h6:autoParam (∀(x:Value),foldedSetIterable iter (Cx.env X) x=pure x) qs_for._auto_1):ZS X (Stmt.For tg iter body [] pos) (tFor wi g tb):=⟨qs_for h1 h2 h3.to h4.to (.of h5.to) h6⟩
theorem zqss_nil {X:Cx}:ZSs X [] tNext:=⟨QSs.to qss_nil⟩
theorem zqss_one {X:Cx} {st:Stmt} {t:TS} (h1:ZS X st t):ZSs X [st] t:=⟨QSs.to (qss_one h1.to)⟩
theorem zqss_cons {X:Cx} {st:Stmt} {rest:List Stmt} {t u:TS} (h1:ZS X st t) (h2:ZSs X rest u):ZSs X (st::rest) (tSeq t u):=⟨QSs.to (qss_cons h1.to (.of h2.to))⟩
theorem zqss_cut {X:Cx} {st:Stmt} {rest:List Stmt} {t u:TS} (h1:ZS X st t) (h2:ZSs X rest u):ZSs X (st::rest) (tCut t u):=⟨QSs.to (qss_cut h1.to (.of h2.to))⟩
theorem Fun.okZ {P:Program} {w:World} {K:PySem.W.Frag} {mg:Str->Option Value} {base:Heap} {x qual:Str} {st:Stmt} {f:Addr} {fd:FuncData} {N ps:List Str} {k:Nat} {sp:Sp} (F:Fun K x qual st f fd) (S:FnScope N ps (defScope st)) (len:∀vs H Q E,sp vs H Q E->vs.length=ps.length)
  (hbody:∀(cdv:Value) (A:Around) (outer:List Env) (s:Shared) (H:Hp) (vs:List V) (Q:VK) (E:XK),Room k (A.deeper (envOfC qual (defScope st) s.heap.objs.size f cdv))->sp vs H Q E->
   HC (cxOf CX0 P w K mg base N qual (defScope st) f cdv A outer s H E).nox N (defScope st)->(∀x,(cxOf CX0 P w K mg base N qual (defScope st) f cdv A outer s H E).nox.fn x=true)->
   ∃t,ZSs (cxOf CX0 P w K mg base N qual (defScope st) f cdv A outer s H E).nox (defBody st) t/\t { nx:=fun _ H'=>Q .non H',rt:=Q } (start N vs) H):FnOk P w K mg base CX0 (k+1) f fd ps sp:=
 F.okK S len fun cdv A outer s H vs Q E hr h hc hf=>let ⟨t,h1,h2⟩:=hbody cdv A outer s H vs Q E hr h hc hf;⟨t,.of h1.to,h2⟩
end L2
end
section
namespace L2
open PySem PySem.Spec PyProof.Rows
def byT (w:World):Bool:=w.params.followText "set-order"
def entS (w:World) (p:Str×Tok):Int×Value:=(hashStr w p.1,.str p.1 p.2)
def sObj (es:Array (Int×Value)) (ep:Nat) (t:SetTable):Obj:={ cls:=.type "set",dict:=none,data:=.set es ep t }
structure SetT (w:World) (h:Heap) (a:Addr) (l:List (Str×Tok)):Prop where
 ex:∃es ep t,h.get? a=some (sObj es ep t)/\es.toList=l.map (entS w)/\t.fits es.size=true/\t.led = !byT w/\(l≠[]->t.plain=false)
 nd:(l.map (·.1)).Nodup
 sz:l.length < scanBound
section
variable {P:Program} {w:World} {A:Around} {E:Value->Shared->Prop} {s:Shared} {a:Addr} {l:List (Str×Tok)}
end
end L2
end
section
namespace L2
open PySem PySem.Spec PyProof.Rows
section
variable {P:Program} {w:World} {A:Around} {R:Result->Shared->Prop} {I:Addr} {fp wr:List Addr} {G:Array GenState->Array GenState->Prop} {n:Nat} {Pv:Nat->Value->Prop} {St:Nat->Shared->Prop}
end
section
variable {P:Program} {w:World} {A:Around} {E:Value->Shared->Prop} {s:Shared}
end
end L2
end
section
namespace L2
open PySem PySem.Spec PyProof.Rows
end L2
end
section
namespace L2
open PySem PySem.Spec PyProof.Rows
section
variable {P:Program} {w:World} {A:Around} {E:Value->Shared->Prop} {s:Shared} {a I:Addr} {es:Array (Int×Value)} {t:SetTable} {ep i n:Nat} {first:Value}
end
end L2
end
section
namespace L2
open PySem PySem.Spec PyProof.Rows
theorem erase_perm {α:Type}:∀(l:List α) (i:Nat) (x:α),l[i]? = some x->(x::l.eraseIdx i).Perm l
 | [],i,x,h=>by cases i <;> cases h
 | y::l,0,x,h=>by cases h;exact List.Perm.refl _
 | y::l,i+1,x,h=>by
  rw [List.getElem?_cons_succ] at h
  rw [List.eraseIdx_cons_succ]
  exact (List.Perm.swap y x _).trans ((erase_perm l i x h).cons y)
section
variable {P:Program} {w:World} {A:Around} {E:Value->Shared->Prop}
variable {s:Shared} {a:Addr} {es:Array (Int×Value)} {t:SetTable} {ep slot i:Nat}
end
end L2
end
section
namespace L2
open PySem PySem.Spec PyProof.Rows
section
variable {P:Program} {w:World} {B:Around} {a I:Addr} {es:Array (Int×Value)} {t:SetTable} {ep n:Nat} {ord:List Value}
end
section
variable {P:Program} {w:World} {A:Around} {E:Value->Shared->Prop} {s:Shared} {a:Addr} {l:List (Str×Tok)}
end
end L2
end
section
namespace L2
open PySem PySem.Spec PyProof.Rows
section
variable {P:Program} {w:World} {A:Around} {E:Value->Shared->Prop} {s:Shared} {a:Addr} {l:List (Str×Tok)}
end
theorem Inv.same {X:Cx} {pins:List (Addr×Obj)} {σ:List (Option V)} {H:Hp} {s s':Shared} (I:Inv X pins σ H s) (hh:s'.heap=s.heap) (hg:s'.gens=s.gens) (ho:s'.os=s.os):Inv X pins σ H s':=
 ⟨I.ok,by rw [ho];exact I.os,by rw [hg];exact I.bare,by rw [hh];exact I.base,by rw [hh];exact I.loc,by rw [hh];exact I.cell,I.free,I.freeC,by rw [hh];exact I.pin,by rw [hh];exact I.hok,I.len⟩
def TxS (w:World) (p:Addr) (ss:List Str):HO:=.ext fun h=>∃l,SetT w h p l/\∀z,z∈l.map (·.1)↔z∈ss
section
variable {X:Cx}
end
end L2
end
section
namespace L2
open PySem PySem.Spec PyProof.Rows
theorem tyV_str (K:PySem.W.Frag) (z:Str) (H:Hp):tyV K "str" (.str z) H=True:=eq_true rfl
theorem nodup_le {α:Type} [DecidableEq α]:∀{l r:List α},l.Nodup->(∀x∈l,x∈r)->l.length<=r.length
 | [],_,_,_=>Nat.zero_le _
 | x::l,r,hn,hs=>by
  have hx:=hs x List.mem_cons_self
  have hn':=List.nodup_cons.mp hn
  have:=nodup_le (l:=l) (r:=r.erase x) hn'.2 fun y hy=>(List.mem_erase_of_ne (fun e:y=x=>hn'.1 (by rw [<-e];exact hy))).mpr (hs y (List.mem_cons_of_mem _ hy))
  rw [List.length_erase_of_mem hx] at this
  have h0:0 < r.length:=List.length_pos_of_mem hx
  rw [List.length_cons];lia
end L2
end
section
namespace L2
open PySem PySem.Spec PyProof.Rows
section
variable {X:Cx}
def qSetS (w:World):List V->Hp->VK->Prop:=fun vs H Q=>∃a,vs=[.ref a]/\∃ss:List Str,H a=some (.lst (ss.map V.str))/\ss.length < 4000/\∀p,H p=none->Q (.ref p) (upd H p (TxS w p ss))
def qSortSet (w:World):List V->Hp->VK->Prop:=fun vs H Q=>∃a,vs=[.ref a]/\∃ss:List Str,H a=some (TxS w a ss)/\ss.length < 64/\
 ∀ss':List Str,(∀z,z∈ss'↔z∈ss)->ss'.Nodup->sortedS ss'=true->∀p,H p=none->Q (.ref p) (upd H p (.lst (ss'.map V.str)))
def qAllB:List V->Hp->VK->Prop:=fun vs H Q=>∃a,vs=[.ref a]/\∃bs:List Bool,H a=some (.lst (bs.map V.bl))/\Q (.bl (bs.all id)) H
theorem bools_at:∀{bs:List Bool} {us:List Value},Vals (bs.map V.bl) us->∀(i:Nat) (v:Value),us[i]? = some v->v=.bool (bs.getD i true):=by
 intro bs
 induction bs with
 | nil=>intro us r i v h;cases r;cases i <;> cases h
 | cons b bs ih=>
  intro us r i v h
  rw [List.map_cons] at r
  cases r with
  | cons r1 r2=>
   cases r1
   cases i with
   | zero=>cases h;rfl
   | succ i=>exact ih r2 i v (by simpa using h)
theorem all_range:∀(bs:List Bool),((List.range bs.length).all fun i=>bs.getD i true)=bs.all id
 | []=>rfl
 | b::bs=>by
  rw [List.length_cons,List.range_succ_eq_map,List.all_cons,List.all_map,List.all_cons,<-all_range bs]
  rfl
theorem call_allB (hh:X.A.handled=none):CallR X (.builtin "all") qAllB:=by
 intro pins s σ H vs us Q I rv h
 obtain ⟨a,rfl,bs,hq,q⟩:=h
 obtain ⟨u,rfl,ru⟩:=vals1 rv
 cases ru
 obtain ⟨its,r,pl,hz⟩:=I.list (sqL_of hq)
 have hl:=r.length
 rw [List.length_map] at hl
 have lt:a < s.heap.objs.size:=let ⟨_,e,_⟩:=pl.isList;Heap.lt_size e
 refine call_all_walkS (wpAny_pyIter_list pl.isList ⟨s.heap.objs.size,_,_,_,its.toArray.size,_,_,fun i=>bs.getD i true,rfl,(Walks.list (A:=X.A.in1) hh _ a (Nat.ne_of_lt lt) its.toArray).toS,⟨⟨_,Heap.get?_push_size _ rfl,rfl,rfl⟩,(pl.isList).push _⟩,?_,fun s' mv=>?_⟩)
 ·intro i v s1 Q1 E1 hv hq1
  have:v=.bool (bs.getD i true):=bools_at r i v (by simpa using hv)
  subst this
  exact wpAny_pure hq1
 ·rw [List.size_toArray,<-hl,all_range]
  have k:∀b o,s.heap.get? b=some o->s'.heap.get? b=some o:=fun b o e=>mv.heap b o (fun z=>absurd (Heap.lt_size e) (by rw [List.mem_singleton.mp z];exact Nat.lt_irrefl _)) (Heap.get?_push_of_some _ e)
  have I1:Inv X pins σ H { s with heap:=s'.heap,toks:=s.toks }:=I.un (Un.kept k) (I.hok.kept k)
  exact ⟨.bl (bs.all id),H,I1.same rfl mv.gens mv.os,rfl,q⟩
end
end L2
end
section
namespace L2
open PySem PySem.Spec PyProof.Rows
section
variable {P:Program} {w:World} {κ:Type} [DecidableEq κ] {knd:PySem.KeyKind P w κ} {A:Around} {E:Value->Shared->Prop} {s:Shared} {a b:Addr} {kvs kvs2:List (κ×Value)}
end
section
variable {X:Cx}
def qEqD (neg:Bool):R2:=fun x y H Q=>∃a b,x=.ref a/\y=.ref b/\∃kvs,H a=some (.dK kvs)/\H b=some (.dK kvs)/\(∀kv∈kvs,∃c,kv.2=.bl c)/\Q (.bl (!neg)) H
def rUpdateD:V->List V->Hp->VK->Prop:=fun x vs H Q=>∃a b,x=.ref a/\vs=[.ref b]/\a≠b/\∃kvs,H a=some (.dK kvs)/\∃more,H b=some (.dK more)/\kvs.length+more.length<=sizeLine/\Q .non (upd H a (.dK (mergeK kvs more)))
end
end L2
end
section
namespace L2
open PySem PySem.Spec PyProof.Rows
section
variable {X:Cx} {pins:List (Addr×Obj)} {s:Shared} {σ:St} {H:Hp} {A:Around}
theorem vals_at {xs:List V} {us:List Value} {j:Nat} {x:V} (r:Vals xs us) (h:j < us.toArray.size) (e:xs[j]? = some x):RelV x us.toArray[j]:=by
 have h':j < us.length:=by simpa using h
 obtain ⟨u,eu,ru⟩:=r.get e
 have:=List.getElem?_eq_getElem h'
 rw [eu] at this
 have e1:us.toArray[j]=u:=by simpa using (Option.some.inj this).symm
 rw [e1];exact ru
end
end L2
end
section
namespace L2
open PySem PySem.Spec PyProof.Rows
section
variable {P:Program} {w:World} {A:Around} {E:Value->Shared->Prop} {s:Shared}
theorem collect_src {T:String} {r d:Addr} {n:Nat} {Pd:Nat->Value->Prop} {OK:Heap->Prop} {Q:List Value->Shared->Prop} (K:PySem.W.KdlSrc P w T r d n Pd OK) (hh:A.handled=none) (hok:OK s.heap) (hn:n<=sizeLine)
  (q:∀(s':Shared) (vs:List Value),(∀b o,s.heap.get? b=some o->s'.heap.get? b=some o)->s.heap.objs.size<=s'.heap.objs.size->s'.gens=s.gens->s'.os=s.os->vs.length=n->(∀(j:Nat) v,vs[j]? = some v->Pd j v)->Q vs s'):wpAny (model P w) A (collect (.ref r)) Q E s:=by
 have lt:=K.there _ hok
 unfold collect
 refine wpAny_bind (wpAny_runValue (codeAny_builtin entry_proto_collect' ?_))
 rw [Around.under_plainId PySem.F.plain_proto_collect _]
 refine wpAny_bind (m:=newList []) (wpAny_newObj_type ?_)
 refine wpAny_pure ⟨plainId_quiet PySem.F.plain_list_iadd _,codeAny_builtin entry_list_iadd' ?_⟩
 rw [Around.under_plainId PySem.F.plain_list_iadd _]
 let L0:Obj:={ cls:=.type "list",data:=.seq ([]:List Value).toArray }
 have k0:∀b o,s.heap.get? b=some o->(s.heap.push L0).get? b=some o:=fun b o e=>Heap.get?_push_of_some _ e
 have hL:(s.heap.push L0).get? s.heap.objs.size=some L0:=Heap.get?_push_size _ rfl
 show wpAny _ A.in1 (Builtin.List.listExtendWith (.ref s.heap.objs.size) (.ref r) (.ref s.heap.objs.size)) _ _ { s with heap:=s.heap.push L0 }
 let R0:Result->Shared->Prop:=fun r s'=>match r with
  | .ok (.ret v)=>wpAny (model P w) A (match v with
   | .ref a=>do
    let o <-load a
    match o.data with
     | .seq xs _=>pure xs.toList
     | _=>unsupported "internal:collect"
   | _=>unsupported "internal:collect") Q E s'
  | .ok _=>False
  | .error e=>E e s'
 refine PySem.W.kdl_extend (R:=R0) (s:={ s with heap:=s.heap.push L0 }) K hh (K.keep _ _ hok fun b _ o e=>k0 b o e) s.heap.objs.size (Nat.ne_of_gt lt.1) (Nat.ne_of_gt lt.2) _ 0 hL (fun h' tk acc c hk hS hacc=>?_) hn
 refine wpAny_bind (m:=load s.heap.objs.size) (wpAny_load hS (wpAny_pure ?_))
 exact q _ acc.toList (fun b o e=>hk b o (Nat.ne_of_lt (Heap.lt_size e)) (k0 b o e)) (Nat.le_of_lt (Heap.lt_size hS)) rfl rfl (by rw [Array.length_toList];exact hacc.1) fun j v e=>hacc.2 j v (by rw [<-Array.getElem?_toList];exact e)
end
section
variable {X:Cx}
end
end L2
end
section
namespace L2
open PySem PySem.Spec PyProof.Rows
section
variable {X:Cx} {tg:Expr}
end
section
variable {X:Cx}
end
end L2
end
section
namespace L2
open PySem PySem.Spec PyProof.Rows
theorem compAll_tup {K:PySem.W.Frag} {a:Addr} {zs:List V} {idx:List Nat} {tt:CB->TT} {te:CB->TE} {σ:St} {Q:VK} {H1:Hp} (Pv:Addr->Nat->List V->Hp->Prop) (h0:∀D,H1 D=none->Pv D 0 [] (upd H1 D (.lst [])))
  (hl:∀D,H1 D=none->∀i ys H,i<=zs.length->Pv D i ys H->H a=some (.tup zs))
  (hs:∀D,H1 D=none->∀i x ys H,zs[i]? = some x->Pv D i ys H->∀(c:CB),tt c (some x::subS σ idx) H fun b H4=>if b=true then te c (some x::subS σ idx) H4 fun y H5=>H5 D=some (.lst ys)/\ys.length < sizeLine/\Pv D (i+1) (ys++[y]) (upd H5 D (.lst (ys++[y]))) else Pv D (i+1) ys H4)
  (hd:∀D,H1 D=none->∀ys H,Pv D zs.length ys H->Q (.ref D) H):CompAll (Itt K a) 1 idx (fun _=>gName 0) tt te σ Q H1:=by
 intro D hD
 refine ⟨fun i m ys H=>m=zs.length - i/\i<=zs.length/\Pv D i ys H,⟨zs.length,by simp,Nat.zero_le _,h0 D hD⟩,?_⟩
 rintro i m ys H ⟨rfl,hi,p⟩
 by_cases hlt:i < zs.length
 ·refine .inr ⟨⟨zs,zs[i],sqT_of (hl D hD i ys H hi p),List.getElem?_eq_getElem hlt⟩,Pv D (i+1),fun ys' H' p'=>⟨zs.length - (i+1),by omega,rfl,hlt,p'⟩,fun c own ho y H' yl=>?_⟩
  obtain ⟨e,hy⟩:=yl
  subst e
  have ey:=hy zs (sqT_of (hl D hD i ys H' hi p))
  show (∃own',own'.length=1/\(own++subS σ idx).set 0 _=own'++subS σ idx)/\tt c ((own++subS σ idx).set 0 _) H' _
  rw [own1 ho]
  exact ⟨⟨[_],rfl,rfl⟩,hs D hD i y ys H' ey p c⟩
 ·have e:i=zs.length:=by omega
  subst e
  exact .inl ⟨⟨zs,sqT_of (hl D hD _ ys H hi p),Nat.le_refl _⟩,hd D hD ys H p⟩
section
variable {X:Cx}
end
end L2
end
section
namespace L2
open PySem PySem.Spec PyProof.Rows
section
variable {X:Cx}
def qIsB (neg:Bool):R2:=fun x y H Q=>∃c d,x=.bl c/\y=.bl d/\Q (.bl (if neg then c != d else c == d)) H
theorem op_notB:OpR X (compareOp .IsNot) (qIsB true):=by
 intro pins s σ H x y v u Q I rx ry h
 obtain ⟨c,d,rfl,rfl,q⟩:=h
 cases rx;cases ry
 exact isnot_bool ⟨.bl _,H,I,rfl,q⟩
end
end L2
end
section
namespace L2
open PySem PySem.Spec PyProof.Rows
section
variable {X:Cx}
theorem cat_tup0 {prog:Program} {w:World} {A:Around} {E:Value->Shared->Prop} {s:Shared} {t b:Addr} {ws:List Value} {Q:Value->Shared->Prop} (ht:IsTup s.heap t (([]:List Value)).toArray) (hb:IsTup s.heap b ws.toArray)
  (h1:Q (.ref b) s):wpAny (model prog w) A (binaryOp .Add (.ref t) (.ref b)) Q E s:=by
 obtain ⟨⟨cls,dd,data,sl⟩,ho,hc,n,hd⟩:=id ht
 obtain ⟨⟨cls2,dd2,data2,sl2⟩,ho2,hc2,n2,hd2⟩:=id hb
 simp only at hc hd hc2 hd2
 subst hc hd hc2 hd2
 exact concat_meets ⟨_,ho,rfl⟩ ⟨_,ho2,rfl⟩ noFill_tuple_add seq_tuple_add PySem.F.slot_tuple_add PySem.F.entry_tuple_add (PySem.F.args_tuple_add_2 _ _)
   (tuple_addW0 t b _ ws.toArray n n2 dd dd2 sl sl2 rfl) ⟨ho,ho2,h1⟩
def qCatT:R2:=fun x y H Q=>∃a b,x=.ref a/\y=.ref b/\∃xs,H a=some (.tup xs)/\∃ys,H b=some (.tup ys)/\xs.length+ys.length<=sizeLine/\
 ∀p H',Same H H'->(∀c,c≠p->H' c=H c)->H' p=some (.tup (xs++ys))->Q (.ref p) H'
theorem op_catTQ:OpR X (binaryOp .Add) qCatT:=by
 intro pins s σ H x y v u Q I rx ry h
 obtain ⟨a,b,rfl,rfl,xs,ha,ys,hb,hz,q⟩:=h
 by_cases hx:xs=[]
 ·subst hx
  cases rx;cases ry
  obtain ⟨its,r1,p1,_⟩:=I.tuple (sqT_of ha)
  obtain ⟨its2,r2,p2,_⟩:=I.tuple (sqT_of hb)
  cases r1
  exact cat_tup0 p1 p2 ⟨.ref b,H,I,rfl,q b H (Same.refl H) (fun _ _=>rfl) hb⟩
 ·exact op_catT pins s σ H _ _ v u Q I rx ry ⟨a,b,xs,ys,rfl,rfl,sqT_of ha,sqT_of hb,hx,hz,fun e=>q a H (Same.refl H) (fun _ _=>rfl) (by rw [e,List.append_nil];exact ha),fun _ p hp=>q p _ (fun b u e=>by rw [upd_ne (ne_of_none e hp)];exact e) (fun c hc=>upd_ne hc) upd_same⟩
end
end L2
end
section
namespace L2
open PySem PySem.Spec PyProof.Rows
section
variable {X:Cx}
def Itst (lo st:Int) (n:Nat):It:=⟨fun i _=>i < n,fun i H x H'=>H'=H/\x=.int (lo+i * st),fun i _=>n<=i⟩
def iRng3 (ta:TA):TI:=fun σ H R=>ta σ H fun vs H1=>∃i j:Int,vs=[.int i,.int j,.int 2]/\(0<=i/\i<=1000/\-1<=j/\j<=1000)/\R (Itst i 2 ((j - i+1) / 2).toNat) H1
end
end L2
end
section
namespace L2
open PySem PySem.Spec PyProof.Rows Builtin Builtin.Str
section
variable {X:Cx}
end
end L2
end
section
namespace L2
open PySem PySem.W PyProof.Rows
structure Ord (b:Nat->Nat->Bool) (n:Nat):Prop where
 tr:∀i j k,i < n->j < n->k < n->b i j=true->b j k=true->b i k=true
 asy:∀i j,i < n->j < n->b i j=true->b j i=false
 tot:∀i j,i < n->j < n->i≠j->b i j=true\/b j i=true
abbrev at0 (p:Array Nat) (i:Nat):Nat:=p.getD i 0
structure Prm (p:Array Nat) (n:Nat):Prop where
 perm:p.Perm (List.range n).toArray
theorem Prm.size {p:Array Nat} {n:Nat} (h:Prm p n):p.size=n:=by rw [h.perm.size_eq];simp
theorem Prm.lt {p:Array Nat} {n:Nat} (h:Prm p n) (hn:0 < n) (i:Nat):at0 p i < n:=by
 unfold at0
 rw [Array.getD_eq_getD_getElem?]
 by_cases hi:i < p.size
 ·rw [Array.getElem?_eq_getElem hi]
  have:=(h.perm.mem_iff (a:=p[i])).mp (Array.getElem_mem hi)
  simpa using this
 ·rw [Array.getElem?_eq_none (by lia)]
  exact hn
theorem Prm.ne {p:Array Nat} {n:Nat} (h:Prm p n) {i j:Nat} (hi:i < n) (hj:j < n) (d:i≠j):at0 p i≠at0 p j:=by
 have nd:p.toList.Nodup:=(Array.perm_iff_toList_perm.mp h.perm).nodup_iff.mpr (by simpa using List.nodup_range)
 have hs:=h.size
 intro e
 unfold at0 at e
 rw [Array.getD_eq_getD_getElem?,Array.getD_eq_getD_getElem?,Array.getElem?_eq_getElem (by lia:i < p.size),Array.getElem?_eq_getElem (by lia:j < p.size)] at e
 have e':p.toList[i]'(by simpa using by lia)=p.toList[j]'(by simpa using by lia):=by simpa using e
 exact d ((List.getElem_inj nd).mp e')
def Asc (b:Nat->Nat->Bool) (p:Array Nat) (m:Nat):Prop:=∀i,i+1 < m->b (at0 p i) (at0 p (i+1))=true
section
variable {b:Nat->Nat->Bool} {n:Nat}
theorem Asc.all (O:Ord b n) {p:Array Nat} (h:Prm p n) (hn:0 < n) {m:Nat} (a:Asc b p m) (hm:m<=n):∀d i,i+(d+1) < m->b (at0 p i) (at0 p (i+(d+1)))=true
 | 0,i,hi=>a i hi
 | d+1,i,hi=>O.tr _ _ _ (h.lt hn _) (h.lt hn _) (h.lt hn _) (Asc.all O h hn a hm d i (by lia)) (a (i+(d+1)) hi)
theorem Asc.lt (O:Ord b n) {p:Array Nat} (h:Prm p n) (hn:0 < n) {m:Nat} (a:Asc b p m) (hm:m<=n) {i j:Nat} (hij:i < j) (hj:j < m):b (at0 p i) (at0 p j)=true:=by
 have:=Asc.all O h hn a hm (j - i - 1) i (by lia)
 rwa [show i+(j - i - 1+1)=j by lia] at this
end
end L2
end
section
namespace L2
open PySem PySem.W PyProof.Rows
def gal:Bool->Keyed->Array Keyed->Nat->Nat->Nat->StateT SortSt Sem (Option Nat):=sortPriv% PySem.Builtin.gallop
def mLo:Array Keyed->Array Keyed->StateT SortSt Sem (Array Keyed):=sortPriv% PySem.Builtin.mergeLo
def mHi:Array Keyed->Array Keyed->StateT SortSt Sem (Array Keyed):=sortPriv% PySem.Builtin.mergeHi
abbrev setGal (st:SortSt) (g:Nat):SortSt:=SortSt.mk' (kindOf st) (arrOf st) (pendingOf st) g (failedOf st)
def ahd (lf:Bool) (ky:Keyed) (xs:Array Keyed) (bs i:Nat):StateT SortSt Sem (Option Bool):=do
 let z <-elem' xs (bs+i)
 if lf then lt' z ky else return (<-lt' ky z).map (!·)
theorem gal_eq (lf:Bool) (ky:Keyed) (xs:Array Keyed) (bs m ht:Nat):gal lf ky xs bs m ht=(do
 let mut lst:=0
 let mut of:=1
 let mut l:=0
 let mut h:=0
 let some rgt <-ahd lf ky xs bs ht | return none
 if rgt then
  let mx:=m - ht
  for _ in [0:m] do
   if of>=mx then break
   let some mo <-ahd lf ky xs bs (ht+of) | return none
   if !mo then break
   lst:=of
   of:=2 * of+1
  l:=ht+lst+1
  h:=ht+min of mx
 else
  let mx:=ht+1
  for _ in [0:m] do
   if of>=mx then break
   let some fd <-ahd lf ky xs bs (ht - of) | return none
   if fd then break
   lst:=of
   of:=2 * of+1
  l:=ht+1 - min of mx
  h:=ht - lst
 for _ in [0:m] do
  if l>=h then break
  let c:=l+(h - l) / 2
  let some mo <-ahd lf ky xs bs c | return none
  if mo then l:=c+1 else h:=c
 return some h):=rfl
theorem mLo_eq (a b:Array Keyed):mLo a b=(do
 rule "list.sort.merge-lo"
 let tot:=a.size+b.size
 let fin (o:Array Keyed) (x y:Nat):=o++a.extract x a.size++b.extract y b.size
 let laA (o:Array Keyed) (x y:Nat):=o++b.extract y b.size++a.extract x a.size
 let mut o:Array Keyed:=#[<-elem' b 0]
 let mut x:=0
 let mut y:=1
 if y == b.size then return fin o x y
 if x+1 == a.size then return laA o x y
 let mut mg:=gallopOf (<-get)
 for _ in [0:tot] do
  let mut na:=0
  let mut nb:=0
  for _ in [0:tot] do
   let some bw <-lt' (<-elem' b y) (<-elem' a x) | return fin o x y
   if bw then
    o:=o.push (<-elem' b y);y:=y+1;nb:=nb+1;na:=0
    if y == b.size then return fin o x y
    if nb>=mg then break
   else
    o:=o.push (<-elem' a x);x:=x+1;na:=na+1;nb:=0
    if x+1 == a.size then return laA o x y
    if na>=mg then break
  rule "list.sort.gallop"
  mg:=mg+1
  for _ in [0:tot] do
   if mg > 1 then mg:=mg - 1
   modify fun st=>setGal st mg
   let some k <-gal false (<-elem' b y) a x (a.size - x) 0 | return fin o x y
   na:=k
   if k > 0 then
    o:=o++a.extract x (x+k);x:=x+k
    if x+1 == a.size then return laA o x y
    if x == a.size then return fin o x y
   o:=o.push (<-elem' b y);y:=y+1
   if y == b.size then return fin o x y
   let some k <-gal true (<-elem' a x) b y (b.size - y) 0 | return fin o x y
   nb:=k
   if k > 0 then
    o:=o++b.extract y (y+k);y:=y+k
    if y == b.size then return fin o x y
   o:=o.push (<-elem' a x);x:=x+1
   if x+1 == a.size then return laA o x y
   if na < 7 && nb < 7 then break
  mg:=mg+1
  modify fun st=>setGal st mg
 unsupported "internal:list.sort.merge-bound"):=rfl
theorem mHi_eq (a b:Array Keyed):mHi a b=(do
 rule "list.sort.merge-hi"
 let tot:=a.size+b.size
 let fin (o:Array Keyed) (x y:Nat):=a.extract 0 x++b.extract 0 y++o.reverse
 let fiB (o:Array Keyed) (x y:Nat):=b.extract 0 y++a.extract 0 x++o.reverse
 let mut x:=a.size - 1
 let mut y:=b.size
 let mut o:Array Keyed:=#[<-elem' a x]
 if x == 0 then return fin o x y
 if y == 1 then return fiB o x y
 let mut mg:=gallopOf (<-get)
 for _ in [0:tot] do
  let mut na:=0
  let mut nb:=0
  for _ in [0:tot] do
   let some aw <-lt' (<-elem' b (y - 1)) (<-elem' a (x - 1)) | return fin o x y
   if aw then
    x:=x - 1;o:=o.push (<-elem' a x);na:=na+1;nb:=0
    if x == 0 then return fin o x y
    if na>=mg then break
   else
    y:=y - 1;o:=o.push (<-elem' b y);nb:=nb+1;na:=0
    if y == 1 then return fiB o x y
    if nb>=mg then break
  rule "list.sort.gallop"
  mg:=mg+1
  for _ in [0:tot] do
   if mg > 1 then mg:=mg - 1
   modify fun st=>setGal st mg
   let some e <-gal false (<-elem' b (y - 1)) a 0 x (x - 1) | return fin o x y
   let k:=x - e
   na:=k
   if k > 0 then
    o:=o++(a.extract e x).reverse;x:=e
    if x == 0 then return fin o x y
   y:=y - 1;o:=o.push (<-elem' b y)
   if y == 1 then return fiB o x y
   let some e <-gal true (<-elem' a (x - 1)) b 0 y (y - 1) | return fin o x y
   let k:=y - e
   nb:=k
   if k > 0 then
    o:=o++(b.extract e y).reverse;y:=e
    if y == 1 then return fiB o x y
    if y == 0 then return fin o x y
   x:=x - 1;o:=o.push (<-elem' a x)
   if x == 0 then return fin o x y
   if na < 7 && nb < 7 then break
  mg:=mg+1
  modify fun st=>setGal st mg
 unsupported "internal:list.sort.merge-bound"):=rfl
theorem mAt_eq (i:Nat):mergeAt' i=(do
 let st <-get
 let (some (sa,na,pw),some (sb,nb,_)):=((pendingOf st)[i]?,(pendingOf st)[i+1]?) | unsupported "internal:list.sort.pending"
 set (setPending st (((pendingOf st).setIfInBounds i (sa,na+nb,pw)).eraseIdxIfInBounds (i+1)))
 let some k <-gal false (<-elem' (arrOf st) sb) (arrOf st) sa na 0 | return false
 let (sa,na):=(sa+k,na - k)
 if na == 0 then return true
 let some nb <-gal true (<-elem' (arrOf st) (sa+na - 1)) (arrOf st) sb nb (nb - 1) | return false
 if nb == 0 then return true
 let x:=(arrOf st).extract sa sb
 let y:=(arrOf st).extract sb (sb+nb)
 let mgd <-if na<=nb then mLo x y else mHi x y
 modify fun st=>setArr st (mgd.toList.zipIdx.foldl (fun a (p,j)=>a.setIfInBounds (sa+j) p) (arrOf st))
 return (failedOf (<-get)).isNone):=rfl
end L2
end
section
namespace L2
open PySem PySem.W PyProof.Rows
section
variable {prog:Program} {w:World} {A:Around} {E:Value->Shared->Prop} {s:Shared} {κ:SortKind} {r:Keyed->Int} {U:Keyed->Prop}
def Cmp (prog:Program) (w:World) (A:Around) (s:Shared) (κ:SortKind) (r:Keyed->Int) (U:Keyed->Prop):Prop:=
 ∀x y (Q:Bool->Shared->Prop),U x->U y->Q (decide (r x < r y)) s->wpAny (model prog w) A (keyLt' κ x.1 y.1) Q (fun _ _=>False) s
theorem s_lt (C:Cmp prog w A s κ r U) {x y:Keyed} {Q:Option Bool->SortSt->Prop} {st:SortSt} (hx:U x) (hy:U y) (hk:kindOf st=κ) (h:Q (some (decide (r x < r y))) st):wpS (model prog w) A E s (lt' x y) Q st:=by
 rw [lt'_eq]
 refine wpS_bind (wpS_get ?_)
 rw [hk]
 refine wpS_bind (wpS_lift (wpAny_attempt (wpAny_mono (C x y (fun b s'=>s'=s/\b=decide (r x < r y)) hx hy ⟨rfl,rfl⟩) (fun b s' h'=>?_) fun _ _ hF=>hF.elim)))
 obtain ⟨rfl,rfl⟩:=h'
 exact ⟨rfl,wpS_pure h⟩
theorem s_elem {xs:Array Keyed} {i:Nat} {Q:Keyed->SortSt->Prop} {st:SortSt} (hi:i < xs.size) (h:Q xs[i] st):wpS (model prog w) A E s (elem' xs i) Q st:=by
 rw [elem'_eq,Array.getElem?_eq_getElem hi]
 exact wpS_pure h
def isA (r:Keyed->Int) (lf:Bool) (ky z:Keyed):Bool:=if lf then decide (r z < r ky) else decide (r z<=r ky)
theorem s_ahd (C:Cmp prog w A s κ r U) {lf:Bool} {ky:Keyed} {xs:Array Keyed} {bs i:Nat} {Q:Option Bool->SortSt->Prop} {st:SortSt} (hi:bs+i < xs.size) (hU:∀z∈xs,U z) (hy:U ky) (hk:kindOf st=κ) (h:Q (some (isA r lf ky xs[bs+i])) st) :
  wpS (model prog w) A E s (ahd lf ky xs bs i) Q st:=by
 unfold ahd
 refine wpS_bind (s_elem hi ?_)
 have hu:=hU _ (Array.getElem_mem hi)
 unfold isA at h
 cases lf with
 | true=>exact s_lt C hu hy hk h
 | false=>
  simp only [Bool.false_eq_true,if_false] at h ⊢
  refine wpS_bind (s_lt C hy hu hk (wpS_pure ?_))
  have e:(!decide (r ky < r xs[bs+i]))=decide (r xs[bs+i]<=r ky):=by
   rw [Bool.eq_iff_iff];simp
  show Q (some (!decide (r ky < r xs[bs+i]))) st
  rw [e];exact h
theorem s_gal (C:Cmp prog w A s κ r U) {lf:Bool} {ky:Keyed} {xs:Array Keyed} {bs m ht:Nat} {Q:Option Nat->SortSt->Prop} {st:SortSt} (hm:bs+m<=xs.size) (hh:ht < m) (hU:∀z∈xs,U z) (hy:U ky) (hk:kindOf st=κ)
  (srt:∀i j (h1:i<=j) (h2:bs+j < xs.size),j < m->r (xs[bs+i]'(by lia))<=r xs[bs+j])
  (h:∀k,k<=m->(∀i,i < k->∀(h2:bs+i < xs.size),isA r lf ky xs[bs+i]=true)->(∀i,k<=i->i < m->∀(h2:bs+i < xs.size),isA r lf ky xs[bs+i]=false)->Q (some k) st) :
  wpS (model prog w) A E s (gal lf ky xs bs m ht) Q st:=by
 obtain ⟨f,hf⟩:∃f:Nat->Bool,∀i (h2:bs+i < xs.size),isA r lf ky xs[bs+i]=f i:=⟨fun i=>if h2:bs+i < xs.size then isA r lf ky xs[bs+i] else false,fun i h2=>by dsimp only;rw [dif_pos h2]⟩
 have mono:∀i j,i<=j->j < m->f j=true->f i=true:=fun i j hij hj e=>by
  have h2:bs+j < xs.size:=by lia
  rw [<-hf j h2] at e
  rw [<-hf i (by lia)]
  have:=srt i j hij h2 hj
  unfold isA at e ⊢
  cases lf <;> simp at e ⊢ <;> lia
 have monoF:∀i j,i<=j->j < m->f i=false->f j=false:=fun i j hij hj e=>by
  cases e':f j with
  | false=>rfl
  | true=>rw [mono i j hij hj e'] at e;cases e
 have h':∀k,k<=m->(∀i,i < k->f i=true)->(∀i,k<=i->i < m->f i=false)->Q (some k) st:=fun k hk1 h1 h2=>
  h k hk1 (fun i hi hb=>by rw [hf];exact h1 i hi) (fun i hi him hb=>by rw [hf];exact h2 i hi him)
 have ask:∀i (Q':Option Bool->SortSt->Prop),i < m->Q' (some (f i)) st->wpS (model prog w) A E s (ahd lf ky xs bs i) Q' st:=fun i Q' hi q=>by
  have h2:bs+i < xs.size:=by lia
  exact s_ahd C h2 hU hy hk (by rw [hf i h2];exact q)
 rw [gal_eq]
 refine wpS_bind (ask ht _ hh ?_)
 cases hr:f ht with
 | true=>
  simp only [if_true]
  refine wpS_bind (wpS_mono (wpS_forRange (I:=fun x c st'=>st'=st/\∃la of,c=(none,la,of)/\la < of/\ht+la < m/\x+1<=of/\f (ht+la)=true)
   (Q:=fun c st'=>st'=st/\∃la of,c=(none,la,of)/\la < of/\ht+la < m/\f (ht+la)=true/\(of>=m - ht\/f (ht+of)=false)) ?step ?fin ⟨rfl,0,1,rfl,by lia,by lia,by lia,hr⟩) ?post)
  case post=>
   intro c σ0 hI2
   refine hide fun gG hG=>?_
   obtain ⟨rfl,la,of,rfl,a1,a2,a3,a4⟩:=hI2
   refine hG ?_
   have hl1:ht+la+1<=ht+min of (m - ht):=by lia
   have hl2:ht+min of (m - ht)<=m:=by lia
   have hl3:∀i,i < ht+la+1->f i=true:=fun i hi=>mono i _ (by lia) a2 a3
   have hl4:∀i,ht+min of (m - ht)<=i->i < m->f i=false:=fun i hi him=>a4.elim (fun a4=>by lia) fun a4=>monoF _ i (by lia) him a4
   dsimp only
   generalize ht+la+1=l0 at hl1 hl3 ⊢
   generalize ht+min of (m - ht)=h0 at hl1 hl2 hl4 ⊢
   refine wpS_bind (wpS_mono (wpS_forRange (I:=fun x c st'=>st'=σ0/\∃l hI,c=(none,l,hI)/\l<=hI/\hI<=m/\hI - l<=m - x/\(∀i,i < l->f i=true)/\(∀i,hI<=i->i < m->f i=false))
    (Q:=fun c st'=>st'=σ0/\∃hI l,c=(none,l,hI)/\hI<=m/\(∀i,i < hI->f i=true)/\(∀i,hI<=i->i < m->f i=false)) ?bstep ?bfin ⟨rfl,l0,h0,rfl,hl1,hl2,by lia,hl3,hl4⟩) ?bpost)
   case bpost=>
    intro c st' hI2
    refine hide fun gG hG=>?_
    obtain ⟨rfl,hI,l,rfl,a1,a2,a3⟩:=hI2
    refine hG ?_
    exact wpS_pure (h' hI a1 a2 a3)
   case bfin=>
    intro c st' hI2
    refine hide fun gG hG=>?_
    obtain ⟨rfl,l,hI,rfl,a1,a2,a3,a4,a5⟩:=hI2
    refine hG ?_
    have:l=hI:=by lia
    subst this
    exact ⟨rfl,l,l,rfl,a2,a4,a5⟩
   case bstep=>
    intro x c st' _ hx hI5
    refine hide fun gG hG=>?_
    obtain ⟨rfl,l,hI,rfl,a1,a2,a3,a4,a5⟩:=hI5
    refine hG ?_
    dsimp only
    by_cases hge:l>=hI
    ·rw [if_pos hge]
     have:l=hI:=by lia
     subst this
     exact wpS_pure ⟨rfl,l,l,rfl,a2,a4,a5⟩
    ·rw [if_neg hge]
     refine wpS_bind (ask _ _ (by lia) ?_)
     cases hc:f (l+(hI - l) / 2) with
     | true=>
      simp only [if_true]
      exact wpS_pure ⟨rfl,_,_,rfl,by lia,by lia,by lia,fun i hi=>mono i _ (by lia) (by lia) hc,a5⟩
     | false=>
      simp only [Bool.false_eq_true,if_false]
      exact wpS_pure ⟨rfl,_,_,rfl,by lia,by lia,by lia,a4,fun i hi him=>monoF _ i hi him hc⟩
  case fin=>
   intro c st' hI2
   refine hide fun gG hG=>?_
   obtain ⟨rfl,la,of,rfl,a1,a2,a3,a4⟩:=hI2
   refine hG ?_
   exact ⟨rfl,la,of,rfl,a1,a2,a4,.inl (by lia)⟩
  case step=>
   intro x c st' _ hx hI5
   refine hide fun gG hG=>?_
   obtain ⟨rfl,la,of,rfl,a1,a2,a3,a4⟩:=hI5
   refine hG ?_
   dsimp only
   by_cases hge:of>=m - ht
   ·rw [if_pos hge]
    exact wpS_pure ⟨rfl,la,of,rfl,a1,a2,a4,.inl hge⟩
   ·rw [if_neg hge]
    refine wpS_bind (ask _ _ (by lia) ?_)
    cases hc:f (ht+of) with
    | true=>
     simp only [Bool.not_true,Bool.false_eq_true,if_false]
     exact wpS_pure ⟨rfl,of,_,rfl,by lia,by lia,by lia,hc⟩
    | false=>
     simp only [Bool.not_false,if_true]
     exact wpS_pure ⟨rfl,la,of,rfl,a1,a2,a4,.inr hc⟩
 | false=>
  simp only [Bool.false_eq_true,if_false]
  refine wpS_bind (wpS_mono (wpS_forRange (I:=fun x c st'=>st'=st/\∃la of,c=(none,la,of)/\la < of/\la<=ht/\x+1<=of/\f (ht - la)=false)
   (Q:=fun c st'=>st'=st/\∃la of,c=(none,la,of)/\la < of/\la<=ht/\f (ht - la)=false/\(of>=ht+1\/f (ht - of)=true)) ?step ?fin ⟨rfl,0,1,rfl,by lia,by lia,by lia,hr⟩) ?post)
  case post=>
   intro c σ0 hI2
   refine hide fun gG hG=>?_
   obtain ⟨rfl,la,of,rfl,a1,a2,a3,a4⟩:=hI2
   refine hG ?_
   have hl1:ht+1 - min of (ht+1)<=ht - la:=by lia
   have hl2:ht - la<=m:=by lia
   have hl3:∀i,i < ht+1 - min of (ht+1)->f i=true:=fun i hi=>a4.elim (fun a4=>by lia) fun a4=>mono i _ (by lia) (by lia) a4
   have hl4:∀i,ht - la<=i->i < m->f i=false:=fun i hi him=>monoF _ i hi him a3
   dsimp only
   generalize ht+1 - min of (ht+1)=l0 at hl1 hl3 ⊢
   generalize ht - la=h0 at hl1 hl2 hl4 ⊢
   refine wpS_bind (wpS_mono (wpS_forRange (I:=fun x c st'=>st'=σ0/\∃l hI,c=(none,l,hI)/\l<=hI/\hI<=m/\hI - l<=m - x/\(∀i,i < l->f i=true)/\(∀i,hI<=i->i < m->f i=false))
    (Q:=fun c st'=>st'=σ0/\∃hI l,c=(none,l,hI)/\hI<=m/\(∀i,i < hI->f i=true)/\(∀i,hI<=i->i < m->f i=false)) ?bstep ?bfin ⟨rfl,l0,h0,rfl,hl1,hl2,by lia,hl3,hl4⟩) ?bpost)
   case bpost=>
    intro c st' hI2
    refine hide fun gG hG=>?_
    obtain ⟨rfl,hI,l,rfl,a1,a2,a3⟩:=hI2
    refine hG ?_
    exact wpS_pure (h' hI a1 a2 a3)
   case bfin=>
    intro c st' hI2
    refine hide fun gG hG=>?_
    obtain ⟨rfl,l,hI,rfl,a1,a2,a3,a4,a5⟩:=hI2
    refine hG ?_
    have:l=hI:=by lia
    subst this
    exact ⟨rfl,l,l,rfl,a2,a4,a5⟩
   case bstep=>
    intro x c st' _ hx hI5
    refine hide fun gG hG=>?_
    obtain ⟨rfl,l,hI,rfl,a1,a2,a3,a4,a5⟩:=hI5
    refine hG ?_
    dsimp only
    by_cases hge:l>=hI
    ·rw [if_pos hge]
     have:l=hI:=by lia
     subst this
     exact wpS_pure ⟨rfl,l,l,rfl,a2,a4,a5⟩
    ·rw [if_neg hge]
     refine wpS_bind (ask _ _ (by lia) ?_)
     cases hc:f (l+(hI - l) / 2) with
     | true=>
      simp only [if_true]
      exact wpS_pure ⟨rfl,_,_,rfl,by lia,by lia,by lia,fun i hi=>mono i _ (by lia) (by lia) hc,a5⟩
     | false=>
      simp only [Bool.false_eq_true,if_false]
      exact wpS_pure ⟨rfl,_,_,rfl,by lia,by lia,by lia,a4,fun i hi him=>monoF _ i hi him hc⟩
  case fin=>
   intro c st' hI2
   refine hide fun gG hG=>?_
   obtain ⟨rfl,la,of,rfl,a1,a2,a3,a4⟩:=hI2
   refine hG ?_
   exact ⟨rfl,la,of,rfl,a1,a2,a4,.inl (by lia)⟩
  case step=>
   intro x c st' _ hx hI5
   refine hide fun gG hG=>?_
   obtain ⟨rfl,la,of,rfl,a1,a2,a3,a4⟩:=hI5
   refine hG ?_
   dsimp only
   by_cases hge:of>=ht+1
   ·rw [if_pos hge]
    exact wpS_pure ⟨rfl,la,of,rfl,a1,a2,a4,.inl hge⟩
   ·rw [if_neg hge]
    refine wpS_bind (ask _ _ (by lia) ?_)
    cases hc:f (ht - of) with
    | true=>
     simp only [if_true]
     exact wpS_pure ⟨rfl,la,of,rfl,a1,a2,a4,.inr hc⟩
    | false=>
     simp only [Bool.false_eq_true,if_false]
     exact wpS_pure ⟨rfl,of,_,rfl,by lia,by lia,by lia,hc⟩
end
end L2
end
section
namespace L2
open PySem PySem.W PyProof.Rows
theorem wpS_ite {M:Model} {A:Around} {E:Value->Shared->Prop} {s:Shared} {σ α:Type} {c:Prop} [Decidable c] {m n:StateT σ Sem α} {Q:α->σ->Prop} {st:σ} (h1:c->wpS M A E s m Q st) (h2:¬c->wpS M A E s n Q st):wpS M A E s (if c then m else n) Q st:=by
 by_cases h:c
 ·rw [if_pos h];exact h1 h
 ·rw [if_neg h];exact h2 h
theorem share2 {α:Type} {P R:α->Nat->Prop} {G:Prop} (k:(∀o x,R o x->P o x)->G) (h:∀o x,R o x->P o x):G:=k h
theorem share {P:Nat->Prop} {G:Prop} (k:(∀g,P g)->G) (h:∀g,P g):G:=k h
def SrtL (r:Keyed->Int) (l:List Keyed):Prop:=l.Pairwise fun x y=>r x<=r y
structure MI (r:Keyed->Int) (tot o ra rb:List Keyed):Prop where
 perm:(o++(ra++rb)).Perm tot
 so:SrtL r o
 sa:SrtL r ra
 sb:SrtL r rb
 la:∀u∈o,∀v∈ra,r u<=r v
 lb:∀u∈o,∀v∈rb,r u<=r v
section
variable {r:Keyed->Int} {tot o ra rb p:List Keyed}
theorem MI.takeA (h:MI r tot o (p++ra) rb) (hp:∀u∈p,∀v∈rb,r u<=r v):MI r tot (o++p) ra rb:=by
 have sa:=List.pairwise_append.mp h.sa
 refine ⟨by simpa [List.append_assoc] using h.perm,List.pairwise_append.mpr ⟨h.so,sa.1,fun u hu v hv=>h.la u hu v (List.mem_append_left _ hv)⟩,sa.2.1,h.sb,fun u hu v hv=>?_,fun u hu v hv=>?_⟩
 ·rcases List.mem_append.mp hu with hu | hu
  ·exact h.la u hu v (List.mem_append_right _ hv)
  ·exact sa.2.2 u hu v hv
 ·rcases List.mem_append.mp hu with hu | hu
  ·exact h.lb u hu v hv
  ·exact hp u hu v hv
theorem MI.takeB (h:MI r tot o ra (p++rb)) (hp:∀u∈p,∀v∈ra,r u<=r v):MI r tot (o++p) ra rb:=by
 have sb:=List.pairwise_append.mp h.sb
 refine ⟨?_,List.pairwise_append.mpr ⟨h.so,sb.1,fun u hu v hv=>h.lb u hu v (List.mem_append_left _ hv)⟩,h.sa,sb.2.1,fun u hu v hv=>?_,fun u hu v hv=>?_⟩
 ·refine List.Perm.trans ?_ h.perm
  rw [List.append_assoc]
  refine List.Perm.append_left o ?_
  rw [<-List.append_assoc,<-List.append_assoc]
  exact List.Perm.append_right rb List.perm_append_comm
 ·rcases List.mem_append.mp hu with hu | hu
  ·exact h.la u hu v hv
  ·exact hp u hu v hv
 ·rcases List.mem_append.mp hu with hu | hu
  ·exact h.lb u hu v (List.mem_append_right _ hv)
  ·exact sb.2.2 u hu v hv
theorem MI.endA (h:MI r tot o ra []):(o++ra).Perm tot/\SrtL r (o++ra):=⟨by simpa using h.perm,List.pairwise_append.mpr ⟨h.so,h.sa,h.la⟩⟩
theorem MI.endB (h:MI r tot o [] rb):(o++rb).Perm tot/\SrtL r (o++rb):=⟨by simpa using h.perm,List.pairwise_append.mpr ⟨h.so,h.sb,h.lb⟩⟩
theorem MI.endL {z:Keyed} (h:MI r tot o [z] rb) (hz:∀v∈rb,r v<=r z):(o++rb++[z]).Perm tot/\SrtL r (o++rb++[z]):=by
 have h':=(MI.takeB (p:=rb) (rb:=[]) (by simpa using h) fun u hu v hv=>by rw [List.mem_singleton.mp hv];exact hz u hu).endA
 exact h'
end
section
variable {r:Keyed->Int} {a b o:Array Keyed} {x y k:Nat}
abbrev tot (a b:Array Keyed):List Keyed:=a.toList++b.toList
def Good (r:Keyed->Int) (a b R:Array Keyed):Prop:=R.toList.Perm (tot a b)/\SrtL r R.toList
abbrev MIa (r:Keyed->Int) (a b o:Array Keyed) (x y:Nat):Prop:=MI r (tot a b) o.toList (a.toList.drop x) (b.toList.drop y)
theorem ext_list (a:Array Keyed) (x n:Nat):(a.extract x n).toList=(a.toList.drop x).take (n - x):=by
 rw [Array.toList_extract]
theorem ext_all (a:Array Keyed) (x:Nat):(a.extract x a.size).toList=a.toList.drop x:=by
 rw [ext_list,<-Array.length_toList,<-List.length_drop]
 exact List.take_length
theorem drop_cut (l:List Keyed) (x k:Nat):l.drop x=(l.drop x).take k++l.drop (x+k):=by
 rw [<-List.drop_drop];exact (List.take_append_drop k _).symm
theorem drop_one (a:Array Keyed) {x:Nat} (h:x < a.size):a.toList.drop x=[a[x]]++a.toList.drop (x+1):=by
 rw [List.drop_eq_getElem_cons (by simpa using h)];simp
theorem mem_drop_at {a:Array Keyed} {x:Nat} {v:Keyed} (h:v∈a.toList.drop x):∃i,∃(hi:x+i < a.size),v=a[x+i]:=by
 obtain ⟨i,hi,e⟩:=List.mem_iff_getElem.mp h
 rw [List.length_drop,Array.length_toList] at hi
 refine ⟨i,by lia,?_⟩
 rw [<-e];simp
theorem mem_take_at {a:Array Keyed} {x k:Nat} {v:Keyed} (h:v∈(a.toList.drop x).take k):∃i,∃(hi:x+i < a.size),i < k/\v=a[x+i]:=by
 obtain ⟨i,hi,e⟩:=List.mem_iff_getElem.mp h
 rw [List.length_take,List.length_drop,Array.length_toList] at hi
 refine ⟨i,by lia,by lia,?_⟩
 rw [<-e];simp
theorem srt_at {a:Array Keyed} (s:SrtL r a.toList) {i j:Nat} (hij:i<=j) (hj:j < a.size):r (a[i]'(by lia))<=r a[j]:=by
 rcases Nat.lt_or_eq_of_le hij with h | h
 ·have:=(List.pairwise_iff_getElem.mp s) i j (by simpa using by lia) (by simpa using hj) h
  simpa using this
 ·subst h;exact Int.le_refl _
theorem MI.pushB (h:MIa r a b o x y) (hy:y < b.size) (hx:∀i,x<=i->∀(hi:i < a.size),r b[y]<=r a[i]):MIa r a b (o.push b[y]) x (y+1):=by
 have h':MI r (tot a b) o.toList (a.toList.drop x) ([b[y]]++b.toList.drop (y+1)):=by rw [<-drop_one b hy];exact h
 have:=h'.takeB fun u hu v hv=>by
  obtain ⟨i,hi,rfl⟩:=mem_drop_at hv
  rw [List.mem_singleton.mp hu]
  exact hx _ (by lia) hi
 show MI r (tot a b) (o.push b[y]).toList _ _
 rw [Array.toList_push];exact this
theorem MI.pushA (h:MIa r a b o x y) (hx:x < a.size) (hy:∀i,y<=i->∀(hi:i < b.size),r a[x]<=r b[i]):MIa r a b (o.push a[x]) (x+1) y:=by
 have h':MI r (tot a b) o.toList ([a[x]]++a.toList.drop (x+1)) (b.toList.drop y):=by rw [<-drop_one a hx];exact h
 have:=h'.takeA fun u hu v hv=>by
  obtain ⟨i,hi,rfl⟩:=mem_drop_at hv
  rw [List.mem_singleton.mp hu]
  exact hy _ (by lia) hi
 show MI r (tot a b) (o.push a[x]).toList _ _
 rw [Array.toList_push];exact this
theorem MI.moreA (h:MIa r a b o x y) (hp:∀i,i < k->∀(hi:x+i < a.size) j,y<=j->∀(hj:j < b.size),r a[x+i]<=r b[j]):MIa r a b (o++a.extract x (x+k)) (x+k) y:=by
 have h':MI r (tot a b) o.toList ((a.toList.drop x).take k++a.toList.drop (x+k)) (b.toList.drop y):=by rw [<-drop_cut];exact h
 have:=h'.takeA fun u hu v hv=>by
  refine hide fun gG hG=>?_
  obtain ⟨i,hi,hk,rfl⟩:=mem_take_at hu
  obtain ⟨j,hj,rfl⟩:=mem_drop_at hv
  refine hG ?_
  exact hp i hk hi _ (by lia) hj
 show MI r (tot a b) (o++a.extract x (x+k)).toList _ _
 rw [Array.toList_append,ext_list,Nat.add_sub_cancel_left]
 exact this
theorem MI.moreB (h:MIa r a b o x y) (hp:∀i,i < k->∀(hi:y+i < b.size) j,x<=j->∀(hj:j < a.size),r b[y+i]<=r a[j]):MIa r a b (o++b.extract y (y+k)) x (y+k):=by
 have h':MI r (tot a b) o.toList (a.toList.drop x) ((b.toList.drop y).take k++b.toList.drop (y+k)):=by rw [<-drop_cut];exact h
 have:=h'.takeB fun u hu v hv=>by
  refine hide fun gG hG=>?_
  obtain ⟨i,hi,hk,rfl⟩:=mem_take_at hu
  obtain ⟨j,hj,rfl⟩:=mem_drop_at hv
  refine hG ?_
  exact hp i hk hi _ (by lia) hj
 show MI r (tot a b) (o++b.extract y (y+k)).toList _ _
 rw [Array.toList_append,ext_list,Nat.add_sub_cancel_left]
 exact this
theorem MI.fin (h:MIa r a b o x y) (e:y=b.size\/x=a.size):Good r a b (o++a.extract x a.size++b.extract y b.size):=by
 unfold Good
 rw [Array.toList_append,Array.toList_append,ext_all,ext_all]
 rcases e with e | e
 ·have z:b.toList.drop y=[]:=List.drop_eq_nil_of_le (by simp [e])
  have h':MI r (tot a b) o.toList (a.toList.drop x) []:=by rw [<-z];exact h
  rw [z,List.append_nil];exact h'.endA
 ·have z:a.toList.drop x=[]:=List.drop_eq_nil_of_le (by simp [e])
  have h':MI r (tot a b) o.toList [] (b.toList.drop y):=by rw [<-z];exact h
  rw [z,List.append_nil];exact h'.endB
theorem MI.las (h:MIa r a b o x y) (e:x+1=a.size) (hl:∀v∈b,r v<=r (a[a.size - 1]'(by lia))):Good r a b (o++b.extract y b.size++a.extract x a.size):=by
 unfold Good
 rw [Array.toList_append,Array.toList_append,ext_all,ext_all]
 have z:a.toList.drop x=[a[a.size - 1]'(by lia)]:=by
  rw [drop_one a (by lia),List.drop_eq_nil_of_le (by simp;lia)]
  simp only [List.append_nil]
  congr 2
  lia
 have h':MI r (tot a b) o.toList [a[a.size - 1]'(by lia)] (b.toList.drop y):=by rw [<-z];exact h
 rw [z]
 exact h'.endL fun v hv=>hl v (by simpa using List.mem_of_mem_drop hv)
end
section
variable {prog:Program} {w:World} {A:Around} {E:Value->Shared->Prop} {s:Shared} {κ:SortKind} {r:Keyed->Int} {U:Keyed->Prop}
theorem s_mLo (C:Cmp prog w A s κ r U) {a b:Array Keyed} {Q:Array Keyed->SortSt->Prop} {st:SortSt} (hk:kindOf st=κ) (ha:∀z∈a,U z) (hb:∀z∈b,U z) (sa:SrtL r a.toList) (sb:SrtL r b.toList) (na:0 < a.size) (nb:0 < b.size)
  (h0:r b[0]<=r a[0]) (hl:∀v∈b,r v<=r (a[a.size - 1]'(by lia))) (h:∀R g,Good r a b R->Q R (setGal st g)):wpS (model prog w) A E s (mLo a b) Q st:=by
 rw [mLo_eq]
 refine wpS_bind (wpS_lift (wpAny_rule ⟨rfl,?_⟩))
 refine wpS_bind (s_elem nb ?_)
 try dsimp only
 have M0:MIa r a b #[b[0]] 0 1:=MI.pushB (o:=#[]) (x:=0) (y:=0) ⟨by simp,List.Pairwise.nil,by simpa using sa,by simpa using sb,by simp,by simp⟩ nb fun i _ hi=>by
  have:=srt_at sa (Nat.zero_le i) hi
  lia
 refine wpS_ite (fun hz=>?_) (fun hz=>?_)
 ·exact wpS_pure (h _ (gallopOf st) (M0.fin (.inl (by simpa using hz))))
 have hz1:=hz
 refine wpS_ite (fun hz=>?_) (fun hz=>?_)
 ·exact wpS_pure (h _ (gallopOf st) (M0.las (by simpa using hz) hl))
 have hz2:=hz
 have hz1':1≠b.size:=by simpa using hz1
 have hz2':0+1≠a.size:=by simpa using hz2
 clear h0 hz hz1 hz2
 refine wpS_bind (wpS_get ?_)
 refine wpS_bind (wpS_mono (wpS_forRange (I:=fun n c st'=>(∃g,st'=setGal st g)/\∃o x y mg,c=(none,o,x,y,mg)/\x+1 < a.size/\y < b.size/\MIa r a b o x y/\n+1<=x+y)
  (Q:=fun c st'=>(∃g,st'=setGal st g)/\∃R,c.1=some R/\Good r a b R) ?step ?fin ⟨⟨gallopOf st,rfl⟩,_,_,_,_,rfl,by lia,by lia,M0,by lia⟩) ?post)
 case post=>
  intro hI0 st' hI2
  refine hide fun gG hG=>?_
  obtain ⟨c1,c⟩:=hI0
  obtain ⟨⟨g,rfl⟩,R,rfl,hR⟩:=hI2
  refine hG ?_
  exact wpS_pure (h R g hR)
 case fin=>
  intro c st' hI2
  refine hide fun gG hG=>?_
  obtain ⟨_,o,x,y,mg,rfl,hx,hy,M,hn⟩:=hI2
  refine hG ?_
  lia
 case step=>
  clear hz1' hz2' M0 h
  intro n c st' _ hn hI5
  refine hide fun gG hG=>?_
  obtain ⟨⟨g,rfl⟩,o,x,y,mg,rfl,hx,hy,M,hb1⟩:=hI5
  refine hG ?_
  try dsimp only
  refine wpS_bind (wpS_mono (wpS_forRange (I:=fun n1 d st'=>(∃g,st'=setGal st g)/\∃o' x' y' p q,d=(none,o',x',y',p,q)/\x'+1 < a.size/\y' < b.size/\MIa r a b o' x' y'/\x+y+n1<=x'+y')
   (Q:=fun d st'=>(∃g,st'=setGal st g)/\match d.1 with | some R=>Good r a b R | none=>d.2.2.1+1 < a.size/\d.2.2.2.1 < b.size/\MIa r a b d.2.1 d.2.2.1 d.2.2.2.1/\n+2<=d.2.2.1+d.2.2.2.1) ?step1 ?fin1 ⟨⟨g,rfl⟩,o,x,y,0,0,rfl,hx,hy,M,by lia⟩) ?post1)
  case fin1=>
   intro d st' hI2
   refine hide fun gG hG=>?_
   obtain ⟨hg,o',x',y',p,q,rfl,hx',hy',M',hn'⟩:=hI2
   refine hG ?_
   exact ⟨hg,hx',hy',M',by simp only;lia⟩
  case step1=>
   clear hx hy M hn
   intro n1 d st' _ hn1 hI5
   refine hide fun gG hG=>?_
   obtain ⟨⟨g,rfl⟩,o,x,y,p,q,rfl,hx,hy,M,hn'⟩:=hI5
   refine hG ?_
   try dsimp only
   refine wpS_bind (s_elem hy ?_)
   refine wpS_bind (s_elem (by lia) ?_)
   refine wpS_bind (s_lt C (hb _ (Array.getElem_mem _)) (ha _ (Array.getElem_mem _)) hk ?_)
   try dsimp only
   by_cases hc:r b[y] < r a[x]
   ·rw [if_pos (by simpa using hc)]
    refine wpS_bind (s_elem hy ?_)
    try dsimp only
    have MB:=MI.pushB M hy fun i hi h2=>by
     have:=srt_at sa hi h2
     lia
    refine wpS_ite (fun hz=>?_) (fun hz=>?_)
    ·exact wpS_pure ⟨⟨_,rfl⟩,MB.fin (.inl (by simpa using hz))⟩
    have hz':y+1≠b.size:=by simpa using hz
    refine wpS_ite (fun hz=>?_) (fun hz=>?_)
    ·exact wpS_pure ⟨⟨_,rfl⟩,hx,(by simp only;lia),MB,by simp only;lia⟩
    ·exact wpS_pure ⟨⟨_,rfl⟩,_,_,_,_,_,rfl,hx,by lia,MB,by lia⟩
   ·rw [if_neg (by simpa using hc)]
    refine wpS_bind (s_elem (by lia) ?_)
    try dsimp only
    have MB:=MI.pushA M (by lia) fun i hi h2=>by
     have:=srt_at sb hi h2
     lia
    refine wpS_ite (fun hz=>?_) (fun hz=>?_)
    ·exact wpS_pure ⟨⟨_,rfl⟩,MB.las (by simpa using hz) hl⟩
    have hz':x+1+1≠a.size:=by simpa using hz
    refine wpS_ite (fun hz=>?_) (fun hz=>?_)
    ·exact wpS_pure ⟨⟨_,rfl⟩,(by simp only;lia),hy,MB,by simp only;lia⟩
    ·exact wpS_pure ⟨⟨_,rfl⟩,_,_,_,_,_,rfl,by lia,hy,MB,by lia⟩
  case post1=>
   intro hI0 st' hI2
   refine hide fun gG hG=>?_
   obtain ⟨d1,o1,x1,y1,p1,q1⟩:=hI0
   obtain ⟨⟨g,rfl⟩,hd⟩:=hI2
   refine hG ?_
   dsimp only at hd ⊢
   cases d1 with
   | some R=>exact wpS_pure ⟨⟨_,rfl⟩,R,rfl,hd⟩
   | none=>
    refine hide fun gG hG=>?_
    obtain ⟨hx1,hy1,M1,hn1⟩:=hd
    refine hG ?_
    clear hx hy M hb1 hn
    try dsimp only
    refine wpS_bind (wpS_lift (wpAny_rule ⟨rfl,?_⟩))
    refine wpS_bind (wpS_mono (wpS_forRange (I:=fun _ e st'=>(∃g,st'=setGal st g)/\∃o' x' y' m' p q,e=(none,o',x',y',m',p,q)/\x'+1 < a.size/\y' < b.size/\MIa r a b o' x' y'/\n+2<=x'+y')
     (Q:=fun e st'=>(∃g,st'=setGal st g)/\match e.1 with | some R=>Good r a b R | none=>e.2.2.1+1 < a.size/\e.2.2.2.1 < b.size/\MIa r a b e.2.1 e.2.2.1 e.2.2.2.1/\n+2<=e.2.2.1+e.2.2.2.1) ?step2 ?fin2 ⟨⟨_,rfl⟩,_,_,_,_,_,_,rfl,hx1,hy1,M1,hn1⟩) ?post2)
    case fin2=>
     intro e st' hI2
     refine hide fun gG hG=>?_
     obtain ⟨hg,o',x',y',m',p,q,rfl,hx',hy',M',hn'⟩:=hI2
     refine hG ?_
     exact ⟨hg,hx',hy',M',hn'⟩
    case post2=>
     intro hI0 st' hI2
     refine hide fun gG hG=>?_
     obtain ⟨e1,o2,x2,y2,m2,p2,q2⟩:=hI0
     obtain ⟨⟨g,rfl⟩,he⟩:=hI2
     refine hG ?_
     dsimp only at he ⊢
     cases e1 with
     | some R=>exact wpS_pure ⟨⟨_,rfl⟩,R,rfl,he⟩
     | none=>
      refine hide fun gG hG=>?_
      obtain ⟨hx2,hy2,M2,hn2⟩:=he
      refine hG ?_
      refine wpS_bind (wpS_modify (wpS_pure ⟨⟨_,rfl⟩,_,_,_,_,rfl,hx2,hy2,M2,by lia⟩))
    case step2=>
     clear hx1 hy1 M1 hn1
     intro n2 e st' _ hn2 hI5
     refine hide fun gG hG=>?_
     obtain ⟨⟨g,rfl⟩,o,x,y,m',p,q,rfl,hx,hy,M,hn'⟩:=hI5
     refine hG ?_
     try dsimp only
     refine' share (P:=_) (fun H=>wpS_ite (fun hm=>?A) (fun hm=>?B)) ?_
     case A=>generalize m' - 1=gg;revert gg;exact H
     case B=>clear hm;generalize m'=gg;revert gg;exact H
     intro gg
     try dsimp only
     refine wpS_bind (wpS_modify ?_)
     refine wpS_bind (s_elem hy ?_)
     refine wpS_bind (s_gal C (by lia) (by lia) ha (hb _ (Array.getElem_mem _)) hk (fun i j h1 h2 _=>srt_at sa (by lia) h2) fun k l1 l2 l3=>?_)
     try dsimp only
     replace l1:x+k<=a.size:=by lia
     have l2':∀i,i < k->∀(h2:x+i < a.size),r a[x+i]<=r b[y]:=fun i hi h2=>by simpa [isA] using l2 i hi h2
     have l3':∀i,k<=i->∀(h2:x+i < a.size),r b[y] < r a[x+i]:=fun i hi h2=>by have:=l3 i hi (by lia) h2;simpa [isA] using this
     clear l2 l3
     refine' share2 (R:=fun o' x'=>x'=x+k/\x'+1 < a.size/\MIa r a b o' x' y) (P:=_) (fun H=>wpS_ite (fun hz=>?A) (fun hz=>?B)) ?_
     case A=>
      have MA:=MI.moreA (k:=k) M fun i hi h2 j hj hj2=>by
       have e1:=l2' i hi h2
       have e2:=srt_at sb hj hj2
       lia
      refine wpS_ite (fun hz=>?_) (fun hz=>?_)
      ·exact wpS_pure ⟨⟨_,rfl⟩,MA.las (by simpa using hz) hl⟩
      have hz0:x+k+1≠a.size:=by simpa using hz
      refine wpS_ite (fun hz=>?_) (fun hz=>?_)
      ·exact wpS_pure ⟨⟨_,rfl⟩,MA.fin (.inr (by simpa using hz))⟩
      have hz1:x+k≠a.size:=by simpa using hz
      have e1:x+k+1 < a.size:=by lia
      obtain ⟨x',hx'⟩:∃x',x'=x+k:=⟨_,rfl⟩
      rw [<-hx'] at MA e1 ⊢
      generalize o++a.extract x x'=o' at MA ⊢
      exact H o' x' ⟨hx',e1,MA⟩
     case B=>exact H o x ⟨by lia,hx,M⟩
     rintro o x' ⟨hx',hx1,MA⟩
     clear l2'
     refine wpS_bind (s_elem hy ?_)
     try dsimp only
     have MB:=MI.pushB MA hy (fun i hi h2=>by
        have:=l3' (i - x) (by lia) (by lia)
        have e:x+(i - x)=i:=by lia
        simp only [e] at this
        lia)
     clear l3' MA M l1 hx
     refine wpS_ite (fun hz=>?_) (fun hz=>?_)
     ·exact wpS_pure ⟨⟨_,rfl⟩,MB.fin (.inl (by simpa using hz))⟩
     have hz2:y+1≠b.size:=by simpa using hz
     have hy2:y+1 < b.size:=by lia
     clear hz2 hz
     refine wpS_bind (s_elem (by lia) ?_)
     refine wpS_bind (s_gal C (by lia) (by lia) hb (ha _ (Array.getElem_mem _)) hk (fun i j h1 h2 _=>srt_at sb (by lia) h2) fun k2 l1 l2 l3=>?_)
     try dsimp only
     replace l1:y+1+k2<=b.size:=by lia
     have l2':∀i,i < k2->∀(h2:y+1+i < b.size),r b[y+1+i] < r (a[x']'(by lia)):=fun i hi h2=>by simpa [isA] using l2 i hi h2
     have l3':∀i,k2<=i->∀(h2:y+1+i < b.size),r (a[x']'(by lia))<=r b[y+1+i]:=fun i hi h2=>by have:=l3 i hi (by lia) h2;simpa [isA] using this
     clear l2 l3
     refine' share2 (R:=fun o' y'=>y'=y+1+k2/\y' < b.size/\MIa r a b o' x' y') (P:=_) (fun H=>wpS_ite (fun hz=>?A) (fun hz=>?B)) ?_
     case A=>
      have MC:=MI.moreB (k:=k2) MB fun i hi h2 j hj hj2=>by
       have e1:=l2' i hi h2
       have e2:=srt_at sa hj hj2
       lia
      refine wpS_ite (fun hz=>?_) (fun hz=>?_)
      ·exact wpS_pure ⟨⟨_,rfl⟩,MC.fin (.inl (by simpa using hz))⟩
      have hz4:y+1+k2≠b.size:=by simpa using hz
      have e1:y+1+k2 < b.size:=by lia
      obtain ⟨y',hy'⟩:∃y',y'=y+1+k2:=⟨_,rfl⟩
      rw [<-hy'] at MC e1 ⊢
      generalize _++b.extract (y+1) y'=o' at MC ⊢
      exact H o' y' ⟨hy',e1,MC⟩
     case B=>exact H _ (y+1) ⟨by lia,hy2,MB⟩
     rintro o' y' ⟨hy',hy1,MC⟩
     clear l2' MB
     have MZ:=MI.pushA MC (by lia) fun i hi h2=>by
      have:=l3' (i - (y+1)) (by lia) (by lia)
      simpa [show y+1+(i - (y+1))=i by lia] using this
     clear l3' MC l1 hy2
     refine wpS_bind (s_elem (by lia) ?_)
     try dsimp only
     refine wpS_ite (fun hz=>?_) (fun hz=>?_)
     ·exact wpS_pure ⟨⟨_,rfl⟩,(MZ.las (by simpa using hz) hl)⟩
     ·have hz':x'+1+1≠a.size:=by simpa using hz
      have e1:x'+1+1 < a.size:=by lia
      have e2:n+2<=x'+1+y':=by lia
      refine wpS_ite (fun hz=>?_) (fun hz=>?_)
      ·exact wpS_pure ⟨⟨_,rfl⟩,e1,hy1,MZ,e2⟩
      ·exact wpS_pure ⟨⟨_,rfl⟩,_,_,_,_,_,_,rfl,e1,hy1,MZ,e2⟩
end
end L2
end
section
namespace L2
open PySem PySem.W PyProof.Rows
structure MH (r:Keyed->Int) (tot ra rb o:List Keyed):Prop where
 perm:(ra++rb++o).Perm tot
 so:SrtL r o
 sa:SrtL r ra
 sb:SrtL r rb
 la:∀u∈ra,∀v∈o,r u<=r v
 lb:∀u∈rb,∀v∈o,r u<=r v
section
variable {r:Keyed->Int} {tot o ra rb p:List Keyed}
theorem MH.takeB (h:MH r tot ra (rb++p) o) (hp:∀u∈p,∀v∈ra,r v<=r u):MH r tot ra rb (p++o):=by
 have sb:=List.pairwise_append.mp h.sb
 refine ⟨by simpa [List.append_assoc] using h.perm,List.pairwise_append.mpr ⟨sb.2.1,h.so,fun u hu v hv=>h.lb u (List.mem_append_right _ hu) v hv⟩,h.sa,sb.1,fun u hu v hv=>?_,fun u hu v hv=>?_⟩
 ·rcases List.mem_append.mp hv with hv | hv
  ·exact hp v hv u hu
  ·exact h.la u hu v hv
 ·rcases List.mem_append.mp hv with hv | hv
  ·exact sb.2.2 u hu v hv
  ·exact h.lb u (List.mem_append_left _ hu) v hv
theorem MH.takeA (h:MH r tot (ra++p) rb o) (hp:∀u∈p,∀v∈rb,r v<=r u):MH r tot ra rb (p++o):=by
 have sa:=List.pairwise_append.mp h.sa
 refine ⟨?_,List.pairwise_append.mpr ⟨sa.2.1,h.so,fun u hu v hv=>h.la u (List.mem_append_right _ hu) v hv⟩,sa.1,h.sb,fun u hu v hv=>?_,fun u hu v hv=>?_⟩
 ·refine List.Perm.trans ?_ h.perm
  rw [<-List.append_assoc]
  refine List.Perm.append_right o ?_
  rw [List.append_assoc,List.append_assoc]
  exact List.Perm.append_left ra List.perm_append_comm
 ·rcases List.mem_append.mp hv with hv | hv
  ·exact sa.2.2 u hu v hv
  ·exact h.la u (List.mem_append_left _ hu) v hv
 ·rcases List.mem_append.mp hv with hv | hv
  ·exact hp v hv u hu
  ·exact h.lb u hu v hv
theorem MH.endA (h:MH r tot ra [] o):(ra++o).Perm tot/\SrtL r (ra++o):=⟨by simpa using h.perm,List.pairwise_append.mpr ⟨h.sa,h.so,h.la⟩⟩
theorem MH.endB (h:MH r tot [] rb o):(rb++o).Perm tot/\SrtL r (rb++o):=⟨by simpa using h.perm,List.pairwise_append.mpr ⟨h.sb,h.so,h.lb⟩⟩
theorem MH.endF {z:Keyed} (h:MH r tot ra [z] o) (hz:∀v∈ra,r z<=r v):([z]++ra++o).Perm tot/\SrtL r ([z]++ra++o):=by
 have h':=(MH.takeA (p:=ra) (ra:=[]) (by simpa using h) fun u hu v hv=>by rw [List.mem_singleton.mp hv];exact hz u hu).endB
 rw [List.append_assoc];exact h'
end
section
variable {r:Keyed->Int} {a b o:Array Keyed} {x y e:Nat}
abbrev MHa (r:Keyed->Int) (a b o:Array Keyed) (x y:Nat):Prop:=MH r (tot a b) (a.toList.take x) (b.toList.take y) o.toList.reverse
theorem ext_0 (a:Array Keyed) (x:Nat):(a.extract 0 x).toList=a.toList.take x:=by
 rw [ext_list,List.drop_zero,Nat.sub_zero]
theorem take_cut (l:List Keyed) {x e:Nat} (h:e<=x):l.take x=l.take e++(l.drop e).take (x - e):=by
 have:=(List.take_append_drop e (l.take x)).symm
 rw [List.take_take,Nat.min_eq_left h,List.drop_take] at this
 exact this
theorem take_one (a:Array Keyed) {x:Nat} (h:x < a.size):a.toList.take (x+1)=a.toList.take x++[a[x]]:=by
 rw [List.take_add_one,List.getElem?_eq_getElem (by simpa using h)];simp
theorem mem_tk {a:Array Keyed} {x:Nat} {v:Keyed} (h:v∈a.toList.take x):∃i,∃(hi:i < a.size),i < x/\v=a[i]:=by
 have h':v∈(a.toList.drop 0).take x:=by simpa using h
 refine hide fun gG hG=>?_
 obtain ⟨i,hi,hx,e⟩:=mem_take_at h'
 refine hG ?_
 exact ⟨i,by lia,hx,by rw [e];simp⟩
theorem MH.pushB (h:MHa r a b o x (y+1)) (hy:y < b.size) (hx:∀i,i < x->∀(hi:i < a.size),r a[i]<=r b[y]):MHa r a b (o.push b[y]) x y:=by
 have h':MH r (tot a b) (a.toList.take x) (b.toList.take y++[b[y]]) o.toList.reverse:=by rw [<-take_one b hy];exact h
 have:=h'.takeB fun u hu v hv=>by
  refine hide fun gG hG=>?_
  obtain ⟨i,hi,hk,rfl⟩:=mem_tk hv
  refine hG ?_
  rw [List.mem_singleton.mp hu]
  exact hx _ hk hi
 show MH r (tot a b) _ _ (o.push b[y]).toList.reverse
 rw [Array.toList_push,List.reverse_append];exact this
theorem MH.pushA (h:MHa r a b o (x+1) y) (hx:x < a.size) (hy:∀i,i < y->∀(hi:i < b.size),r b[i]<=r a[x]):MHa r a b (o.push a[x]) x y:=by
 have h':MH r (tot a b) (a.toList.take x++[a[x]]) (b.toList.take y) o.toList.reverse:=by rw [<-take_one a hx];exact h
 have:=h'.takeA fun u hu v hv=>by
  refine hide fun gG hG=>?_
  obtain ⟨i,hi,hk,rfl⟩:=mem_tk hv
  refine hG ?_
  rw [List.mem_singleton.mp hu]
  exact hy _ hk hi
 show MH r (tot a b) _ _ (o.push a[x]).toList.reverse
 rw [Array.toList_push,List.reverse_append];exact this
theorem MH.moreA (h:MHa r a b o x y) (he:e<=x) (hp:∀i,e<=i->i < x->∀(hi:i < a.size) j,j < y->∀(hj:j < b.size),r b[j]<=r a[i]):MHa r a b (o++(a.extract e x).reverse) e y:=by
 have h':MH r (tot a b) (a.toList.take e++(a.toList.drop e).take (x - e)) (b.toList.take y) o.toList.reverse:=by rw [<-take_cut _ he];exact h
 have:=h'.takeA fun u hu v hv=>by
  refine hide fun gG hG=>?_
  obtain ⟨i,hi,hk,rfl⟩:=mem_take_at hu
  obtain ⟨j,hj,hj2,rfl⟩:=mem_tk hv
  refine hG ?_
  exact hp (e+i) (by lia) (by lia) hi _ hj2 hj
 show MH r (tot a b) _ _ (o++(a.extract e x).reverse).toList.reverse
 rw [Array.toList_append,Array.toList_reverse,List.reverse_append,List.reverse_reverse,ext_list]
 exact this
theorem MH.moreB (h:MHa r a b o x y) (he:e<=y) (hp:∀i,e<=i->i < y->∀(hi:i < b.size) j,j < x->∀(hj:j < a.size),r a[j]<=r b[i]):MHa r a b (o++(b.extract e y).reverse) x e:=by
 have h':MH r (tot a b) (a.toList.take x) (b.toList.take e++(b.toList.drop e).take (y - e)) o.toList.reverse:=by rw [<-take_cut _ he];exact h
 have:=h'.takeB fun u hu v hv=>by
  refine hide fun gG hG=>?_
  obtain ⟨i,hi,hk,rfl⟩:=mem_take_at hu
  obtain ⟨j,hj,hj2,rfl⟩:=mem_tk hv
  refine hG ?_
  exact hp (e+i) (by lia) (by lia) hi _ hj2 hj
 show MH r (tot a b) _ _ (o++(b.extract e y).reverse).toList.reverse
 rw [Array.toList_append,Array.toList_reverse,List.reverse_append,List.reverse_reverse,ext_list]
 exact this
theorem MH.fin (h:MHa r a b o x y) (e:x=0\/y=0):Good r a b (a.extract 0 x++b.extract 0 y++o.reverse):=by
 unfold Good
 rw [Array.toList_append,Array.toList_append,Array.toList_reverse,ext_0,ext_0]
 rcases e with e | e
 ·subst e
  exact MH.endB h
 ·subst e
  rw [List.take_zero,List.append_nil]
  exact MH.endA h
theorem MH.fst (h:MHa r a b o x y) (e:y=1) (nb:0 < b.size) (h0:∀v∈a,r b[0]<=r v):Good r a b (b.extract 0 y++a.extract 0 x++o.reverse):=by
 unfold Good
 rw [Array.toList_append,Array.toList_append,Array.toList_reverse,ext_0,ext_0]
 subst e
 have z:b.toList.take 1=[b[0]]:=by rw [take_one b nb];rfl
 have h':MH r (tot a b) (a.toList.take x) [b[0]] o.toList.reverse:=by rw [<-z];exact h
 rw [z]
 exact h'.endF fun v hv=>h0 v (by simpa using List.mem_of_mem_take hv)
end
section
variable {prog:Program} {w:World} {A:Around} {E:Value->Shared->Prop} {s:Shared} {κ:SortKind} {r:Keyed->Int} {U:Keyed->Prop}
theorem s_mHi (C:Cmp prog w A s κ r U) {a b:Array Keyed} {Q:Array Keyed->SortSt->Prop} {st:SortSt} (hk:kindOf st=κ) (ha:∀z∈a,U z) (hb:∀z∈b,U z) (sa:SrtL r a.toList) (sb:SrtL r b.toList) (na:0 < a.size) (nb:0 < b.size)
  (h0:∀v∈a,r b[0]<=r v) (hl:∀v∈b,r v<=r (a[a.size - 1]'(by lia))) (h:∀R g,Good r a b R->Q R (setGal st g)):wpS (model prog w) A E s (mHi a b) Q st:=by
 rw [mHi_eq]
 refine wpS_bind (wpS_lift (wpAny_rule ⟨rfl,?_⟩))
 refine wpS_bind (s_elem (by lia) ?_)
 try dsimp only
 obtain ⟨na',hna⟩:∃na',a.size=na'+1:=⟨a.size - 1,by lia⟩
 have M0:MHa r a b #[a[a.size - 1]'(by lia)] (a.size - 1) b.size:=by
  refine MH.pushA (o:=#[]) (x:=a.size - 1) (y:=b.size) ⟨?_,List.Pairwise.nil,?_,?_,by simp,by simp⟩ (by lia) fun i hi hi2=>hl _ (Array.getElem_mem _)
  ·rw [show a.size - 1+1=a.size by lia,List.take_of_length_le (by simp),List.take_of_length_le (by simp)];simp
  ·rw [show a.size - 1+1=a.size by lia,List.take_of_length_le (by simp)];exact sa
  ·rw [List.take_of_length_le (by simp)];exact sb
 refine wpS_ite (fun hz=>?_) (fun hz1=>?_)
 ·exact wpS_pure (h _ (gallopOf st) (M0.fin (.inl (by simpa using hz))))
 refine wpS_ite (fun hz=>?_) (fun hz2=>?_)
 ·exact wpS_pure (h _ (gallopOf st) (M0.fst (by simpa using hz) nb h0))
 have hz1':a.size - 1≠0:=by simpa using hz1
 have hz2':b.size≠1:=by simpa using hz2
 clear hz1 hz2
 refine wpS_bind (wpS_get ?_)
 refine wpS_bind (wpS_mono (wpS_forRange (a:=0) (I:=fun n c st'=>(∃g,st'=setGal st g)/\∃o x y mg,c=(none,x,y,o,mg)/\0 < x/\x<=a.size/\1 < y/\y<=b.size/\MHa r a b o x y/\x+y+n+1<=a.size+b.size)
  (Q:=fun c st'=>(∃g,st'=setGal st g)/\∃R,c.1=some R/\Good r a b R) ?step ?fin ⟨⟨gallopOf st,rfl⟩,_,a.size - 1,b.size,gallopOf st,rfl,by lia,by lia,by lia,by lia,M0,by lia⟩) ?post)
 case post=>
  intro hI0 st' hI2
  refine hide fun gG hG=>?_
  obtain ⟨c1,c⟩:=hI0
  obtain ⟨⟨g,rfl⟩,R,rfl,hR⟩:=hI2
  refine hG ?_
  exact wpS_pure (h R g hR)
 case fin=>
  intro c st' hI2
  refine hide fun gG hG=>?_
  obtain ⟨_,o,x,y,mg,rfl,hx,hx0,hy,hy0,M,hn⟩:=hI2
  refine hG ?_
  lia
 case step=>
  clear hz1' hz2' M0 h hna
  intro n c st' _ hn hI5
  refine hide fun gG hG=>?_
  obtain ⟨⟨g,rfl⟩,o,x,y,mg,rfl,hx,hx0,hy,hy0,M,hb1⟩:=hI5
  refine hG ?_
  try dsimp only
  refine wpS_bind (wpS_mono (wpS_forRange (a:=0) (I:=fun n1 d st'=>(∃g,st'=setGal st g)/\∃o' x' y' p q,d=(none,x',y',o',p,q)/\0 < x'/\x'<=a.size/\1 < y'/\y'<=b.size/\MHa r a b o' x' y'/\x'+y'+n1<=x+y)
   (Q:=fun d st'=>(∃g,st'=setGal st g)/\match d.1 with | some R=>Good r a b R | none=>0 < d.2.1/\d.2.1<=a.size/\1 < d.2.2.1/\d.2.2.1<=b.size/\MHa r a b d.2.2.2.1 d.2.1 d.2.2.1/\d.2.1+d.2.2.1+n+2<=a.size+b.size) ?step1 ?fin1 ⟨⟨g,rfl⟩,o,x,y,0,0,rfl,hx,hx0,hy,hy0,M,by lia⟩) ?post1)
  case fin1=>
   intro d st' hI2
   refine hide fun gG hG=>?_
   obtain ⟨hg,o',x',y',p,q,rfl,hx',hx0',hy',hy0',M',hn'⟩:=hI2
   refine hG ?_
   exact ⟨hg,hx',hx0',hy',hy0',M',by simp only;lia⟩
  case step1=>
   clear hx hx0 hy hy0 M hn
   intro n1 d st' _ hn1 hI5
   refine hide fun gG hG=>?_
   obtain ⟨⟨g,rfl⟩,o,x,y,p,q,rfl,hx,hx0,hy,hy0,M,hn'⟩:=hI5
   refine hG ?_
   try dsimp only
   refine hide fun gG hG=>?_
   obtain ⟨x,rfl⟩:∃x1,x=x1+1:=⟨x - 1,by lia⟩
   obtain ⟨y,rfl⟩:∃y1,y=y1+1:=⟨y - 1,by lia⟩
   refine hG ?_
   simp only [Nat.add_sub_cancel]
   refine wpS_bind (s_elem (by lia) ?_)
   refine wpS_bind (s_elem (by lia) ?_)
   refine wpS_bind (s_lt C (hb _ (Array.getElem_mem _)) (ha _ (Array.getElem_mem _)) hk ?_)
   try dsimp only
   by_cases hc:r b[y] < r a[x]
   ·rw [if_pos (by simpa using hc)]
    refine wpS_bind (s_elem (by lia) ?_)
    try dsimp only
    have MB:=MH.pushA M (by lia) fun i hi h2=>by
     have:=srt_at sb (show i<=y by lia) (by lia)
     lia
    refine wpS_ite (fun hz=>?_) (fun hz=>?_)
    ·exact wpS_pure ⟨⟨_,rfl⟩,MB.fin (.inl (by simpa using hz))⟩
    have hz':x≠0:=by simpa using hz
    refine wpS_ite (fun hz=>?_) (fun hz=>?_)
    ·exact wpS_pure ⟨⟨_,rfl⟩,(by simp only;lia),(by simp only;lia),hy,hy0,MB,by simp only;lia⟩
    ·exact wpS_pure ⟨⟨_,rfl⟩,_,_,_,_,_,rfl,by lia,by lia,hy,hy0,MB,by lia⟩
   ·rw [if_neg (by simpa using hc)]
    refine wpS_bind (s_elem (by lia) ?_)
    try dsimp only
    have MB:=MH.pushB M (by lia) fun i hi h2=>by
     have:=srt_at sa (show i<=x by lia) (by lia)
     lia
    refine wpS_ite (fun hz=>?_) (fun hz=>?_)
    ·exact wpS_pure ⟨⟨_,rfl⟩,MB.fst (by simpa using hz) nb h0⟩
    have hz':y≠1:=by simpa using hz
    refine wpS_ite (fun hz=>?_) (fun hz=>?_)
    ·exact wpS_pure ⟨⟨_,rfl⟩,hx,hx0,(by simp only;lia),(by simp only;lia),MB,by simp only;lia⟩
    ·exact wpS_pure ⟨⟨_,rfl⟩,_,_,_,_,_,rfl,hx,hx0,by lia,by lia,MB,by lia⟩
  case post1=>
   intro hI0 st' hI2
   refine hide fun gG hG=>?_
   obtain ⟨d1,x1,y1,o1,p1,q1⟩:=hI0
   obtain ⟨⟨g,rfl⟩,hd⟩:=hI2
   refine hG ?_
   dsimp only at hd ⊢
   cases d1 with
   | some R=>exact wpS_pure ⟨⟨_,rfl⟩,R,rfl,hd⟩
   | none=>
    refine hide fun gG hG=>?_
    obtain ⟨hx1,hx01,hy1,hy01,M1,hn1⟩:=hd
    refine hG ?_
    clear hx hx0 hy hy0 M hb1 hn
    try dsimp only
    refine wpS_bind (wpS_lift (wpAny_rule ⟨rfl,?_⟩))
    refine wpS_bind (wpS_mono (wpS_forRange (I:=fun _ e st'=>(∃g,st'=setGal st g)/\∃o' x' y' m' p q,e=(none,x',y',o',m',p,q)/\0 < x'/\x'<=a.size/\1 < y'/\y'<=b.size/\MHa r a b o' x' y'/\x'+y'+n+2<=a.size+b.size)
     (Q:=fun e st'=>(∃g,st'=setGal st g)/\match e.1 with | some R=>Good r a b R | none=>0 < e.2.1/\e.2.1<=a.size/\1 < e.2.2.1/\e.2.2.1<=b.size/\MHa r a b e.2.2.2.1 e.2.1 e.2.2.1/\e.2.1+e.2.2.1+n+2<=a.size+b.size) ?step2 ?fin2 ⟨⟨_,rfl⟩,_,_,_,_,_,_,rfl,hx1,hx01,hy1,hy01,M1,hn1⟩) ?post2)
    case fin2=>
     intro e st' hI2
     refine hide fun gG hG=>?_
     obtain ⟨hg,o',x',y',m',p,q,rfl,hx',hx0',hy',hy0',M',hn'⟩:=hI2
     refine hG ?_
     exact ⟨hg,hx',hx0',hy',hy0',M',hn'⟩
    case post2=>
     intro hI0 st' hI2
     refine hide fun gG hG=>?_
     obtain ⟨e1,x2,y2,o2,m2,p2,q2⟩:=hI0
     obtain ⟨⟨g,rfl⟩,he⟩:=hI2
     refine hG ?_
     dsimp only at he ⊢
     cases e1 with
     | some R=>exact wpS_pure ⟨⟨_,rfl⟩,R,rfl,he⟩
     | none=>
      refine hide fun gG hG=>?_
      obtain ⟨hx2,hx02,hy2,hy02,M2,hn2⟩:=he
      refine hG ?_
      refine wpS_bind (wpS_modify (wpS_pure ⟨⟨_,rfl⟩,_,_,_,_,rfl,hx2,hx02,hy2,hy02,M2,by lia⟩))
    case step2=>
     clear hx1 hx01 hy1 hy01 M1 hn1
     intro n2 e st' _ hn2 hI5
     refine hide fun gG hG=>?_
     obtain ⟨⟨g,rfl⟩,o,x,y,m',p,q,rfl,hx,hx0,hy,hy0,M,hn'⟩:=hI5
     refine hG ?_
     try dsimp only
     refine' share (P:=_) (fun H=>wpS_ite (fun hm=>?A) (fun hm=>?B)) ?_
     case A=>generalize m' - 1=gg;revert gg;exact H
     case B=>clear hm;generalize m'=gg;revert gg;exact H
     intro gg
     obtain ⟨y,rfl⟩:∃y1,y=y1+1:=⟨y - 1,by lia⟩
     simp only [Nat.add_sub_cancel]
     refine wpS_bind (wpS_modify ?_)
     refine wpS_bind (s_elem (by lia) ?_)
     refine wpS_bind (s_gal C (by lia) (by lia) ha (hb _ (Array.getElem_mem _)) hk (fun i j h1 h2 _=>srt_at sa (by lia) h2) fun e l1 l2 l3=>?_)
     try dsimp only
     have l2':∀i,i < e->∀(h2:i < a.size),r a[i]<=r (b[y]'(by lia)):=fun i hi h2=>by simpa [isA] using l2 i hi (by lia)
     have l3':∀i,e<=i->i < x->∀(h2:i < a.size),r (b[y]'(by lia)) < r a[i]:=fun i hi hi2 h2=>by have:=l3 i hi hi2 (by lia);simpa [isA] using this
     clear l2 l3
     generalize hcnt:x - e=cnt
     refine' share2 (R:=fun o' x'=>x'=e/\0 < x'/\MHa r a b o' x' (y+1)) (P:=_) (fun H=>wpS_ite (fun hz=>?A) (fun hz=>?B)) ?_
     case A=>
      have MA:=MH.moreA (e:=e) M l1 fun i hi hi2 h2 j hj hj2=>by
       have e1:=l3' i hi hi2 h2
       have e2:=srt_at sb (show j<=y by lia) (by lia)
       lia
      refine wpS_ite (fun hz=>?_) (fun hz=>?_)
      ·exact wpS_pure ⟨⟨_,rfl⟩,MA.fin (.inl (by simpa using hz))⟩
      have hz0:e≠0:=by simpa using hz
      have e1:0 < e:=by lia
      obtain ⟨x',hx'⟩:∃x',x'=e:=⟨_,rfl⟩
      rw [<-hx'] at MA e1 ⊢
      generalize o++(a.extract x' x).reverse=o' at MA ⊢
      exact H o' x' ⟨hx',e1,MA⟩
     case B=>exact H o x ⟨by lia,hx,M⟩
     rintro o x' ⟨hx',hx1,MA⟩
     obtain ⟨x',rfl⟩:∃x1,x'=x1+1:=⟨x' - 1,by lia⟩
     simp only [Nat.add_sub_cancel]
     have MB:=MH.pushB (y:=y) MA (by lia) fun i hi h2=>l2' i (by lia) h2
     clear l2' l3' MA M
     refine wpS_bind (s_elem (by lia) ?_)
     try dsimp only
     refine wpS_ite (fun hz=>?_) (fun hz=>?_)
     ·exact wpS_pure ⟨⟨_,rfl⟩,MB.fst (by simpa using hz) nb h0⟩
     have hz2:y≠1:=by simpa using hz
     have hy2:1 < y:=by lia
     have hxa:x'+1<=a.size:=by lia
     have hnn:x'+1+(y+1)+n+2<=a.size+b.size:=by lia
     clear hz2 hz hcnt hx' hn' hx0 hx l1
     refine wpS_bind (s_elem (by lia) ?_)
     refine wpS_bind (s_gal C (by lia) (by lia) hb (ha _ (Array.getElem_mem _)) hk (fun i j h1 h2 _=>srt_at sb (by lia) h2) fun f l1 m2 m3=>?_)
     try dsimp only
     have m2':∀i,i < f->∀(h2:i < b.size),r b[i] < r (a[x']'(by lia)):=fun i hi h2=>by simpa [isA] using m2 i hi (by lia)
     have m3':∀i,f<=i->i < y->∀(h2:i < b.size),r (a[x']'(by lia))<=r b[i]:=fun i hi hi2 h2=>by have:=m3 i hi hi2 (by lia);simpa [isA] using this
     clear m2 m3
     generalize hcnt2:y - f=cnt2
     refine' share2 (R:=fun o' y'=>y'=f/\1 < y'/\MHa r a b o' (x'+1) y') (P:=_) (fun H=>wpS_ite (fun hz=>?A) (fun hz=>?B)) ?_
     case A=>
      have MC:=MH.moreB (e:=f) MB (by lia) fun i hi hi2 h2 j hj hj2=>by
       have e1:=m3' i hi hi2 h2
       have e2:=srt_at sa (show j<=x' by lia) (by lia)
       lia
      refine wpS_ite (fun hz=>?_) (fun hz=>?_)
      ·exact wpS_pure ⟨⟨_,rfl⟩,MC.fst (by simpa using hz) nb h0⟩
      have hz4:f≠1:=by simpa using hz
      refine wpS_ite (fun hz=>?_) (fun hz=>?_)
      ·exact wpS_pure ⟨⟨_,rfl⟩,MC.fin (.inr (by simpa using hz))⟩
      have hz5:f≠0:=by simpa using hz
      have e1:1 < f:=by lia
      obtain ⟨y',hy'⟩:∃y',y'=f:=⟨_,rfl⟩
      rw [<-hy'] at MC e1 ⊢
      generalize _++(b.extract y' y).reverse=o' at MC ⊢
      exact H o' y' ⟨hy',e1,MC⟩
     case B=>exact H _ y ⟨by lia,hy2,MB⟩
     rintro o' y' ⟨hy',hy1,MC⟩
     have MZ:=MH.pushA (x:=x') MC (by lia) fun i hi h2=>(by have:=m2' i (by lia) h2;lia)
     clear m2' m3' MB MC
     refine wpS_bind (s_elem (by lia) ?_)
     try dsimp only
     refine wpS_ite (fun hz=>?_) (fun hz=>?_)
     ·exact wpS_pure ⟨⟨_,rfl⟩,MZ.fin (.inl (by simpa using hz))⟩
     ·have hz':x'≠0:=by simpa using hz
      have e1:0 < x':=by lia
      have e2:x'<=a.size:=by lia
      have e3:y'<=b.size:=by lia
      have e4:x'+y'+n+2<=a.size+b.size:=by lia
      refine wpS_ite (fun hz=>?_) (fun hz=>?_)
      ·exact wpS_pure ⟨⟨_,rfl⟩,e1,e2,hy1,e3,MZ,e4⟩
      ·exact wpS_pure ⟨⟨_,rfl⟩,_,_,_,_,_,_,rfl,e1,e2,hy1,e3,MZ,e4⟩
end
end L2
end
section
namespace L2
open PySem PySem.W PyProof.Rows
section
variable {prog:Program} {w:World} {A:Around} {E:Value->Shared->Prop} {s:Shared} {κ:SortKind} {r:Keyed->Int} {a₀:Array Keyed}
def Rk (r:Keyed->Int) (xs:Array Keyed) (i:Nat):Int:=match xs[i]? with
 | some p=>r p
 | none=>0
theorem Rk.eq {xs:Array Keyed} {i:Nat} (h:i < xs.size):Rk r xs i=r xs[i]:=by unfold Rk;rw [Array.getElem?_eq_getElem h]
theorem Rk.congr {xs ys:Array Keyed} {i j:Nat} (h:xs[i]? = ys[j]?):Rk r xs i=Rk r ys j:=by unfold Rk;rw [h]
def Sg (r:Keyed->Int) (xs:Array Keyed) (lo hi:Nat):Prop:=∀i j,lo<=i->i<=j->j < hi->Rk r xs i<=Rk r xs j
def Dg (r:Keyed->Int) (xs:Array Keyed) (lo hi:Nat):Prop:=∀i j,lo<=i->i<=j->j < hi->Rk r xs j<=Rk r xs i
structure SB (a₀:Array Keyed) (κ:SortKind) (st:SortSt):Prop where
 perm:(arrOf st).Perm a₀
 kind:kindOf st=κ
 ok:failedOf st=none
theorem SB.size {st:SortSt} (h:SB a₀ κ st):(arrOf st).size=a₀.size:=h.perm.size_eq
theorem SB.put {st:SortSt} (h:SB a₀ κ st) {xs:Array Keyed} (hp:xs.Perm (arrOf st)):SB a₀ κ (setArr st xs):=⟨hp.trans h.perm,h.kind,h.ok⟩
theorem SB.mem {st:SortSt} (h:SB a₀ κ st) {z:Keyed} (hz:z∈arrOf st):z∈a₀:=h.perm.mem_iff.mp hz
abbrev CmpA (prog:Program) (w:World) (A:Around) (s:Shared) (κ:SortKind) (r:Keyed->Int) (a₀:Array Keyed):Prop:=Cmp prog w A s κ r (·∈a₀)
theorem s_ltAt (C:CmpA prog w A s κ r a₀) {st:SortSt} {i j:Nat} {Q:Option Bool->SortSt->Prop} (B:SB a₀ κ st) (hi:i < a₀.size) (hj:j < a₀.size) (h:Q (some (decide (Rk r (arrOf st) i < Rk r (arrOf st) j))) st):wpS (model prog w) A E s (ltAt' i j) Q st:=by
 have hi':i < (arrOf st).size:=by rw [B.size];exact hi
 have hj':j < (arrOf st).size:=by rw [B.size];exact hj
 rw [Rk.eq hi',Rk.eq hj'] at h
 rw [ltAt'_eq]
 refine wpS_bind (wpS_get ?_)
 refine wpS_bind (s_elem hi' (wpS_bind (s_elem hj' (s_lt C (B.mem (Array.getElem_mem _)) (B.mem (Array.getElem_mem _)) B.kind h))))
theorem s_rev {st:SortSt} {i j:Nat} {Q:Unit->SortSt->Prop} (h:Q () (setArr st (mirror (arrOf st) i j ((j - i) / 2)))):wpS (model prog w) A E s (reverseSlice' i j) Q st:=by
 rw [reverseSlice'_eq];exact wpS_modify h
theorem rk_mirror {xs:Array Keyed} {i j:Nat} (hj:j<=xs.size) (k:Nat):Rk r (mirror xs i j ((j - i) / 2)) k=if i<=k/\k < j then Rk r xs (i+j - 1 - k) else Rk r xs k:=by
 have e:=getElem?_mirror_all (i:=i) hj k
 by_cases h1:i<=k/\k < j
 ·rw [if_pos h1] at e ⊢;exact Rk.congr e
 ·rw [if_neg h1] at e ⊢;exact Rk.congr e
theorem rk_mirror_same {xs:Array Keyed} {i j:Nat} (hj:j<=xs.size) (heq:∀k,i<=k->k < j->Rk r xs k=Rk r xs (j - 1)) (k:Nat):Rk r (mirror xs i j ((j - i) / 2)) k=Rk r xs k:=by
 rw [rk_mirror hj]
 split
 ·rw [heq _ (by lia) (by lia),heq k (by lia) (by lia)]
 ·rfl
def Pre (lo:Nat) (xs ys:Array Keyed):Prop:=∀k,k < lo->ys[k]? = xs[k]?
theorem Pre.refl {lo:Nat} {xs:Array Keyed}:Pre lo xs xs:=fun _ _=>rfl
theorem Pre.trans {lo:Nat} {xs ys zs:Array Keyed} (h:Pre lo xs ys) (g:Pre lo ys zs):Pre lo xs zs:=fun k hk=>(g k hk).trans (h k hk)
theorem Pre.mir {lo i j:Nat} {xs:Array Keyed} (hi:lo<=i) (hj:j<=xs.size):Pre lo xs (mirror xs i j ((j - i) / 2)):=fun k hk=>by
 rw [getElem?_mirror_all hj,if_neg (by lia)]
theorem Pre.bub {lo src d:Nat} {xs:Array Keyed} (hs:src < xs.size) (hd:lo+d<=src):Pre lo xs (bubble xs src d):=fun k hk=>by
 rw [getElem?_bubble hs d (by lia),if_neg (by lia),if_neg (by lia)]
theorem rk_bubble {xs:Array Keyed} {src d:Nat} (hs:src < xs.size) (hd:d<=src) (k:Nat):Rk r (bubble xs src d) k=if k=src - d then Rk r xs src else if src - d < k/\k<=src then Rk r xs (k - 1) else Rk r xs k:=by
 have e:=getElem?_bubble hs d hd k
 by_cases h1:k=src - d
 ·rw [if_pos h1] at e ⊢;exact Rk.congr e
 ·rw [if_neg h1] at e ⊢
  by_cases h2:src - d < k/\k<=src
  ·rw [if_pos h2] at e ⊢;exact Rk.congr e
  ·rw [if_neg h2] at e ⊢;exact Rk.congr e
theorem s_bin (C:CmpA prog w A s κ r a₀) {st:SortSt} {lo n ok:Nat} {Q:Bool->SortSt->Prop} (hn:lo+n<=a₀.size) (hok:ok<=n) (B:SB a₀ κ st) (hs:Sg r (arrOf st) lo (lo+ok))
  (h:∀st',SB a₀ κ st'->pendingOf st'=pendingOf st->Pre lo (arrOf st) (arrOf st')->Sg r (arrOf st') lo (lo+n)->Q true st'):wpS (model prog w) A E s (binarySort' lo n ok) Q st:=by
 rw [binarySort'_eq]
 refine wpS_bind (wpS_mono (wpS_forRange (I:=fun k c st'=>c=(none,())/\SB a₀ κ st'/\pendingOf st'=pendingOf st/\Pre lo (arrOf st) (arrOf st')/\Sg r (arrOf st') lo (lo+min k n))
  (Q:=fun c st'=>c=(none,())/\SB a₀ κ st'/\pendingOf st'=pendingOf st/\Pre lo (arrOf st) (arrOf st')/\Sg r (arrOf st') lo (lo+n)) ?step ?fin ?init) ?post)
 case post=>
  rintro c st' ⟨rfl,B',p',e',s'⟩
  exact wpS_pure (h st' B' p' e' s')
 case init=>
  refine ⟨rfl,B,rfl,.refl,fun i j h1 h2 h3=>?_⟩
  by_cases z:ok=0
  ·have:i=j:=by lia
   subst this;exact Int.le_refl _
  ·exact hs i j h1 h2 (by lia)
 case fin=>
  rintro c st' ⟨hc,B',p',e',s'⟩
  refine ⟨hc,B',p',e',?_⟩
  rwa [show min (max (max ok 1) n) n=n by lia] at s'
 case step=>
  rintro k c st' hak hkn ⟨rfl,B',p',e',s'⟩
  rw [show min k n=k by lia] at s'
  have hsz:(arrOf st').size=a₀.size:=B'.size
  refine wpS_bind (wpS_mono (wpS_forRange (a:=0) (I:=fun x c st''=>st''=st'/\∃l q,c=(none,l,q)/\l<=q/\q<=k/\q - l<=k - x/\(∀i,lo<=i->i < lo+l->Rk r (arrOf st') i<=Rk r (arrOf st') (lo+k))/\(∀i,lo+q<=i->i < lo+k->Rk r (arrOf st') (lo+k) < Rk r (arrOf st') i))
   (Q:=fun c st''=>st''=st'/\∃l q,c=(none,l,q)/\l<=k/\(∀i,lo<=i->i < lo+l->Rk r (arrOf st') i<=Rk r (arrOf st') (lo+k))/\(∀i,lo+l<=i->i < lo+k->Rk r (arrOf st') (lo+k) < Rk r (arrOf st') i)) ?istep ?ifin ⟨rfl,0,k,rfl,by lia,by lia,by lia,fun i _ _=>by lia,fun i _ _=>by lia⟩) ?ipost)
  case ifin=>
   rintro c st'' ⟨rfl,l,q,rfl,a1,a2,a3,a4,a5⟩
   have:l=q:=by lia
   subst this
   exact ⟨rfl,l,l,rfl,a2,a4,a5⟩
  case istep=>
   rintro x c st'' _ hx ⟨rfl,l,q,rfl,a1,a2,a3,a4,a5⟩
   try dsimp only
   refine wpS_ite (fun hz=>?_) (fun hz=>?_)
   ·have:l=q:=by lia
    subst this
    exact wpS_pure ⟨rfl,l,l,rfl,a2,a4,a5⟩
   ·refine wpS_bind (s_ltAt C B' (by lia) (by lia) ?_)
    try dsimp only
    refine wpS_ite (fun hc=>?_) (fun hc=>?_)
    ·have hc':=of_decide_eq_true hc
     refine wpS_pure ⟨rfl,l,(l+q) / 2,rfl,by lia,by lia,by lia,a4,fun i h1 h2=>?_⟩
     have:=s' (lo+(l+q) / 2) i (by lia) h1 (by lia)
     lia
    ·have hc':¬(Rk r (arrOf st'') (lo+k) < Rk r (arrOf st'') (lo+(l+q) / 2)):=fun z=>hc (decide_eq_true z)
     refine wpS_pure ⟨rfl,(l+q) / 2+1,q,rfl,by lia,by lia,by lia,fun i h1 h2=>?_,a5⟩
     have:=s' i (lo+(l+q) / 2) h1 (by lia) (by lia)
     lia
  case ipost=>
   rintro c st'' ⟨rfl,l,q,rfl,hlk,a4,a5⟩
   show wpS _ _ _ _ (do moveDown' (lo+k) (lo+l);pure (ForInStep.yield (none,()))) _ _
   rw [moveDown'_eq]
   have hks:lo+k < (arrOf st'').size:=by lia
   have ed:lo+k - (lo+l)=k - l:=by lia
   refine wpS_bind (wpS_modify (wpS_pure ⟨rfl,B'.put (bubble_perm _ _ _),p',e'.trans (Pre.bub hks (by lia)),?_⟩))
   rw [show min (k+1) n=k+1 by lia]
   intro i j h1 h2 h3
   show Rk r (bubble (arrOf st'') (lo+k) (lo+k - (lo+l))) i<=Rk r (bubble (arrOf st'') (lo+k) (lo+k - (lo+l))) j
   rw [rk_bubble hks (by lia),rk_bubble hks (by lia),ed,show lo+k - (k - l)=lo+l by lia]
   repeat' split
   all_goals first
    | (exfalso;lia)
    | exact Int.le_refl _
    | exact a4 _ (by lia) (by lia)
    | exact Int.le_of_lt (a5 _ (by lia) (by lia))
    | exact s' _ _ (by lia) (by lia) (by lia)
end
end L2
end
section
namespace L2
open PySem PySem.W PyProof.Rows
section
variable {prog:Program} {w:World} {A:Around} {E:Value->Shared->Prop} {s:Shared} {κ:SortKind} {r:Keyed->Int} {a₀:Array Keyed}
theorem s_count (C:CmpA prog w A s κ r a₀) {st:SortSt} {lo nrem:Nat} {Q:Option Nat->SortSt->Prop} (hn:lo+nrem<=a₀.size) (hr1:1<=nrem) (B:SB a₀ κ st)
  (h:∀m st',SB a₀ κ st'->pendingOf st'=pendingOf st->Pre lo (arrOf st) (arrOf st')->1<=m->m<=nrem->Sg r (arrOf st') lo (lo+m)->Q (some m) st'):wpS (model prog w) A E s (countRun' lo nrem) Q st:=by
 rw [countRun'_eq]
 try dsimp only
 have s0:Sg r (arrOf st) lo (lo+1):=fun i j h1 h2 h3=>by
  have:i=j:=by lia
  subst this;exact Int.le_refl _
 refine wpS_bind (wpS_mono (wpS_forRange (a:=1) (I:=fun x c st''=>st''=st/\c=(none,x)/\Sg r (arrOf st) lo (lo+x))
  (Q:=fun c st''=>st''=st/\∃n,c=(none,n)/\1<=n/\n<=nrem/\Sg r (arrOf st) lo (lo+n)/\(n=nrem\/Rk r (arrOf st) (lo+n) < Rk r (arrOf st) (lo+n - 1))) ?stepz ?finz ⟨rfl,rfl,s0⟩) ?postz)
 case finz=>
  rintro c st'' ⟨rfl,rfl,s'⟩
  rw [show max (1) nrem=nrem by lia] at s' ⊢
  exact ⟨rfl,nrem,rfl,by lia,Nat.le_refl _,s',.inl rfl⟩
 case stepz=>
  rintro x c st'' hax hxn ⟨e0,rfl,s'⟩
  replace e0:=e0.symm;subst e0
  try dsimp only
  refine wpS_bind (s_ltAt C B (by lia) (by lia) ?_)
  try dsimp only
  refine wpS_ite (fun hc=>?_) (fun hc=>?_)
  ·exact wpS_pure ⟨rfl,x,rfl,hax,by lia,s',.inr (of_decide_eq_true hc)⟩
  ·have hc':=fun z=>hc (decide_eq_true z)
   refine wpS_pure ⟨rfl,rfl,fun i j h1 h2 h3=>?_⟩
   by_cases hj:j < lo+x
   ·exact s' i j h1 h2 hj
   ·have hj':j=lo+x:=by lia
    subst hj'
    by_cases hi:i=lo+x
    ·subst hi;exact Int.le_refl _
    ·have:=s' i (lo+x - 1) h1 (by lia) (by lia)
     exact Int.le_trans this (Int.not_lt.mp hc')
 case postz=>
  intro c st'' hI2
  refine hide fun gG hG=>?_
  obtain ⟨e0,n,rfl,hn0,hn1,s',hor⟩:=hI2
  refine hG ?_
  replace e0:=e0.symm;subst e0
  try dsimp only
  refine wpS_ite (fun hz=>?_) (fun hz=>?_)
  ·have hz':n=nrem:=by simpa using hz
   exact wpS_pure (h n _ B rfl .refl (by lia) hn1 s')
  have hz':n≠nrem:=by simpa using hz
  have hlt:=hor.resolve_left hz'
  have hsz:(arrOf st).size=a₀.size:=B.size
  refine wpS_ite (fun hz2=>?_) (fun hz2=>?_)
  ·refine wpS_bind (s_ltAt C B (by lia) (by lia) ?_)
   try dsimp only
   refine wpS_ite (fun hc=>?_) (fun hc=>?_)
   ·exact wpS_pure (h n _ B rfl .refl (by lia) hn1 s')
   ·have hc':¬(Rk r (arrOf st) lo < Rk r (arrOf st) (lo+n - 1)):=fun z=>hc (decide_eq_true z)
    have hall:∀k,lo<=k->k < lo+n->Rk r (arrOf st) k=Rk r (arrOf st) (lo+n - 1):=fun k h1 h2=>by
     have a1:=s' lo k (by lia) h1 h2
     have a2:=s' k (lo+n - 1) h1 (by lia) (by lia)
     lia
    refine wpS_bind (s_rev ?_)
    have B1:=B.put (mirror_perm _ lo (lo+n) ((lo+n - lo) / 2))
    have e1:Pre lo (arrOf st) (mirror (arrOf st) lo (lo+n) ((lo+n - lo) / 2)):=Pre.mir (Nat.le_refl lo) (by lia)
    have d1:Dg r (arrOf (setArr st (mirror (arrOf st) lo (lo+n) ((lo+n - lo) / 2)))) lo (lo+(n+1)):=fun i j h1 h2 h3=>by
     show Rk r (mirror (arrOf st) _ _ _) j<=Rk r (mirror (arrOf st) _ _ _) i
     rw [rk_mirror_same (by lia) hall,rk_mirror_same (by lia) hall]
     by_cases hj:j < lo+n
     ·rw [hall i h1 (by lia),hall j (by lia) hj];exact Int.le_refl _
     ·have hj':j=lo+n:=by lia
      subst hj'
      by_cases hi:i=lo+n
      ·subst hi;exact Int.le_refl _
      ·rw [hall i h1 (by lia)];exact Int.le_of_lt hlt
    have e1':Pre lo (arrOf st) (arrOf (setArr st (mirror (arrOf st) lo (lo+n) ((lo+n - lo) / 2)))):=e1
    have p1:pendingOf (setArr st (mirror (arrOf st) lo (lo+n) ((lo+n - lo) / 2)))=pendingOf st:=rfl
    clear e1
    generalize setArr st (mirror (arrOf st) lo (lo+n) ((lo+n - lo) / 2))=S1 at B1 d1 e1' p1 ⊢
    refine wpS_bind (wpS_lift (wpAny_rule ⟨rfl,?_⟩))
    refine wpS_bind (wpS_mono (wpS_forRange (a:=n+1) (I:=fun x c st''=>∃q,c=(none,x,q)/\SB a₀ κ st''/\pendingOf st''=pendingOf st/\Pre lo (arrOf st) (arrOf st'')/\Dg r (arrOf st'') lo (lo+x)/\q+1<=x/\(∀i,lo+x - (q+1)<=i->i < lo+x->Rk r (arrOf st'') i=Rk r (arrOf st'') (lo+x - 1)))
     (Q:=fun c st''=>∃x q,c=(none,x,q)/\n+1<=x/\x<=nrem/\SB a₀ κ st''/\pendingOf st''=pendingOf st/\Pre lo (arrOf st) (arrOf st'')/\Dg r (arrOf st'') lo (lo+x)/\q+1<=x/\(∀i,lo+x - (q+1)<=i->i < lo+x->Rk r (arrOf st'') i=Rk r (arrOf st'') (lo+x - 1))) ?dstepx ?dfinx ⟨0,rfl,B1,p1,e1',d1,by lia,fun i h1 h2=>by congr 1;lia⟩) ?dpostx)
    case dfinx=>
     intro c st'' hI2
     refine hide fun gG hG=>?_
     obtain ⟨q,rfl,b1,b2,b3,b4,b5,b6⟩:=hI2
     refine hG ?_
     rw [show max (n+1) nrem=nrem by lia] at b4 b5 b6 ⊢
     exact ⟨nrem,q,rfl,by lia,Nat.le_refl _,b1,b2,b3,b4,b5,b6⟩
    case dstepx=>
     intro x c st'' hax hxn hI5
     refine hide fun gG hG=>?_
     obtain ⟨q,rfl,b1,b2,b3,b4,b5,b6⟩:=hI5
     refine hG ?_
     have hsz:(arrOf st'').size=a₀.size:=b1.size
     try dsimp only
     refine wpS_bind (s_ltAt C b1 (by lia) (by lia) ?_)
     try dsimp only
     refine wpS_ite (fun hc=>?_) (fun hc=>?_)
     ·have hc':=of_decide_eq_true hc
      have stp:∀xs:Array Keyed,(∀k,Rk r xs k=Rk r (arrOf st'') k)->Dg r xs lo (lo+(x+1)):=fun xs hk i j h1 h2 h3=>by
       rw [hk,hk]
       by_cases hj:j < lo+x
       ·exact b4 i j h1 h2 hj
       ·have hj':j=lo+x:=by lia
        subst hj'
        by_cases hi:i=lo+x
        ·subst hi;exact Int.le_refl _
        ·have:=b4 i (lo+x - 1) h1 (by lia) (by lia)
         lia
      refine wpS_ite (fun hq=>?_) (fun hq=>?_)
      ·refine wpS_bind (s_rev (wpS_pure ⟨0,rfl,b1.put (mirror_perm _ _ _ _),b2,b3.trans (Pre.mir (by lia) (by lia)),stp _ (rk_mirror_same (by lia) b6),by lia,fun i h1 h2=>by congr 1;lia⟩))
      ·exact wpS_pure ⟨0,rfl,b1,b2,b3,stp _ (fun _=>rfl),by lia,fun i h1 h2=>by congr 1;lia⟩
     ·have hc':¬(Rk r (arrOf st'') (lo+x) < Rk r (arrOf st'') (lo+x - 1)):=fun z=>hc (decide_eq_true z)
      refine wpS_bind (s_ltAt C b1 (by lia) (by lia) ?_)
      try dsimp only
      refine wpS_ite (fun hd=>?_) (fun hd=>?_)
      ·exact wpS_pure ⟨x,q,rfl,hax,by lia,b1,b2,b3,b4,b5,b6⟩
      ·have hd':¬(Rk r (arrOf st'') (lo+x - 1) < Rk r (arrOf st'') (lo+x)):=fun z=>hd (decide_eq_true z)
       have heq:Rk r (arrOf st'') (lo+x)=Rk r (arrOf st'') (lo+x - 1):=by lia
       refine wpS_pure ⟨q+1,rfl,b1,b2,b3,fun i j h1 h2 h3=>?_,by lia,fun i h1 h2=>?_⟩
       ·by_cases hj:j < lo+x
        ·exact b4 i j h1 h2 hj
        ·have hj':j=lo+x:=by lia
         subst hj'
         by_cases hi:i=lo+x
         ·subst hi;exact Int.le_refl _
         ·rw [heq];exact b4 i (lo+x - 1) h1 (by lia) (by lia)
       ·rw [show lo+(x+1) - 1=lo+x by lia]
        by_cases hi:i=lo+x
        ·subst hi;rfl
        ·rw [heq];exact b6 i (by lia) (by lia)
    case dpostx=>
     intro c S3 hI2
     refine hide fun gG hG=>?_
     obtain ⟨m,q,rfl,hm1,hm2,b1,b2,b3,b4,b5,b6⟩:=hI2
     refine hG ?_
     try dsimp only
     refine wpS_ite (fun hq=>?_) (fun hq=>?_)
     ·refine wpS_bind (s_rev ?_)
      have hsz:(arrOf S3).size=a₀.size:=b1.size
      have B4:=b1.put (mirror_perm _ (lo+m - (q+1)) (lo+m) ((lo+m - (lo+m - (q+1))) / 2))
      have e4:Pre lo (arrOf st) (arrOf (setArr S3 (mirror (arrOf S3) (lo+m - (q+1)) (lo+m) ((lo+m - (lo+m - (q+1))) / 2)))):=b3.trans (Pre.mir (show lo<=lo+m - (q+1) by lia) (show lo+m<=(arrOf S3).size by lia))
      have d4:Dg r (arrOf (setArr S3 (mirror (arrOf S3) (lo+m - (q+1)) (lo+m) ((lo+m - (lo+m - (q+1))) / 2)))) lo (lo+m):=fun i j h1 h2 h3=>by
       show Rk r (mirror (arrOf S3) _ _ _) j<=Rk r (mirror (arrOf S3) _ _ _) i
       rw [rk_mirror_same (by lia) b6,rk_mirror_same (by lia) b6]
       exact b4 i j h1 h2 h3
      have p4:pendingOf (setArr S3 (mirror (arrOf S3) (lo+m - (q+1)) (lo+m) ((lo+m - (lo+m - (q+1))) / 2)))=pendingOf st:=b2
      generalize setArr S3 (mirror (arrOf S3) (lo+m - (q+1)) (lo+m) ((lo+m - (lo+m - (q+1))) / 2))=S4 at B4 e4 d4 p4 ⊢
      refine wpS_bind (s_rev ?_)
      have hsT:=B4.size
      have B2:=B4.put (mirror_perm _ lo (lo+m) ((lo+m - lo) / 2))
      have e2:Pre lo (arrOf st) (arrOf (setArr S4 (mirror (arrOf S4) lo (lo+m) ((lo+m - lo) / 2)))):=e4.trans (Pre.mir (Nat.le_refl lo) (show lo+m<=_ by rw [hsT];lia))
      have s2:Sg r (mirror (arrOf S4) lo (lo+m) ((lo+m - lo) / 2)) lo (lo+m):=fun i j h1 h2 h3=>by
       rw [rk_mirror (by rw [hsT];lia),rk_mirror (by rw [hsT];lia),if_pos (by lia),if_pos (by lia)]
       exact d4 _ _ (by lia) (by lia) (by lia)
      have p2:pendingOf (setArr S4 (mirror (arrOf S4) lo (lo+m) ((lo+m - lo) / 2)))=pendingOf st:=p4
      have s2':Sg r (arrOf (setArr S4 (mirror (arrOf S4) lo (lo+m) ((lo+m - lo) / 2)))) lo (lo+m):=s2
      clear s2
      generalize setArr S4 (mirror (arrOf S4) lo (lo+m) ((lo+m - lo) / 2))=S2 at B2 p2 s2' e2 ⊢
      have s2:=s2'
      refine wpS_bind (wpS_mono (wpS_forRange (a:=m) (I:=fun x c st''=>st''=S2/\c=(none,x)/\Sg r (arrOf S2) lo (lo+x))
       (Q:=fun c st''=>st''=S2/\∃n,c=(none,n)/\m<=n/\n<=nrem/\Sg r (arrOf S2) lo (lo+n)/\(n=nrem\/Rk r (arrOf S2) (lo+n) < Rk r (arrOf S2) (lo+n - 1))) ?stepxa ?finxa ⟨rfl,rfl,s2⟩) ?postxa)
      case finxa=>
       rintro c st'' ⟨rfl,rfl,s'⟩
       rw [show max (m) nrem=nrem by lia] at s' ⊢
       exact ⟨rfl,nrem,rfl,by lia,Nat.le_refl _,s',.inl rfl⟩
      case stepxa=>
       rintro x c st'' hax hxn ⟨e0,rfl,s'⟩
       replace e0:=e0.symm;subst e0
       try dsimp only
       refine wpS_bind (s_ltAt C B2 (by lia) (by lia) ?_)
       try dsimp only
       refine wpS_ite (fun hc=>?_) (fun hc=>?_)
       ·exact wpS_pure ⟨rfl,x,rfl,hax,by lia,s',.inr (of_decide_eq_true hc)⟩
       ·have hc':=fun z=>hc (decide_eq_true z)
        refine wpS_pure ⟨rfl,rfl,fun i j h1 h2 h3=>?_⟩
        by_cases hj:j < lo+x
        ·exact s' i j h1 h2 hj
        ·have hj':j=lo+x:=by lia
         subst hj'
         by_cases hi:i=lo+x
         ·subst hi;exact Int.le_refl _
         ·have:=s' i (lo+x - 1) h1 (by lia) (by lia)
          exact Int.le_trans this (Int.not_lt.mp hc')
      case postxa=>
       intro c st'' hI2
       refine hide fun gG hG=>?_
       obtain ⟨e0,n,rfl,hn0,hn1,s',hor⟩:=hI2
       refine hG ?_
       replace e0:=e0.symm;subst e0
       try dsimp only
       exact wpS_pure (h n _ B2 p2 e2 (by lia) hn1 s')
     ·refine wpS_bind (s_rev ?_)
      have hsT:=b1.size
      have B2:=b1.put (mirror_perm _ lo (lo+m) ((lo+m - lo) / 2))
      have e2:Pre lo (arrOf st) (arrOf (setArr S3 (mirror (arrOf S3) lo (lo+m) ((lo+m - lo) / 2)))):=b3.trans (Pre.mir (Nat.le_refl lo) (show lo+m<=_ by rw [hsT];lia))
      have s2:Sg r (mirror (arrOf S3) lo (lo+m) ((lo+m - lo) / 2)) lo (lo+m):=fun i j h1 h2 h3=>by
       rw [rk_mirror (by rw [hsT];lia),rk_mirror (by rw [hsT];lia),if_pos (by lia),if_pos (by lia)]
       exact b4 _ _ (by lia) (by lia) (by lia)
      have p2:pendingOf (setArr S3 (mirror (arrOf S3) lo (lo+m) ((lo+m - lo) / 2)))=pendingOf st:=b2
      have s2':Sg r (arrOf (setArr S3 (mirror (arrOf S3) lo (lo+m) ((lo+m - lo) / 2)))) lo (lo+m):=s2
      clear s2
      generalize setArr S3 (mirror (arrOf S3) lo (lo+m) ((lo+m - lo) / 2))=S2 at B2 p2 s2' e2 ⊢
      have s2:=s2'
      refine wpS_bind (wpS_mono (wpS_forRange (a:=m) (I:=fun x c st''=>st''=S2/\c=(none,x)/\Sg r (arrOf S2) lo (lo+x))
       (Q:=fun c st''=>st''=S2/\∃n,c=(none,n)/\m<=n/\n<=nrem/\Sg r (arrOf S2) lo (lo+n)/\(n=nrem\/Rk r (arrOf S2) (lo+n) < Rk r (arrOf S2) (lo+n - 1))) ?stepxb ?finxb ⟨rfl,rfl,s2⟩) ?postxb)
      case finxb=>
       rintro c st'' ⟨rfl,rfl,s'⟩
       rw [show max (m) nrem=nrem by lia] at s' ⊢
       exact ⟨rfl,nrem,rfl,by lia,Nat.le_refl _,s',.inl rfl⟩
      case stepxb=>
       rintro x c st'' hax hxn ⟨e0,rfl,s'⟩
       replace e0:=e0.symm;subst e0
       try dsimp only
       refine wpS_bind (s_ltAt C B2 (by lia) (by lia) ?_)
       try dsimp only
       refine wpS_ite (fun hc=>?_) (fun hc=>?_)
       ·exact wpS_pure ⟨rfl,x,rfl,hax,by lia,s',.inr (of_decide_eq_true hc)⟩
       ·have hc':=fun z=>hc (decide_eq_true z)
        refine wpS_pure ⟨rfl,rfl,fun i j h1 h2 h3=>?_⟩
        by_cases hj:j < lo+x
        ·exact s' i j h1 h2 hj
        ·have hj':j=lo+x:=by lia
         subst hj'
         by_cases hi:i=lo+x
         ·subst hi;exact Int.le_refl _
         ·have:=s' i (lo+x - 1) h1 (by lia) (by lia)
          exact Int.le_trans this (Int.not_lt.mp hc')
      case postxb=>
       intro c st'' hI2
       refine hide fun gG hG=>?_
       obtain ⟨e0,n,rfl,hn0,hn1,s',hor⟩:=hI2
       refine hG ?_
       replace e0:=e0.symm;subst e0
       try dsimp only
       exact wpS_pure (h n _ B2 p2 e2 (by lia) hn1 s')
  ·have hn:n=1:=by lia
   have d1:Dg r (arrOf st) lo (lo+(n+1)):=fun i j h1 h2 h3=>by
    by_cases hi:i=j
    ·subst hi;exact Int.le_refl _
    ·have e1:i=lo+n - 1:=by lia
     have e2:j=lo+n:=by lia
     subst e1;subst e2
     exact Int.le_of_lt hlt
   refine wpS_bind (wpS_lift (wpAny_rule ⟨rfl,?_⟩))
   refine wpS_bind (wpS_mono (wpS_forRange (a:=n+1) (I:=fun x c st''=>∃q,c=(none,x,q)/\SB a₀ κ st''/\pendingOf st''=pendingOf st/\Pre lo (arrOf st) (arrOf st'')/\Dg r (arrOf st'') lo (lo+x)/\q+1<=x/\(∀i,lo+x - (q+1)<=i->i < lo+x->Rk r (arrOf st'') i=Rk r (arrOf st'') (lo+x - 1)))
    (Q:=fun c st''=>∃x q,c=(none,x,q)/\n+1<=x/\x<=nrem/\SB a₀ κ st''/\pendingOf st''=pendingOf st/\Pre lo (arrOf st) (arrOf st'')/\Dg r (arrOf st'') lo (lo+x)/\q+1<=x/\(∀i,lo+x - (q+1)<=i->i < lo+x->Rk r (arrOf st'') i=Rk r (arrOf st'') (lo+x - 1))) ?dstepy ?dfiny ⟨0,rfl,B,rfl,.refl,d1,by lia,fun i h1 h2=>by congr 1;lia⟩) ?dposty)
   case dfiny=>
    intro c st'' hI2
    refine hide fun gG hG=>?_
    obtain ⟨q,rfl,b1,b2,b3,b4,b5,b6⟩:=hI2
    refine hG ?_
    rw [show max (n+1) nrem=nrem by lia] at b4 b5 b6 ⊢
    exact ⟨nrem,q,rfl,by lia,Nat.le_refl _,b1,b2,b3,b4,b5,b6⟩
   case dstepy=>
    intro x c st'' hax hxn hI5
    refine hide fun gG hG=>?_
    obtain ⟨q,rfl,b1,b2,b3,b4,b5,b6⟩:=hI5
    refine hG ?_
    have hsz:(arrOf st'').size=a₀.size:=b1.size
    try dsimp only
    refine wpS_bind (s_ltAt C b1 (by lia) (by lia) ?_)
    try dsimp only
    refine wpS_ite (fun hc=>?_) (fun hc=>?_)
    ·have hc':=of_decide_eq_true hc
     have stp:∀xs:Array Keyed,(∀k,Rk r xs k=Rk r (arrOf st'') k)->Dg r xs lo (lo+(x+1)):=fun xs hk i j h1 h2 h3=>by
      rw [hk,hk]
      by_cases hj:j < lo+x
      ·exact b4 i j h1 h2 hj
      ·have hj':j=lo+x:=by lia
       subst hj'
       by_cases hi:i=lo+x
       ·subst hi;exact Int.le_refl _
       ·have:=b4 i (lo+x - 1) h1 (by lia) (by lia)
        lia
     refine wpS_ite (fun hq=>?_) (fun hq=>?_)
     ·refine wpS_bind (s_rev (wpS_pure ⟨0,rfl,b1.put (mirror_perm _ _ _ _),b2,b3.trans (Pre.mir (by lia) (by lia)),stp _ (rk_mirror_same (by lia) b6),by lia,fun i h1 h2=>by congr 1;lia⟩))
     ·exact wpS_pure ⟨0,rfl,b1,b2,b3,stp _ (fun _=>rfl),by lia,fun i h1 h2=>by congr 1;lia⟩
    ·have hc':¬(Rk r (arrOf st'') (lo+x) < Rk r (arrOf st'') (lo+x - 1)):=fun z=>hc (decide_eq_true z)
     refine wpS_bind (s_ltAt C b1 (by lia) (by lia) ?_)
     try dsimp only
     refine wpS_ite (fun hd=>?_) (fun hd=>?_)
     ·exact wpS_pure ⟨x,q,rfl,hax,by lia,b1,b2,b3,b4,b5,b6⟩
     ·have hd':¬(Rk r (arrOf st'') (lo+x - 1) < Rk r (arrOf st'') (lo+x)):=fun z=>hd (decide_eq_true z)
      have heq:Rk r (arrOf st'') (lo+x)=Rk r (arrOf st'') (lo+x - 1):=by lia
      refine wpS_pure ⟨q+1,rfl,b1,b2,b3,fun i j h1 h2 h3=>?_,by lia,fun i h1 h2=>?_⟩
      ·by_cases hj:j < lo+x
       ·exact b4 i j h1 h2 hj
       ·have hj':j=lo+x:=by lia
        subst hj'
        by_cases hi:i=lo+x
        ·subst hi;exact Int.le_refl _
        ·rw [heq];exact b4 i (lo+x - 1) h1 (by lia) (by lia)
      ·rw [show lo+(x+1) - 1=lo+x by lia]
       by_cases hi:i=lo+x
       ·subst hi;rfl
       ·rw [heq];exact b6 i (by lia) (by lia)
   case dposty=>
    intro c S3 hI2
    refine hide fun gG hG=>?_
    obtain ⟨m,q,rfl,hm1,hm2,b1,b2,b3,b4,b5,b6⟩:=hI2
    refine hG ?_
    try dsimp only
    refine wpS_ite (fun hq=>?_) (fun hq=>?_)
    ·refine wpS_bind (s_rev ?_)
     have hsz:(arrOf S3).size=a₀.size:=b1.size
     have B4:=b1.put (mirror_perm _ (lo+m - (q+1)) (lo+m) ((lo+m - (lo+m - (q+1))) / 2))
     have e4:Pre lo (arrOf st) (arrOf (setArr S3 (mirror (arrOf S3) (lo+m - (q+1)) (lo+m) ((lo+m - (lo+m - (q+1))) / 2)))):=b3.trans (Pre.mir (show lo<=lo+m - (q+1) by lia) (show lo+m<=(arrOf S3).size by lia))
     have d4:Dg r (arrOf (setArr S3 (mirror (arrOf S3) (lo+m - (q+1)) (lo+m) ((lo+m - (lo+m - (q+1))) / 2)))) lo (lo+m):=fun i j h1 h2 h3=>by
      show Rk r (mirror (arrOf S3) _ _ _) j<=Rk r (mirror (arrOf S3) _ _ _) i
      rw [rk_mirror_same (by lia) b6,rk_mirror_same (by lia) b6]
      exact b4 i j h1 h2 h3
     have p4:pendingOf (setArr S3 (mirror (arrOf S3) (lo+m - (q+1)) (lo+m) ((lo+m - (lo+m - (q+1))) / 2)))=pendingOf st:=b2
     generalize setArr S3 (mirror (arrOf S3) (lo+m - (q+1)) (lo+m) ((lo+m - (lo+m - (q+1))) / 2))=S4 at B4 e4 d4 p4 ⊢
     refine wpS_bind (s_rev ?_)
     have hsT:=B4.size
     have B2:=B4.put (mirror_perm _ lo (lo+m) ((lo+m - lo) / 2))
     have e2:Pre lo (arrOf st) (arrOf (setArr S4 (mirror (arrOf S4) lo (lo+m) ((lo+m - lo) / 2)))):=e4.trans (Pre.mir (Nat.le_refl lo) (show lo+m<=_ by rw [hsT];lia))
     have s2:Sg r (mirror (arrOf S4) lo (lo+m) ((lo+m - lo) / 2)) lo (lo+m):=fun i j h1 h2 h3=>by
      rw [rk_mirror (by rw [hsT];lia),rk_mirror (by rw [hsT];lia),if_pos (by lia),if_pos (by lia)]
      exact d4 _ _ (by lia) (by lia) (by lia)
     have p2:pendingOf (setArr S4 (mirror (arrOf S4) lo (lo+m) ((lo+m - lo) / 2)))=pendingOf st:=p4
     have s2':Sg r (arrOf (setArr S4 (mirror (arrOf S4) lo (lo+m) ((lo+m - lo) / 2)))) lo (lo+m):=s2
     clear s2
     generalize setArr S4 (mirror (arrOf S4) lo (lo+m) ((lo+m - lo) / 2))=S2 at B2 p2 s2' e2 ⊢
     have s2:=s2'
     refine wpS_bind (wpS_mono (wpS_forRange (a:=m) (I:=fun x c st''=>st''=S2/\c=(none,x)/\Sg r (arrOf S2) lo (lo+x))
      (Q:=fun c st''=>st''=S2/\∃n,c=(none,n)/\m<=n/\n<=nrem/\Sg r (arrOf S2) lo (lo+n)/\(n=nrem\/Rk r (arrOf S2) (lo+n) < Rk r (arrOf S2) (lo+n - 1))) ?stepya ?finya ⟨rfl,rfl,s2⟩) ?postya)
     case finya=>
      rintro c st'' ⟨rfl,rfl,s'⟩
      rw [show max (m) nrem=nrem by lia] at s' ⊢
      exact ⟨rfl,nrem,rfl,by lia,Nat.le_refl _,s',.inl rfl⟩
     case stepya=>
      rintro x c st'' hax hxn ⟨e0,rfl,s'⟩
      replace e0:=e0.symm;subst e0
      try dsimp only
      refine wpS_bind (s_ltAt C B2 (by lia) (by lia) ?_)
      try dsimp only
      refine wpS_ite (fun hc=>?_) (fun hc=>?_)
      ·exact wpS_pure ⟨rfl,x,rfl,hax,by lia,s',.inr (of_decide_eq_true hc)⟩
      ·have hc':=fun z=>hc (decide_eq_true z)
       refine wpS_pure ⟨rfl,rfl,fun i j h1 h2 h3=>?_⟩
       by_cases hj:j < lo+x
       ·exact s' i j h1 h2 hj
       ·have hj':j=lo+x:=by lia
        subst hj'
        by_cases hi:i=lo+x
        ·subst hi;exact Int.le_refl _
        ·have:=s' i (lo+x - 1) h1 (by lia) (by lia)
         exact Int.le_trans this (Int.not_lt.mp hc')
     case postya=>
      intro c st'' hI2
      refine hide fun gG hG=>?_
      obtain ⟨e0,n,rfl,hn0,hn1,s',hor⟩:=hI2
      refine hG ?_
      replace e0:=e0.symm;subst e0
      try dsimp only
      exact wpS_pure (h n _ B2 p2 e2 (by lia) hn1 s')
    ·refine wpS_bind (s_rev ?_)
     have hsT:=b1.size
     have B2:=b1.put (mirror_perm _ lo (lo+m) ((lo+m - lo) / 2))
     have e2:Pre lo (arrOf st) (arrOf (setArr S3 (mirror (arrOf S3) lo (lo+m) ((lo+m - lo) / 2)))):=b3.trans (Pre.mir (Nat.le_refl lo) (show lo+m<=_ by rw [hsT];lia))
     have s2:Sg r (mirror (arrOf S3) lo (lo+m) ((lo+m - lo) / 2)) lo (lo+m):=fun i j h1 h2 h3=>by
      rw [rk_mirror (by rw [hsT];lia),rk_mirror (by rw [hsT];lia),if_pos (by lia),if_pos (by lia)]
      exact b4 _ _ (by lia) (by lia) (by lia)
     have p2:pendingOf (setArr S3 (mirror (arrOf S3) lo (lo+m) ((lo+m - lo) / 2)))=pendingOf st:=b2
     have s2':Sg r (arrOf (setArr S3 (mirror (arrOf S3) lo (lo+m) ((lo+m - lo) / 2)))) lo (lo+m):=s2
     clear s2
     generalize setArr S3 (mirror (arrOf S3) lo (lo+m) ((lo+m - lo) / 2))=S2 at B2 p2 s2' e2 ⊢
     have s2:=s2'
     refine wpS_bind (wpS_mono (wpS_forRange (a:=m) (I:=fun x c st''=>st''=S2/\c=(none,x)/\Sg r (arrOf S2) lo (lo+x))
      (Q:=fun c st''=>st''=S2/\∃n,c=(none,n)/\m<=n/\n<=nrem/\Sg r (arrOf S2) lo (lo+n)/\(n=nrem\/Rk r (arrOf S2) (lo+n) < Rk r (arrOf S2) (lo+n - 1))) ?stepyb ?finyb ⟨rfl,rfl,s2⟩) ?postyb)
     case finyb=>
      rintro c st'' ⟨rfl,rfl,s'⟩
      rw [show max (m) nrem=nrem by lia] at s' ⊢
      exact ⟨rfl,nrem,rfl,by lia,Nat.le_refl _,s',.inl rfl⟩
     case stepyb=>
      rintro x c st'' hax hxn ⟨e0,rfl,s'⟩
      replace e0:=e0.symm;subst e0
      try dsimp only
      refine wpS_bind (s_ltAt C B2 (by lia) (by lia) ?_)
      try dsimp only
      refine wpS_ite (fun hc=>?_) (fun hc=>?_)
      ·exact wpS_pure ⟨rfl,x,rfl,hax,by lia,s',.inr (of_decide_eq_true hc)⟩
      ·have hc':=fun z=>hc (decide_eq_true z)
       refine wpS_pure ⟨rfl,rfl,fun i j h1 h2 h3=>?_⟩
       by_cases hj:j < lo+x
       ·exact s' i j h1 h2 hj
       ·have hj':j=lo+x:=by lia
        subst hj'
        by_cases hi:i=lo+x
        ·subst hi;exact Int.le_refl _
        ·have:=s' i (lo+x - 1) h1 (by lia) (by lia)
         exact Int.le_trans this (Int.not_lt.mp hc')
     case postyb=>
      intro c st'' hI2
      refine hide fun gG hG=>?_
      obtain ⟨e0,n,rfl,hn0,hn1,s',hor⟩:=hI2
      refine hG ?_
      replace e0:=e0.symm;subst e0
      try dsimp only
      exact wpS_pure (h n _ B2 p2 e2 (by lia) hn1 s')
end
end L2
end
section
namespace L2
open PySem PySem.W PyProof.Rows
theorem fold_set:∀(l:List Keyed) (n:Nat) (xs:Array Keyed) (sa:Nat),sa+n+l.length<=xs.size->∀k:Nat,
  ((l.zipIdx n).foldl (fun a (q:Keyed×Nat)=>a.setIfInBounds (sa+q.2) q.1) xs)[k]? = if sa+n<=k/\k < sa+n+l.length then l[k - (sa+n)]? else xs[k]?
 | [],n,xs,sa,_,k=>by rw [if_neg (by simp)];rfl
 | z::l,n,xs,sa,h,k=>by
  rw [List.length_cons] at h
  show (List.foldl _ (xs.setIfInBounds (sa+n) z) (l.zipIdx (n+1)))[k]? = _
  rw [fold_set l (n+1) _ sa (by rw [Array.size_setIfInBounds];lia) k,List.length_cons]
  by_cases h1:sa+(n+1)<=k/\k < sa+(n+1)+l.length
  ·rw [if_pos h1,if_pos (by lia),show k - (sa+n)=(k - (sa+(n+1)))+1 by lia,List.getElem?_cons_succ]
  ·rw [if_neg h1]
   by_cases h2:k=sa+n
   ·subst h2
    rw [if_pos (by lia),Nat.sub_self,List.getElem?_cons_zero,Array.getElem?_setIfInBounds_self_of_lt (by lia)]
   ·rw [if_neg (by lia),Array.getElem?_setIfInBounds_ne (by lia)]
theorem fold_arr (R:Array Keyed) (xs:Array Keyed) (sa:Nat):(R.toList.zipIdx.foldl (fun a (x:Keyed×Nat)=>match x with | (p,j)=>a.setIfInBounds (sa+j) p) xs)=(R.toList.zipIdx.foldl (fun a (q:Keyed×Nat)=>a.setIfInBounds (sa+q.2) q.1) xs):=rfl
section
variable {r:Keyed->Int} {xs ys:Array Keyed}
theorem Sg.congr {lo hi:Nat} (h:Sg r xs lo hi) (e:∀k,lo<=k->k < hi->ys[k]? = xs[k]?):Sg r ys lo hi:=fun i j h1 h2 h3=>by
 rw [Rk.congr (e i h1 (by lia)),Rk.congr (e j (by lia) h3)];exact h i j h1 h2 h3
theorem sg_list {lo hi:Nat} (h:Sg r xs lo hi) (hh:hi<=xs.size):SrtL r (xs.extract lo hi).toList:=by
 refine List.pairwise_iff_getElem.mpr fun i j hi1 hj1 hij=>?_
 have s1:(xs.extract lo hi).toList.length=hi - lo:=by rw [Array.length_toList,Array.size_extract];lia
 rw [s1] at hi1 hj1
 have:=h (lo+i) (lo+j) (by lia) (by lia) (by lia)
 rw [Rk.eq (by lia),Rk.eq (by lia)] at this
 simpa using this
theorem list_sg {L:List Keyed} (h:SrtL r L) {u:Nat} (e:∀k,k < L.length->ys[u+k]? = L[k]?):Sg r ys u (u+L.length):=fun i j h1 h2 h3=>by
 have ei:=e (i - u) (by lia)
 have ej:=e (j - u) (by lia)
 rw [show u+(i - u)=i by lia] at ei
 rw [show u+(j - u)=j by lia] at ej
 have hi1:i - u < L.length:=by lia
 have hj1:j - u < L.length:=by lia
 unfold Rk
 rw [ei,ej,List.getElem?_eq_getElem hi1,List.getElem?_eq_getElem hj1]
 rcases Nat.lt_or_eq_of_le h2 with z | z
 ·exact (List.pairwise_iff_getElem.mp h) (i - u) (j - u) hi1 hj1 (by lia)
 ·subst z;exact Int.le_refl _
def Segs (r:Keyed->Int) (xs:Array Keyed):Nat->List (Nat×Nat×Nat)->Nat->Prop
 | lo,[],hi=>lo=hi
 | lo,p::ps,hi=>p.1=lo/\1<=p.2.1/\Sg r xs lo (lo+p.2.1)/\Segs r xs (lo+p.2.1) ps hi
theorem Segs.le:∀{lo:Nat} {ps:List (Nat×Nat×Nat)} {hi:Nat},Segs r xs lo ps hi->lo+ps.length<=hi
 | lo,[],hi,h=>by have:lo=hi:=h;simp;lia
 | lo,p::ps,hi,⟨h1,h2,_,h4⟩=>by have:=h4.le;rw [List.length_cons];lia
theorem Segs.congr:∀{lo:Nat} {ps:List (Nat×Nat×Nat)} {hi:Nat},Segs r xs lo ps hi->(∀k,lo<=k->k < hi->ys[k]? = xs[k]?)->Segs r ys lo ps hi
 | lo,[],hi,h,_=>h
 | lo,p::ps,hi,⟨h1,h2,h3,h4⟩,e=>⟨h1,h2,h3.congr fun k a b=>e k a (by have:=h4.le;lia),h4.congr fun k a b=>e k (by lia) b⟩
theorem Segs.app:∀{lo:Nat} {ps qs:List (Nat×Nat×Nat)} {hi:Nat},Segs r xs lo (ps++qs) hi↔∃m,Segs r xs lo ps m/\Segs r xs m qs hi
 | lo,[],qs,hi=>⟨fun h=>⟨lo,rfl,h⟩,fun ⟨m,h1,h2⟩=>by have:lo=m:=h1;subst this;exact h2⟩
 | lo,p::ps,qs,hi=>⟨fun ⟨h1,h2,h3,h4⟩=>by
   obtain ⟨m,a,b⟩:=Segs.app.mp h4
   exact ⟨m,⟨h1,h2,h3,a⟩,b⟩,fun ⟨m,⟨h1,h2,h3,a⟩,b⟩=>⟨h1,h2,h3,Segs.app.mpr ⟨m,a,b⟩⟩⟩
end
theorem perm_mid {xs ys M:List Keyed} {u v:Nat} (huv:u<=v) (hM:M.Perm ((xs.drop u).take (v - u))) (e:ys=xs.take u++M++xs.drop v):ys.Perm xs:=by
 have e2:xs=xs.take u++(xs.drop u).take (v - u)++xs.drop v:=by
  have h1:=(List.take_append_drop u xs).symm
  have h2:=(List.take_append_drop (v - u) (xs.drop u)).symm
  rw [List.drop_drop,show u+(v - u)=v by lia] at h2
  rw [List.append_assoc,<-h2];exact h1
 rw [e]
 conv=>rhs;rw [e2]
 exact List.Perm.append_right _ (List.Perm.append_left _ hM)
section
variable {prog:Program} {w:World} {A:Around} {E:Value->Shared->Prop} {s:Shared} {κ:SortKind} {r:Keyed->Int} {a₀:Array Keyed}
theorem erase_set {α:Type} (pre post:List α) (x y z:α):((pre++x::y::post).set pre.length z).eraseIdx (pre.length+1)=pre++z::post:=by
 rw [List.set_append_right _ _ (Nat.le_refl _),Nat.sub_self,List.set_cons_zero,List.eraseIdx_append_of_length_le (by lia)]
 simp
theorem s_mAt (C:CmpA prog w A s κ r a₀) {st:SortSt} {pre post:List (Nat×Nat×Nat)} {p q:Nat×Nat×Nat} {hi:Nat} {Q:Bool->SortSt->Prop} (B:SB a₀ κ st) (hp:(pendingOf st).toList=pre++p::q::post) (sg:Segs r (arrOf st) 0 (pre++p::q::post) hi) (hh:hi<=a₀.size)
  (h:∀st',SB a₀ κ st'->(pendingOf st').toList=pre++(p.1,p.2.1+q.2.1,p.2.2)::post->Segs r (arrOf st') 0 (pre++(p.1,p.2.1+q.2.1,p.2.2)::post) hi->(∀k,hi<=k->(arrOf st')[k]? = (arrOf st)[k]?)->Q true st'):wpS (model prog w) A E s (mergeAt' pre.length) Q st:=by
 refine hide fun gG hG=>?_
 obtain ⟨sa,na,pw⟩:=p
 obtain ⟨sb,nb,pw2⟩:=q
 obtain ⟨m,sg1,e1,g1,g2,e2,g3,g4,sg2⟩:=Segs.app.mp sg
 refine hG ?_
 dsimp only at e1 g1 g2 e2 g3 g4 sg2 h
 subst e1 e2
 have hm:=sg2.le
 have hsz:=B.size
 have hU:∀z∈arrOf st,z∈a₀:=fun z hz=>B.mem hz
 have sg0:∀ys:Array Keyed,(∀k,k < sa->ys[k]? = (arrOf st)[k]?)->(∀k,sa+na+nb<=k->ys[k]? = (arrOf st)[k]?)->Sg r ys sa (sa+na+nb)->Segs r ys 0 (pre++(sa,na+nb,pw)::post) hi:=fun ys k1 k2 k3=>
  Segs.app.mpr ⟨sa,sg1.congr fun k _ b=>k1 k b,rfl,by show 1<=na+nb;lia,by rw [<-Nat.add_assoc];exact k3,by
   show Segs r ys (sa+(na+nb)) post hi
   rw [<-Nat.add_assoc];exact sg2.congr fun k a _=>k2 k a⟩
 have x1:(pendingOf st)[pre.length]? = some (sa,na,pw):=by rw [<-Array.getElem?_toList,hp];simp
 have x2:(pendingOf st)[pre.length+1]? = some (sa+na,nb,pw2):=by rw [<-Array.getElem?_toList,hp,List.getElem?_append_right (by lia)];simp
 rw [mAt_eq]
 refine wpS_bind (wpS_get ?_)
 rw [x1,x2]
 dsimp only
 have pe:(((pendingOf st).setIfInBounds pre.length (sa,na+nb,pw)).eraseIdxIfInBounds (pre.length+1)).toList=pre++(sa,na+nb,pw)::post:=by
  have hl:pre.length+1 < (pendingOf st).size:=by rw [<-Array.length_toList,hp];simp
  rw [Array.eraseIdxIfInBounds,dif_pos (by rw [Array.size_setIfInBounds];exact hl),Array.toList_eraseIdx,Array.toList_setIfInBounds,hp]
  exact erase_set pre post _ _ _
 have wset:∀{Q':PUnit->SortSt->Prop} {v st0:SortSt},Q' ⟨⟩ v->wpS (model prog w) A E s (set v:StateT SortSt Sem PUnit) Q' st0:=fun {Q' v st0} hq=>by
  unfold wpS;rw [StateT.run_set];exact wpAny_pure ⟨rfl,hq⟩
 refine wpS_bind (wset ?_)
 have B1:SB a₀ κ (setPending st (((pendingOf st).setIfInBounds pre.length (sa,na+nb,pw)).eraseIdxIfInBounds (pre.length+1))):=⟨B.perm,B.kind,B.ok⟩
 have q1:(pendingOf (setPending st (((pendingOf st).setIfInBounds pre.length (sa,na+nb,pw)).eraseIdxIfInBounds (pre.length+1)))).toList=pre++(sa,na+nb,pw)::post:=pe
 have q2:arrOf (setPending st (((pendingOf st).setIfInBounds pre.length (sa,na+nb,pw)).eraseIdxIfInBounds (pre.length+1)))=arrOf st:=rfl
 generalize setPending st (((pendingOf st).setIfInBounds pre.length (sa,na+nb,pw)).eraseIdxIfInBounds (pre.length+1))=S1 at B1 q1 q2 ⊢
 have srt1:∀i j (h1:i<=j) (h2:sa+j < (arrOf st).size),j < na->r ((arrOf st)[sa+i]'(by lia))<=r (arrOf st)[sa+j]:=fun i j h1 h2 h3=>by
  have:=g2 (sa+i) (sa+j) (by lia) (by lia) (by lia)
  rwa [Rk.eq (by lia),Rk.eq h2] at this
 have srt2:∀i j (h1:i<=j) (h2:sa+na+j < (arrOf st).size),j < nb->r ((arrOf st)[sa+na+i]'(by lia))<=r (arrOf st)[sa+na+j]:=fun i j h1 h2 h3=>by
  have:=g4 (sa+na+i) (sa+na+j) (by lia) (by lia) (by lia)
  rwa [Rk.eq (by lia),Rk.eq h2] at this
 have hb0:sa+na < (arrOf st).size:=by lia
 refine wpS_bind (s_elem hb0 ?_)
 refine wpS_bind (s_gal C (by lia) (by lia) hU (hU _ (Array.getElem_mem _)) B1.kind srt1 fun k k1 k2 k3=>?_)
 dsimp only
 have k2':∀i,sa<=i->i < sa+k->Rk r (arrOf st) i<=Rk r (arrOf st) (sa+na):=fun i h1 h2=>by
  have:=k2 (i - sa) (by lia) (by lia)
  rw [Rk.eq (by lia),Rk.eq hb0]
  have e:sa+(i - sa)=i:=by lia
  simpa [isA,e] using this
 have k3':∀i,sa+k<=i->i < sa+na->Rk r (arrOf st) (sa+na) < Rk r (arrOf st) i:=fun i h1 h2=>by
  have:=k3 (i - sa) (by lia) (by lia) (by lia)
  rw [Rk.eq hb0,Rk.eq (by lia)]
  have e:sa+(i - sa)=i:=by lia
  simpa [isA,e] using this
 refine wpS_ite (fun hz=>?_) (fun hz=>?_)
 ·have hz':na - k=0:=by simpa using hz
  refine wpS_pure (h S1 B1 q1 (sg0 _ (fun k _=>by rw [q2]) (fun k _=>by rw [q2]) ?_) (fun k _=>by rw [q2]))
  rw [q2]
  intro i j h1 h2 h3
  by_cases ci:i < sa+na
  ·by_cases cj:j < sa+na
   ·exact g2 i j h1 h2 cj
   ·have a1:=k2' i h1 (by lia)
    have a2:=g4 (sa+na) j (by lia) (by lia) h3
    lia
  ·exact g4 i j (by lia) h2 h3
 have hz':na - k≠0:=by simpa using hz
 have hla:sa+k+(na - k) - 1=sa+na - 1:=by lia
 refine wpS_bind (s_elem (by lia) ?_)
 refine wpS_bind (s_gal C (by lia) (by lia) hU (hU _ (Array.getElem_mem _)) B1.kind srt2 fun f f1 f2 f3=>?_)
 dsimp only
 have hl0:sa+na - 1 < (arrOf st).size:=by lia
 have f2':∀i,sa+na<=i->i < sa+na+f->Rk r (arrOf st) i < Rk r (arrOf st) (sa+na - 1):=fun i h1 h2=>by
  have:=f2 (i - (sa+na)) (by lia) (by lia)
  rw [Rk.eq (by lia),Rk.eq hl0]
  have e:sa+na+(i - (sa+na))=i:=by lia
  simpa [isA,e,hla] using this
 have f3':∀i,sa+na+f<=i->i < sa+na+nb->Rk r (arrOf st) (sa+na - 1)<=Rk r (arrOf st) i:=fun i h1 h2=>by
  have:=f3 (i - (sa+na)) (by lia) (by lia) (by lia)
  rw [Rk.eq hl0,Rk.eq (by lia)]
  have e:sa+na+(i - (sa+na))=i:=by lia
  simpa [isA,e,hla] using this
 refine wpS_ite (fun hz2=>?_) (fun hz2=>?_)
 ·have hz2':f=0:=by simpa using hz2
  refine wpS_pure (h S1 B1 q1 (sg0 _ (fun k _=>by rw [q2]) (fun k _=>by rw [q2]) ?_) (fun k _=>by rw [q2]))
  rw [q2]
  intro i j h1 h2 h3
  by_cases ci:i < sa+na
  ·by_cases cj:j < sa+na
   ·exact g2 i j h1 h2 cj
   ·have a1:=g2 i (sa+na - 1) h1 (by lia) (by lia)
    have a2:=f3' j (by lia) h3
    lia
  ·exact g4 i j (by lia) h2 h3
 have hz2':f≠0:=by simpa using hz2
 have zx:((arrOf st).extract (sa+k) (sa+na)).size=na - k:=by rw [Array.size_extract];lia
 have zy:((arrOf st).extract (sa+na) (sa+na+f)).size=f:=by rw [Array.size_extract];lia
 have ux:∀z∈(arrOf st).extract (sa+k) (sa+na),z∈a₀:=fun z hz=>hU z (Array.mem_extract_iff_getElem.mp hz |> fun ⟨i,hi,e⟩=>by rw [<-e];exact Array.getElem_mem _)
 have uy:∀z∈(arrOf st).extract (sa+na) (sa+na+f),z∈a₀:=fun z hz=>hU z (Array.mem_extract_iff_getElem.mp hz |> fun ⟨i,hi,e⟩=>by rw [<-e];exact Array.getElem_mem _)
 have sx:SrtL r ((arrOf st).extract (sa+k) (sa+na)).toList:=sg_list (fun i j h1 h2 h3=>g2 i j (by lia) h2 h3) (by lia)
 have sy:SrtL r ((arrOf st).extract (sa+na) (sa+na+f)).toList:=sg_list (fun i j h1 h2 h3=>g4 i j (by lia) h2 (by lia)) (by lia)
 have atx:∀i (hi:i < ((arrOf st).extract (sa+k) (sa+na)).size),r ((arrOf st).extract (sa+k) (sa+na))[i]=Rk r (arrOf st) (sa+k+i):=fun i hi=>by
  rw [Rk.eq (by lia),Array.getElem_extract]
 have aty:∀i (hi:i < ((arrOf st).extract (sa+na) (sa+na+f)).size),r ((arrOf st).extract (sa+na) (sa+na+f))[i]=Rk r (arrOf st) (sa+na+i):=fun i hi=>by
  rw [Rk.eq (by lia),Array.getElem_extract]
 have key:∀(R:Array Keyed) (g:Nat),Good r ((arrOf st).extract (sa+k) (sa+na)) ((arrOf st).extract (sa+na) (sa+na+f)) R->
   wpS (model prog w) A E s (do
    modify fun st=>setArr st (R.toList.zipIdx.foldl (fun a (x:Keyed×Nat)=>match x with | (p,j)=>a.setIfInBounds (sa+k+j) p) (arrOf st))
    let z <-get
    pure (failedOf z).isNone) Q (setGal S1 g):=fun R g ⟨hpR,hsR⟩=>by
  have lR:R.toList.length=na - k+f:=by
   have:=hpR.length_eq
   rw [List.length_append,Array.length_toList,Array.length_toList,Array.length_toList,zx,zy] at this
   rw [Array.length_toList];exact this
  have fs:∀i:Nat,(R.toList.zipIdx.foldl (fun a (x:Keyed×Nat)=>match x with | (p,j)=>a.setIfInBounds (sa+k+j) p) (arrOf st))[i]? = if sa+k<=i/\i < sa+na+f then R.toList[i - (sa+k)]? else (arrOf st)[i]?:=fun i=>by
   rw [fold_arr,fold_set R.toList 0 (arrOf st) (sa+k) (by rw [lR];lia) i,lR]
   by_cases c:sa+k<=i/\i < sa+na+f
   ·rw [if_pos c,if_pos (by lia)];simp
   ·rw [if_neg c,if_neg (by lia)]
  refine wpS_bind (wpS_modify (wpS_bind (wpS_get (wpS_pure ?_))))
  have eA:arrOf (setGal S1 g)=arrOf st:=q2
  rw [eA]
  have B2:SB a₀ κ (setArr (setGal S1 g) (R.toList.zipIdx.foldl (fun a (x:Keyed×Nat)=>match x with | (p,j)=>a.setIfInBounds (sa+k+j) p) (arrOf st))):=by
   refine ⟨?_,B1.kind,B1.ok⟩
   refine Array.Perm.trans ?_ B.perm
   show (R.toList.zipIdx.foldl (fun a (x:Keyed×Nat)=>match x with | (p,j)=>a.setIfInBounds (sa+k+j) p) (arrOf st)).Perm (arrOf st)
   refine Array.perm_iff_toList_perm.mpr (perm_mid (u:=sa+k) (v:=sa+na+f) (by lia) (M:=R.toList) ?_ ?_)
   ·refine hpR.trans ?_
    show (((arrOf st).extract (sa+k) (sa+na)).toList++((arrOf st).extract (sa+na) (sa+na+f)).toList).Perm _
    rw [ext_list,ext_list,take_cut (x:=sa+na+f - (sa+k)) (e:=sa+na - (sa+k)) _ (by lia),List.drop_drop,show sa+k+(sa+na - (sa+k))=sa+na by lia,show sa+na+f - (sa+k) - (sa+na - (sa+k))=sa+na+f - (sa+na) by lia]
   ·refine List.ext_getElem? fun i=>?_
    rw [Array.getElem?_toList,fs i]
    have lt1:((arrOf st).toList.take (sa+k)).length=sa+k:=by rw [List.length_take,Array.length_toList];lia
    by_cases c1:i < sa+k
    ·rw [if_neg (by lia),List.append_assoc,List.getElem?_append_left (by lia),List.getElem?_take,if_pos c1,Array.getElem?_toList]
    ·by_cases c2:i < sa+na+f
     ·rw [if_pos (by lia),List.append_assoc,List.getElem?_append_right (by lia),lt1,List.getElem?_append_left (by lia)]
     ·rw [if_neg (by lia),List.getElem?_append_right (by rw [List.length_append,lt1,lR];lia),List.length_append,lt1,lR,List.getElem?_drop,Array.getElem?_toList]
      congr 1
      lia
  have eok:(failedOf (setArr (setGal S1 g) (R.toList.zipIdx.foldl (fun a (x:Keyed×Nat)=>match x with | (p,j)=>a.setIfInBounds (sa+k+j) p) (arrOf st)))).isNone=true:=by
   have:failedOf S1=none:=B1.ok
   show (failedOf S1).isNone=true
   rw [this];rfl
  rw [eok]
  refine h _ B2 q1 (sg0 _ (fun i hi=>by show (R.toList.zipIdx.foldl _ (arrOf st))[i]? = _;rw [fs,if_neg (by lia)]) (fun i hi=>by show (R.toList.zipIdx.foldl _ (arrOf st))[i]? = _;rw [fs,if_neg (by lia)]) ?_) (fun i hi=>by show (R.toList.zipIdx.foldl _ (arrOf st))[i]? = _;rw [fs,if_neg (by lia)])
  show Sg r (R.toList.zipIdx.foldl (fun a (x:Keyed×Nat)=>match x with | (p,j)=>a.setIfInBounds (sa+k+j) p) (arrOf st)) sa (sa+na+nb)
  generalize R.toList.zipIdx.foldl (fun a (x:Keyed×Nat)=>match x with | (p,j)=>a.setIfInBounds (sa+k+j) p) (arrOf st)=ys at fs
  have out:∀i,¬(sa+k<=i/\i < sa+na+f)->Rk r ys i=Rk r (arrOf st) i:=fun i hi=>Rk.congr (by rw [fs,if_neg hi])
  have mid:Sg r ys (sa+k) (sa+k+R.toList.length):=list_sg hsR fun i hi=>by rw [fs,if_pos (by lia)];congr 1;lia
  rw [lR] at mid
  have src:∀i,sa+k<=i->i < sa+na+f->∃t,sa+k<=t/\t < sa+na+f/\Rk r ys i=Rk r (arrOf st) t:=fun i h1 h2=>by
   have hi:i - (sa+k) < R.toList.length:=by lia
   have e:=fs i
   rw [if_pos ⟨h1,h2⟩,List.getElem?_eq_getElem hi] at e
   have hm:=hpR.mem_iff.mp (List.getElem_mem hi)
   have e3:Rk r ys i=r R.toList[i - (sa+k)]:=by unfold Rk;rw [e]
   rcases List.mem_append.mp hm with hm | hm
   ·obtain ⟨t,ht,et⟩:=List.mem_iff_getElem.mp hm
    rw [Array.length_toList] at ht
    have et':((arrOf st).extract (sa+k) (sa+na))[t]=R.toList[i - (sa+k)]:=by simpa using et
    exact ⟨sa+k+t,by lia,by lia,by rw [e3,<-et',atx t ht]⟩
   ·obtain ⟨t,ht,et⟩:=List.mem_iff_getElem.mp hm
    rw [Array.length_toList] at ht
    have et':((arrOf st).extract (sa+na) (sa+na+f))[t]=R.toList[i - (sa+k)]:=by simpa using et
    exact ⟨sa+na+t,by lia,by lia,by rw [e3,<-et',aty t ht]⟩
  have low:∀i t,sa<=i->i < sa+k->sa+k<=t->t < sa+na+nb->Rk r (arrOf st) i<=Rk r (arrOf st) t:=fun i t h1 h2 h3 h4=>by
   by_cases c:t < sa+na
   ·exact g2 i t h1 (by lia) c
   ·have a1:=k2' i h1 h2
    have a2:=g4 (sa+na) t (by lia) (by lia) h4
    lia
  have high:∀t j,sa<=t->t < sa+na+f->sa+na+f<=j->j < sa+na+nb->Rk r (arrOf st) t<=Rk r (arrOf st) j:=fun t j h1 h2 h3 h4=>by
   by_cases c:t < sa+na
   ·have a1:=g2 t (sa+na - 1) h1 (by lia) (by lia)
    have a2:=f3' j h3 h4
    lia
   ·exact g4 t j (by lia) (by lia) h4
  intro i j h1 h2 h3
  by_cases ci:i < sa+k
  ·rw [out i (by lia)]
   by_cases cj:j < sa+k
   ·rw [out j (by lia)];exact g2 i j h1 h2 (by lia)
   ·by_cases cj2:j < sa+na+f
    ·refine hide fun gG hG=>?_
     obtain ⟨t,t1,t2,t3⟩:=src j (by lia) cj2
     refine hG ?_
     rw [t3];exact low i t h1 ci t1 (by lia)
    ·rw [out j (by lia)];exact low i j h1 ci (by lia) h3
  ·by_cases ci2:i < sa+na+f
   ·by_cases cj2:j < sa+na+f
    ·exact mid i j (by lia) h2 (by lia)
    ·refine hide fun gG hG=>?_
     obtain ⟨t,t1,t2,t3⟩:=src i (by lia) ci2
     refine hG ?_
     rw [t3,out j (by lia)];exact high t j (by lia) t2 (by lia) h3
   ·rw [out i (by lia),out j (by lia)];exact g4 i j (by lia) h2 h3
 have h0x:0 < ((arrOf st).extract (sa+k) (sa+na)).size:=by lia
 have h0y:0 < ((arrOf st).extract (sa+na) (sa+na+f)).size:=by lia
 have c0:r ((arrOf st).extract (sa+na) (sa+na+f))[0] < r ((arrOf st).extract (sa+k) (sa+na))[0]:=by
  rw [aty 0 h0y,atx 0 h0x];exact k3' _ (by lia) (by lia)
 have cl:∀v∈(arrOf st).extract (sa+na) (sa+na+f),r v<=r (((arrOf st).extract (sa+k) (sa+na))[((arrOf st).extract (sa+k) (sa+na)).size - 1]'(by lia)):=fun v hv=>by
  obtain ⟨i,hi,rfl⟩:=Array.mem_iff_getElem.mp hv
  rw [aty i hi,atx _ (by lia)]
  have:=f2' (sa+na+i) (by lia) (by lia)
  rw [zx,show sa+k+(na - k - 1)=sa+na - 1 by lia]
  lia
 have cf:∀v∈(arrOf st).extract (sa+k) (sa+na),r ((arrOf st).extract (sa+na) (sa+na+f))[0]<=r v:=fun v hv=>by
  obtain ⟨i,hi,rfl⟩:=Array.mem_iff_getElem.mp hv
  rw [aty 0 h0y,atx i hi]
  have:=k3' (sa+k+i) (by lia) (by lia)
  simp only [Nat.add_zero]
  lia
 refine wpS_ite (fun _=>?_) (fun _=>?_)
 ·refine wpS_bind (s_mLo C B1.kind ux uy sx sy h0x h0y (by lia) cl fun R g hR=>?_)
  exact key R g hR
 ·refine wpS_bind (s_mHi C B1.kind ux uy sx sy h0x h0y cf cl fun R g hR=>?_)
  exact key R g hR
end
end L2
end
section
namespace L2
open PySem PySem.W PyProof.Rows
theorem cut_two {α:Type} {l:List α} {i:Nat} (h:i+1 < l.length):l=l.take i++l[i]::l[i+1]::l.drop (i+2):=by
 rw [<-List.drop_eq_getElem_cons h,<-List.drop_eq_getElem_cons (by omega)]
 exact (List.take_append_drop i l).symm
theorem cut_len {α:Type} {l:List α} {i:Nat} (h:i+1 < l.length):(l.take i).length=i:=by rw [List.length_take];omega
theorem map_modify {α β:Type} (f:α->β) (g:α->α) (hg:∀x,f (g x)=f x):∀{l:List α} (i:Nat),(l.modify i g).map f=l.map f
 | [],i=>by cases i <;> rfl
 | x::l,0=>by simp [hg]
 | x::l,i+1=>by simp [map_modify f g hg (l:=l) i]
theorem Segs.pow {r:Keyed->Int} {xs:Array Keyed}:∀{lo:Nat} {ps qs:List (Nat×Nat×Nat)} {hi:Nat},Segs r xs lo ps hi->qs.map (fun p=>(p.1,p.2.1))=ps.map (fun p=>(p.1,p.2.1))->Segs r xs lo qs hi
 | lo,[],qs,hi,h,e=>by
  have:qs=[]:=by simpa using e
  rw [this];exact h
 | lo,p::ps,[],hi,h,e=>by simp at e
 | lo,p::ps,q::qs,hi,⟨h1,h2,h3,h4⟩,e=>by
  rw [List.map_cons,List.map_cons] at e
  injection e with e1 e2
  injection e1 with e3 e4
  exact ⟨e3.trans h1,by rw [e4];exact h2,by rw [e4];exact h3,by rw [e4];exact h4.pow e2⟩
section
variable {prog:Program} {w:World} {A:Around} {E:Value->Shared->Prop} {s:Shared} {κ:SortKind} {r:Keyed->Int} {a₀:Array Keyed}
theorem s_runs (C:CmpA prog w A s κ r a₀) {st:SortSt} {Q:Unit->SortSt->Prop} (B:SB a₀ κ st) (hp0:pendingOf st = #[]) (h2:2<=a₀.size)
  (h:∀st',SB a₀ κ st'->Sg r (arrOf st') 0 a₀.size->Q () st'):wpS (model prog w) A E s sortRuns' Q st:=by
 rw [sortRuns'_eq]
 refine wpS_bind (wpS_get ?_)
 try dsimp only
 rw [B.size]
 generalize minRun' a₀.size a₀.size 0=mr
 refine wpS_bind (wpS_mono (wpS_forRange (a:=0) (I:=fun x c st'=>∃lo,c=(none,lo)/\SB a₀ κ st'/\lo<=a₀.size/\min x a₀.size<=lo/\Segs r (arrOf st') 0 (pendingOf st').toList lo)
  (Q:=fun c st'=>c=(none,a₀.size)/\SB a₀ κ st'/\Segs r (arrOf st') 0 (pendingOf st').toList a₀.size) ?step ?fin ⟨0,rfl,B,by omega,by omega,by rw [hp0];rfl⟩) ?post)
 case fin=>
  rintro c st' ⟨lo,rfl,b1,b2,b3,b4⟩
  have e:lo=a₀.size:=by omega
  subst e
  exact ⟨rfl,b1,b4⟩
 case post=>
  rintro c st' ⟨rfl,b1,b2⟩
  try dsimp only
  refine wpS_bind (wpS_mono (wpS_forRange (a:=0) (I:=fun x c st''=>c=(none,())/\SB a₀ κ st''/\Segs r (arrOf st'') 0 (pendingOf st'').toList a₀.size/\(pendingOf st'').size+x<=a₀.size+1)
   (Q:=fun c st''=>c=(none,())/\SB a₀ κ st''/\Segs r (arrOf st'') 0 (pendingOf st'').toList a₀.size/\(pendingOf st'').size<=1) ?fstep ?ffin ⟨rfl,b1,b2,by have:=b2.le;rw [Array.length_toList] at this;omega⟩) ?fpost)
  case ffin=>
   rintro c st'' ⟨hc,d1,d2,d3⟩
   exact ⟨hc,d1,d2,by omega⟩
  case fpost=>
   rintro c st'' ⟨rfl,d1,d2,d3⟩
   refine wpS_pure (h st'' d1 ?_)
   rw [<-Array.length_toList] at d3
   revert d2 d3
   generalize (pendingOf st'').toList=ps
   intro d2 d3
   match ps,d2,d3 with
   | [],d2,_=>
    have:0=a₀.size:=d2
    omega
   | [p],⟨e1,e2,e3,e4⟩,_=>
    have e5:0+p.2.1=a₀.size:=e4
    rw [<-e5]
    exact e3
   | _::_::_,_,d3=>simp at d3
  case fstep=>
   rintro x c S4 _ hx ⟨rfl,d1,d2,d3⟩
   refine wpS_bind (wpS_get ?_)
   refine wpS_ite (fun hz=>?_) (fun hz=>?_)
   ·exact wpS_pure ⟨rfl,d1,d2,hz⟩
   ·generalize hi0:(if (Option.any (fun x=>decide (x < ((pendingOf S4)[(pendingOf S4).size - 2+1]?.elim 0 fun x=>x.2.1))) (if (pendingOf S4).size - 2 > 0 then Option.map (fun x=>x.2.1) (pendingOf S4)[(pendingOf S4).size - 2 - 1]? else none))=true then (pendingOf S4).size - 2 - 1 else (pendingOf S4).size - 2)=i0
    have hi1:i0+1 < (pendingOf S4).toList.length:=by
     have le:∀(c:Bool) (m:Nat),(if c=true then m - 1 else m)<=m:=fun c m=>by cases c <;> simp
     have:=le (Option.any (fun x=>decide (x < ((pendingOf S4)[(pendingOf S4).size - 2+1]?.elim 0 fun x=>x.2.1))) (if (pendingOf S4).size - 2 > 0 then Option.map (fun x=>x.2.1) (pendingOf S4)[(pendingOf S4).size - 2 - 1]? else none)) ((pendingOf S4).size - 2)
     rw [Array.length_toList]
     rw [hi0] at this
     omega
    have cut:=cut_two hi1
    have lt:=cut_len hi1
    have g4':=d2
    rw [cut] at g4'
    have run:=s_mAt (E:=E) C d1 cut g4' (Nat.le_refl _) (Q:=fun bb st''=>bb=true/\SB a₀ κ st''/\Segs r (arrOf st'') 0 (pendingOf st'').toList a₀.size/\(pendingOf st'').size+(x+1)<=a₀.size+1) fun st'' b1 b2 b3 b4=>⟨rfl,b1,by rw [b2];exact b3,by
     rw [<-Array.length_toList,b2,List.length_append,List.length_cons,List.length_take,List.length_drop]
     rw [<-Array.length_toList] at d3
     omega⟩
    rw [lt] at run
    refine wpS_bind (wpS_mono run fun bb st'' ⟨e,c1,c2,c3⟩=>?_)
    subst e
    exact wpS_pure ⟨rfl,c1,c2,c3⟩
 case step=>
  rintro x c st' _ hx ⟨lo,rfl,b1,b2,b3,b4⟩
  try dsimp only
  refine wpS_ite (fun hz=>?_) (fun hz=>?_)
  ·have e:lo=a₀.size:=by omega
   subst e
   exact wpS_pure ⟨rfl,b1,b4⟩
  refine wpS_bind (s_count C (by omega) (by omega) b1 fun n0 S1 B1 p1 e1 hm1 hm2 s1=>?_)
  try dsimp only
  have g1:Segs r (arrOf S1) 0 (pendingOf S1).toList lo:=by rw [p1];exact b4.congr fun k _ hk=>e1 k hk
  refine wpS_ite (fun hz2=>?_) (fun hz2=>?_)
  ·refine wpS_bind (wpS_lift (wpAny_rule ⟨rfl,?_⟩))
   refine wpS_bind (s_bin C (by omega) (by omega) B1 s1 fun S2 B2 p2 e2 s2=>?_)
   simp only [Bool.not_true,Bool.false_eq_true,if_false]
   have g2:Segs r (arrOf S2) 0 (pendingOf S2).toList lo:=by rw [p2];exact g1.congr fun k _ hk=>e2 k hk
   have hn1:1<=min (a₀.size - lo) mr:=by omega
   have hn2:lo+min (a₀.size - lo) mr<=a₀.size:=by omega
   clear hz2
   generalize min (a₀.size - lo) mr=n at s2 hn1 hn2 ⊢
   refine wpS_bind (wpS_get ?_)
   have psh:∀S5:SortSt,SB a₀ κ S5->Segs r (arrOf S5) 0 (pendingOf S5).toList lo->Sg r (arrOf S5) lo (lo+n)->SB a₀ κ (setPending S5 ((pendingOf S5).push (lo,n,0)))/\Segs r (arrOf S5) 0 ((pendingOf S5).push (lo,n,0)).toList (lo+n):=fun S5 b1 b2 b3=>⟨⟨b1.perm,b1.kind,b1.ok⟩,by
    rw [Array.toList_push]
    exact Segs.app.mpr ⟨lo,b2,rfl,hn1,b3,rfl⟩⟩
   cases eb:(pendingOf S2).back? with
   | none=>
    try dsimp only
    obtain ⟨c1,c2⟩:=psh S2 B2 g2 s2
    exact wpS_bind (wpS_modify (wpS_pure ⟨lo+n,rfl,c1,by omega,by omega,c2⟩))
   | some t=>
    obtain ⟨s1,n1,pw1⟩:=t
    try dsimp only
    generalize power' a₀.size (2 * s1+n1) (2 * s1+n1+n1+n) a₀.size=pw
    refine wpS_bind (wpS_mono (wpS_forRange (I:=fun _ c st''=>c=(none,())/\SB a₀ κ st''/\Segs r (arrOf st'') 0 (pendingOf st'').toList lo/\Sg r (arrOf st'') lo (lo+n))
     (Q:=fun c st''=>c=(none,())/\SB a₀ κ st''/\Segs r (arrOf st'') 0 (pendingOf st'').toList lo/\Sg r (arrOf st'') lo (lo+n)) ?mstepa (fun _ _ z=>z) ⟨rfl,B2,g2,s2⟩) ?mposta)
    case mposta=>
     rintro c S4 ⟨rfl,B4,g4,s4⟩
     try dsimp only
     refine wpS_bind (wpS_modify ?_)
     have B5:SB a₀ κ (setPending S4 ((pendingOf S4).modify ((pendingOf S4).size - 1) fun (x:Nat×Nat×Nat)=>match x with | (st,len,_)=>(st,len,pw))):=⟨B4.perm,B4.kind,B4.ok⟩
     have g5:Segs r (arrOf (setPending S4 ((pendingOf S4).modify ((pendingOf S4).size - 1) fun (x:Nat×Nat×Nat)=>match x with | (st,len,_)=>(st,len,pw)))) 0 (pendingOf (setPending S4 ((pendingOf S4).modify ((pendingOf S4).size - 1) fun (x:Nat×Nat×Nat)=>match x with | (st,len,_)=>(st,len,pw)))).toList lo:=by
      show Segs r (arrOf S4) 0 ((pendingOf S4).modify ((pendingOf S4).size - 1) fun (x:Nat×Nat×Nat)=>match x with | (st,len,_)=>(st,len,pw)).toList lo
      rw [Array.toList_modify]
      refine g4.pow (map_modify _ _ ?_ _)
      intro x
      rfl
     have s5:Sg r (arrOf (setPending S4 ((pendingOf S4).modify ((pendingOf S4).size - 1) fun (x:Nat×Nat×Nat)=>match x with | (st,len,_)=>(st,len,pw)))) lo (lo+n):=s4
     generalize setPending S4 ((pendingOf S4).modify ((pendingOf S4).size - 1) fun (x:Nat×Nat×Nat)=>match x with | (st,len,_)=>(st,len,pw))=S5 at B5 g5 s5 ⊢
     obtain ⟨c1,c2⟩:=psh S5 B5 g5 s5
     exact wpS_bind (wpS_modify (wpS_pure ⟨lo+n,rfl,c1,by omega,by omega,c2⟩))
    case mstepa=>
     rintro z c S4 _ _ ⟨rfl,B4,g4,s4⟩
     refine wpS_bind (wpS_get ?_)
     by_cases hp:(pendingOf S4).size > 1
     ·have hp':(pendingOf S4).size - 2 < (pendingOf S4).size:=by omega
      rw [if_pos hp,Array.getElem?_eq_getElem hp']
      try dsimp only
      refine wpS_ite (fun hq=>?_) (fun hq=>?_)
      ·exact wpS_pure ⟨rfl,B4,g4,s4⟩
      ·have hl:(pendingOf S4).size - 2+1 < (pendingOf S4).toList.length:=by rw [Array.length_toList];omega
       have cut:=cut_two hl
       have lt:=cut_len hl
       have g4':=g4
       rw [cut] at g4'
       have run:=s_mAt (E:=E) C B4 cut g4' (by omega) (Q:=fun bb st''=>bb=true/\SB a₀ κ st''/\Segs r (arrOf st'') 0 (pendingOf st'').toList lo/\Sg r (arrOf st'') lo (lo+n)) fun st'' b1 b2 b3 b4=>⟨rfl,b1,by rw [b2];exact b3,s4.congr fun k h1 _=>b4 k h1⟩
       rw [lt] at run
       refine wpS_bind (wpS_mono run fun bb st'' ⟨e,b1,b2,b3⟩=>?_)
       subst e
       exact wpS_pure ⟨rfl,b1,b2,b3⟩
     ·rw [if_neg hp]
      exact wpS_pure ⟨rfl,B4,g4,s4⟩
  ·have B2:=B1
   have g2:=g1
   have s2:=s1
   have hn1:=hm1
   have hn2:lo+n0<=a₀.size:=by omega
   clear hz2 hm1 hm2 s1 B1 g1 p1 e1
   revert S1
   intro S2 B2 g2 s2
   generalize n0=n at s2 hn1 hn2 ⊢
   refine wpS_bind (wpS_get ?_)
   have psh:∀S5:SortSt,SB a₀ κ S5->Segs r (arrOf S5) 0 (pendingOf S5).toList lo->Sg r (arrOf S5) lo (lo+n)->SB a₀ κ (setPending S5 ((pendingOf S5).push (lo,n,0)))/\Segs r (arrOf S5) 0 ((pendingOf S5).push (lo,n,0)).toList (lo+n):=fun S5 b1 b2 b3=>⟨⟨b1.perm,b1.kind,b1.ok⟩,by
    rw [Array.toList_push]
    exact Segs.app.mpr ⟨lo,b2,rfl,hn1,b3,rfl⟩⟩
   cases eb:(pendingOf S2).back? with
   | none=>
    try dsimp only
    obtain ⟨c1,c2⟩:=psh S2 B2 g2 s2
    exact wpS_bind (wpS_modify (wpS_pure ⟨lo+n,rfl,c1,by omega,by omega,c2⟩))
   | some t=>
    obtain ⟨s1,n1,pw1⟩:=t
    try dsimp only
    generalize power' a₀.size (2 * s1+n1) (2 * s1+n1+n1+n) a₀.size=pw
    refine wpS_bind (wpS_mono (wpS_forRange (I:=fun _ c st''=>c=(none,())/\SB a₀ κ st''/\Segs r (arrOf st'') 0 (pendingOf st'').toList lo/\Sg r (arrOf st'') lo (lo+n))
     (Q:=fun c st''=>c=(none,())/\SB a₀ κ st''/\Segs r (arrOf st'') 0 (pendingOf st'').toList lo/\Sg r (arrOf st'') lo (lo+n)) ?mstepb (fun _ _ z=>z) ⟨rfl,B2,g2,s2⟩) ?mpostb)
    case mpostb=>
     rintro c S4 ⟨rfl,B4,g4,s4⟩
     try dsimp only
     refine wpS_bind (wpS_modify ?_)
     have B5:SB a₀ κ (setPending S4 ((pendingOf S4).modify ((pendingOf S4).size - 1) fun (x:Nat×Nat×Nat)=>match x with | (st,len,_)=>(st,len,pw))):=⟨B4.perm,B4.kind,B4.ok⟩
     have g5:Segs r (arrOf (setPending S4 ((pendingOf S4).modify ((pendingOf S4).size - 1) fun (x:Nat×Nat×Nat)=>match x with | (st,len,_)=>(st,len,pw)))) 0 (pendingOf (setPending S4 ((pendingOf S4).modify ((pendingOf S4).size - 1) fun (x:Nat×Nat×Nat)=>match x with | (st,len,_)=>(st,len,pw)))).toList lo:=by
      show Segs r (arrOf S4) 0 ((pendingOf S4).modify ((pendingOf S4).size - 1) fun (x:Nat×Nat×Nat)=>match x with | (st,len,_)=>(st,len,pw)).toList lo
      rw [Array.toList_modify]
      refine g4.pow (map_modify _ _ ?_ _)
      intro x
      rfl
     have s5:Sg r (arrOf (setPending S4 ((pendingOf S4).modify ((pendingOf S4).size - 1) fun (x:Nat×Nat×Nat)=>match x with | (st,len,_)=>(st,len,pw)))) lo (lo+n):=s4
     generalize setPending S4 ((pendingOf S4).modify ((pendingOf S4).size - 1) fun (x:Nat×Nat×Nat)=>match x with | (st,len,_)=>(st,len,pw))=S5 at B5 g5 s5 ⊢
     obtain ⟨c1,c2⟩:=psh S5 B5 g5 s5
     exact wpS_bind (wpS_modify (wpS_pure ⟨lo+n,rfl,c1,by omega,by omega,c2⟩))
    case mstepb=>
     rintro z c S4 _ _ ⟨rfl,B4,g4,s4⟩
     refine wpS_bind (wpS_get ?_)
     by_cases hp:(pendingOf S4).size > 1
     ·have hp':(pendingOf S4).size - 2 < (pendingOf S4).size:=by omega
      rw [if_pos hp,Array.getElem?_eq_getElem hp']
      try dsimp only
      refine wpS_ite (fun hq=>?_) (fun hq=>?_)
      ·exact wpS_pure ⟨rfl,B4,g4,s4⟩
      ·have hl:(pendingOf S4).size - 2+1 < (pendingOf S4).toList.length:=by rw [Array.length_toList];omega
       have cut:=cut_two hl
       have lt:=cut_len hl
       have g4':=g4
       rw [cut] at g4'
       have run:=s_mAt (E:=E) C B4 cut g4' (by omega) (Q:=fun bb st''=>bb=true/\SB a₀ κ st''/\Segs r (arrOf st'') 0 (pendingOf st'').toList lo/\Sg r (arrOf st'') lo (lo+n)) fun st'' b1 b2 b3 b4=>⟨rfl,b1,by rw [b2];exact b3,s4.congr fun k h1 _=>b4 k h1⟩
       rw [lt] at run
       refine wpS_bind (wpS_mono run fun bb st'' ⟨e,b1,b2,b3⟩=>?_)
       subst e
       exact wpS_pure ⟨rfl,b1,b2,b3⟩
     ·rw [if_neg hp]
      exact wpS_pure ⟨rfl,B4,g4,s4⟩
end
end L2
end
section
namespace L2
open PySem PySem.W PyProof.Rows
theorem smallB {n:Nat} (h:n<=1000000):n<=sizeLine:=Nat.le_of_lt (Nat.lt_of_le_of_lt h (by decide))
theorem smallB1 {n:Nat} (h:n<=1000000):n < sizeLine:=Nat.lt_of_le_of_lt h (by decide)
theorem filter_lt {l:List Nat} {f g:Nat->Bool} (h:∀x∈l,f x=true->g x=true) {y:Nat} (hy:y∈l) (h1:f y=false) (h2:g y=true):(l.filter f).length < (l.filter g).length:=by
 induction l with
 | nil=>cases hy
 | cons x l ih=>
  have le:(l.filter f).length<=(l.filter g).length:=by
   clear ih hy
   induction l with
   | nil=>exact Nat.le_refl _
   | cons z l ih2=>
    have e1:=h z (by simp)
    have ih3:=ih2 fun u hu=>h u (by rcases List.mem_cons.mp hu with r | r <;> simp [r])
    rw [List.filter_cons,List.filter_cons]
    cases c1:f z <;> cases c2:g z <;> simp [c1,c2] at e1 ⊢ <;> lia
  rw [List.filter_cons,List.filter_cons]
  rcases List.mem_cons.mp hy with e | e
  ·subst e
   simp [h1,h2];lia
  ·have:=ih (fun u hu=>h u (List.mem_cons_of_mem _ hu)) e
   have e1:=h x List.mem_cons_self
   cases c1:f x <;> cases c2:g x <;> simp [c1,c2] at e1 ⊢ <;> lia
theorem Ord.rank {b:Nat->Nat->Bool} {n:Nat} (O:Ord b n):∃ρ:Nat->Int,∀i j,i < n->j < n->(b i j=true↔ρ i < ρ j):=by
 have irr:∀i,i < n->b i i=false:=fun i hi=>by
  cases e:b i i with
  | false=>rfl
  | true=>have:=O.asy i i hi hi e;rw [e] at this;cases this
 have up:∀i j,i < n->j < n->b i j=true->(((List.range n).filter (b · i)).length:Int) < ((List.range n).filter (b · j)).length:=fun i j hi hj e=>by
  have:=filter_lt (l:=List.range n) (f:=(b · i)) (g:=(b · j)) (fun k hk e'=>O.tr k i j (List.mem_range.mp hk) hi hj e' e) (List.mem_range.mpr hi) (irr i hi) e
  lia
 refine ⟨fun i=>((List.range n).filter (b · i)).length,fun i j hi hj=>⟨up i j hi hj,fun h=>?_⟩⟩
 by_cases d:i=j
 ·subst d;lia
 ·rcases O.tot i j hi hj d with e | e
  ·exact e
  ·have:=up j i hj hi e
   dsimp only at h
   lia
section
variable {prog:Program} {w:World} {A:Around} {E:Value->Shared->Prop} {s:Shared} {κ:SortKind}
theorem s_sorted {item:Nat->Keyed} {n:Nat} {b:Nat->Nat->Bool} {it:Array Keyed} (inj:∀i j,i < n->j < n->item i=item j->i=j) (O:Ord b n) (hn:2<=n)
  (hc:∀i j (Q:Bool->Shared->Prop),i < n->j < n->Q (b i j) s->wpAny (model prog w) A (keyLt' κ (item i).1 (item j).1) Q (fun _ _=>False) s) (hit:it.toList=(List.range n).map item) :
  wpAny (model prog w) A (sortRuns'.run (SortSt.mk' κ it #[] 7 none)) (fun r s3=>s3=s/\∃p,Prm p n/\Asc b p n/\arrOf r.2=p.map item/\failedOf r.2=none) E s:=by
 obtain ⟨ρ,hρ⟩:=O.rank
 obtain ⟨g,hg⟩:∃g:Keyed->Nat,∀i,i < n->g (item i)=i:=by
  classical
  refine ⟨fun z=>if h:∃i,i < n/\item i=z then h.choose else 0,fun i hi=>?_⟩
  have h:∃k,k < n/\item k=item i:=⟨i,hi,rfl⟩
  dsimp only
  rw [dif_pos h]
  exact inj _ _ h.choose_spec.1 hi h.choose_spec.2
 have mem:∀z∈it,∃i,i < n/\z=item i:=fun z hz=>by
  have hz':z∈it.toList:=by simpa using hz
  rw [hit] at hz'
  obtain ⟨i,hi,e⟩:=List.mem_map.mp hz'
  exact ⟨i,List.mem_range.mp hi,e.symm⟩
 have sz:it.size=n:=by rw [<-Array.length_toList,hit];simp
 have C:CmpA prog w A s κ (fun z=>ρ (g z)) it:=fun x y Q hx hy hq=>by
  obtain ⟨i,hi,rfl⟩:=mem x hx
  obtain ⟨j,hj,rfl⟩:=mem y hy
  refine hc i j Q hi hj ?_
  have e:b i j=decide (ρ (g (item i)) < ρ (g (item j))):=by
   rw [Bool.eq_iff_iff,decide_eq_true_eq,hg i hi,hg j hj];exact hρ i j hi hj
  rw [e];exact hq
 have run:=s_runs (E:=E) (st:=SortSt.mk' κ it #[] 7 none) (Q:=fun _ st'=>∃p,Prm p n/\Asc b p n/\arrOf st'=p.map item/\failedOf st'=none) C ⟨Array.Perm.refl _,rfl,rfl⟩ rfl (by rw [sz];exact hn) fun st' B sg=>?_
 ·exact run
 have hl:(arrOf st').toList.Perm ((List.range n).map item):=by rw [<-hit];exact Array.perm_iff_toList_perm.mp B.perm
 have hb:(arrOf st').toList.map (fun z=>item (g z))=(arrOf st').toList:=by
  have:∀z∈(arrOf st').toList,item (g z)=z:=fun z hz=>by
   obtain ⟨i,hi,rfl⟩:=mem z (B.mem (by simpa using hz))
   rw [hg i hi]
  rw [List.map_congr_left this,List.map_id']
 have hp:((arrOf st').toList.map g).Perm (List.range n):=by
  have:=hl.map g
  rw [List.map_map] at this
  have e:(List.range n).map (g ∘ item)=List.range n:=by
   have:=List.map_congr_left (l:=List.range n) (f:=g ∘ item) (g:=id) fun i hi=>hg i (List.mem_range.mp hi)
   rw [this,List.map_id]
  rwa [e] at this
 refine ⟨((arrOf st').map g),⟨Array.perm_iff_toList_perm.mpr (by rw [Array.toList_map,List.toList_toArray];exact hp)⟩,fun i hi=>?_,?_,B.ok⟩
 ·have hs':(arrOf st').size=n:=by rw [B.size,sz]
  have P:Prm ((arrOf st').map g) n:=⟨Array.perm_iff_toList_perm.mpr (by rw [Array.toList_map,List.toList_toArray];exact hp)⟩
  have a1:=P.lt (by lia) i
  have a2:=P.lt (by lia) (i+1)
  have at_:∀k,k < n->Rk (fun z=>ρ (g z)) (arrOf st') k=ρ (at0 ((arrOf st').map g) k):=fun k hk=>by
   rw [Rk.eq (by lia)]
   unfold at0
   rw [Array.getD_eq_getD_getElem?,Array.getElem?_map,Array.getElem?_eq_getElem (by lia)]
   rfl
  have h1:=sg i (i+1) (by lia) (by lia) (by lia)
  rw [at_ i (by lia),at_ (i+1) hi] at h1
  rcases O.tot _ _ a1 a2 (P.ne (by lia) hi (by lia)) with e | e
  ·exact e
  ·have:=(hρ _ _ a2 a1).mp e
   lia
 ·apply Array.ext'
  rw [Array.toList_map,Array.toList_map,List.map_map]
  exact hb.symm
end
end L2
end
section
namespace L2
open PySem PySem.Spec PySem.W PyProof.Rows Builtin
def setLt (x y:List Int):Bool:=decide (x.length < y.length) || (decide (x.length=y.length) && HT.lexLt x y)
theorem lexLt_irr:∀x:List Int,HT.lexLt x x=false
 | []=>rfl
 | a::l=>by
  unfold HT.lexLt
  simp [lexLt_irr l]
theorem lexLt_tri:∀{x y:List Int},x.length=y.length->x≠y->HT.lexLt x y=true\/HT.lexLt y x=true
 | [],[],_,h=>absurd rfl h
 | a::l,b::m,hl,h=>by
  unfold HT.lexLt
  by_cases e:a=b
  ·subst e
   have:=lexLt_tri (x:=l) (y:=m) (by simpa using hl) (fun z=>h (by rw [z]))
   simpa using this
  ·simp only [e,Ne.symm e,decide_false,Bool.false_and,Bool.or_false,decide_eq_true_eq,if_false]
   lia
 | [],_::_,hl,_=>by simp at hl
 | _::_,[],hl,_=>by simp at hl
theorem lexLt_asy:∀{x y:List Int},HT.lexLt x y=true->HT.lexLt y x=false
 | [],[],h=>by simp [HT.lexLt] at h
 | [],b::m,_=>rfl
 | a::l,[],h=>by simp [HT.lexLt] at h
 | a::l,b::m,h=>by
  unfold HT.lexLt at h ⊢
  by_cases e:a=b
  ·subst e
   simp at h ⊢
   exact lexLt_asy h
  ·simp [e,Ne.symm e] at h ⊢
   lia
theorem lexLt_tr:∀{x y z:List Int},HT.lexLt x y=true->HT.lexLt y z=true->HT.lexLt x z=true
 | [],[],_,h,_=>by simp [HT.lexLt] at h
 | [],b::m,[],_,h=>by simp [HT.lexLt] at h
 | [],b::m,c::n,_,_=>rfl
 | a::l,[],_,h,_=>by simp [HT.lexLt] at h
 | a::l,b::m,[],_,h=>by simp [HT.lexLt] at h
 | a::l,b::m,c::n,h1,h2=>by
  unfold HT.lexLt at h1 h2 ⊢
  by_cases e1:a=b
  ·subst e1
   by_cases e2:a=c
   ·subst e2
    simp at h1 h2 ⊢
    exact lexLt_tr h1 h2
   ·simp [e2] at h1 h2 ⊢
    lia
  ·by_cases e2:b=c
   ·subst e2
    simp [e1] at h1 h2 ⊢
    lia
   ·by_cases e3:a=c
    ·subst e3
     simp [e1,e2] at h1 h2
     lia
    ·simp [e1,e2,e3] at h1 h2 ⊢
     lia
theorem setLt_ord {ss:List (List Int)} (nd:ss.Nodup):Ord (fun i j=>setLt (ss.getD i []) (ss.getD j [])) ss.length where
 tr:=fun i j k hi hj hk h1 h2=>by
  unfold setLt at *
  simp only [Bool.or_eq_true,Bool.and_eq_true,decide_eq_true_eq] at *
  rcases h1 with h1 | ⟨h1,l1⟩ <;> rcases h2 with h2 | ⟨h2,l2⟩
  ·exact .inl (by lia)
  ·exact .inl (by lia)
  ·exact .inl (by lia)
  ·exact .inr ⟨by lia,lexLt_tr l1 l2⟩
 asy:=fun i j hi hj h=>by
  unfold setLt at *
  simp only [Bool.or_eq_true,Bool.and_eq_true,decide_eq_true_eq] at h
  rcases h with h | ⟨h,l⟩
  ·simp only [Bool.or_eq_false_iff,Bool.and_eq_false_imp,decide_eq_false_iff_not,decide_eq_true_eq]
   exact ⟨by lia,fun z=>by lia⟩
  ·simp only [Bool.or_eq_false_iff,Bool.and_eq_false_imp,decide_eq_false_iff_not,decide_eq_true_eq]
   exact ⟨by lia,fun _=>lexLt_asy l⟩
 tot:=fun i j hi hj d=>by
  have ne:ss.getD i []≠ss.getD j []:=by
   rw [List.getD_eq_getElem?_getD,List.getD_eq_getElem?_getD,List.getElem?_eq_getElem hi,List.getElem?_eq_getElem hj]
   exact fun e=>d ((List.getElem_inj nd).mp e)
  unfold setLt
  simp only [Bool.or_eq_true,Bool.and_eq_true,decide_eq_true_eq]
  rcases Nat.lt_trichotomy (ss.getD i []).length (ss.getD j []).length with h | h | h
  ·exact .inl (.inl h)
  ·rcases lexLt_tri h ne with z | z
   ·exact .inl (.inr ⟨h,z⟩)
   ·exact .inr (.inr ⟨h.symm,z⟩)
  ·exact .inr (.inl h)
section
variable {P:Program} {w:World} {A:Around} {E:Value->Shared->Prop} {s:Shared}
theorem itemsAre_ints:∀{us:List Value} {ns:List Int},IntsAre us ns->ItemsAre (mixKind P w) (ns.map Sum.inl) us
 | _,_,.nil=>.nil
 | _,_,.cons n t r=>.cons (by show (n == n)=true;simp) (itemsAre_ints r)
theorem key_eq {ns ms:List Int}:decide ((ns.map Sum.inl:List Key)=ms.map Sum.inl)=decide (ns=ms):=by
 rw [Bool.eq_iff_iff,decide_eq_true_eq,decide_eq_true_eq]
 refine ⟨fun e=>?_,fun e=>by rw [e]⟩
 exact List.map_inj_right (fun a b h=>Sum.inl.inj h) |>.mp e
theorem cmp_key {p q a c:Addr} {lx ly:Int} {t u:Tok} {its its2:Array Value} {ns ms:List Int} {C:Bool->Shared->Prop} (hu:A.units < cLine) (hp:IsTup s.heap p #[.int lx t,.ref a]) (hq:IsTup s.heap q #[.int ly u,.ref c])
  (ha:IsTup s.heap a its) (hc:IsTup s.heap c its2) (i1:IntsAre its.toList ns) (i2:IntsAre its2.toList ms) (hx:lx=ns.length) (hy:ly=ms.length) (h:C (setLt ns ms) s):wpAny (model P w) A (keyLt' (tuples' true) (.ref p) (.ref q)) C E s:=by
 obtain ⟨o1,e1,c1,n1,d1⟩:=id hp
 obtain ⟨o2,e2,c2,n2,d2⟩:=id hq
 obtain ⟨o3,e3,c3,n3,d3⟩:=id ha
 obtain ⟨o4,e4,c4,n4,d4⟩:=id hc
 refine kat_lt e1 d1 e2 d2 ?_
 show KatLex P w A true _ C [(.int lx t,.int ly u),(.ref a,.ref c)] 0 s
 refine kat_cons ((mixKind P w).eqBool (a:=Sum.inl lx) (b:=Sum.inl ly) (by show (lx == lx)=true;simp) (by show (ly == ly)=true;simp) ?_)
 refine kat_go (fun e=>?_) fun e=>?_
 ·have el:lx=ly:=Sum.inl.inj (of_decide_eq_true e)
  refine kat_yes (kat_cons (wpAny_eqBool_tuple (knd:=mixKind P w) hu ⟨o3,its,n3,e3,c3,d3,itemsAre_ints i1⟩ ⟨o4,its2,n4,e4,c4,d4,itemsAre_ints i2⟩ ?_))
  rw [key_eq]
  refine kat_go (fun e'=>kat_yes (kat_nil ?_)) fun e'=>kat_no ?_
  ·have:ns=ms:=of_decide_eq_true e'
   subst this
   have z:setLt ns ns=false:=by unfold setLt;rw [lexLt_irr];simp
   rw [z] at h
   exact h
  ·refine kat_one _ _ (HT.lt_tupInts ha hc i1 i2 hu ?_)
   have z:setLt ns ms=HT.lexLt ns ms:=by
    unfold setLt
    rw [decide_eq_false (by lia:¬ns.length < ms.length),decide_eq_true (by lia:ns.length=ms.length)]
    simp
   rw [z] at h
   exact h
 ·have el:lx≠ly:=fun z=>by rw [z] at e;simp at e
  refine kat_no (oneLt_int ?_)
  have z:setLt ns ms=decide (lx < ly):=by
   unfold setLt
   rw [decide_eq_false (by lia:¬ns.length=ms.length),Bool.false_and,Bool.or_false,Bool.eq_iff_iff,decide_eq_true_eq,decide_eq_true_eq]
   lia
  rw [z] at h
  exact h
end
end L2
end
section
namespace L2
open PySem PySem.Spec PySem.W PyProof.Rows Builtin
section
variable {P:Program} {w:World} {H H1:Hp} {h h1 h2:Heap} {e a:Addr} {o:HO} {fs:List Addr}
theorem hok_off (x:HOk P w H h) (hn:H e=none) (k:∀b u,b≠e->h.get? b=some u->h2.get? b=some u):HOk P w H h2:=fun a o ea=>
 (x a o ea).stay (fun b u hb q=>k b u (fun z=>by
  subst z
  rcases hb with rfl | hb
  ·rw [hn] at ea;cases ea
  ·rw [hn] at hb;cases hb) q) (fun _ q=>q) fun _ _ q=>q
theorem un_off (u:Un fs [] H H1 h h1) (he:h.objs.size<=e) (k:∀b u,b≠e->h1.get? b=some u->h2.get? b=some u):Un fs [] H H1 h h2:=
 have ne:∀b ob,h.get? b=some ob->b≠e:=fun b ob q=>Nat.ne_of_lt (Nat.lt_of_lt_of_le (Heap.lt_size q) he)
 ⟨fun b ob q n hb hx=>k _ _ (ne b ob q) (u.keep b ob q n hb hx),fun b ob q n hb hx=>let ⟨sl,r⟩:=u.slot b ob q n hb hx;⟨sl,k _ _ (ne b ob q) r⟩,u.free,fun b ob q hx=>let ⟨o',r⟩:=u.there b ob q hx;⟨o',k _ _ (ne b ob q) r⟩,u.tups,u.frzs,u.tbls⟩
theorem hok_lay (x:HOk P w H h) (hn:H a=none) (new:ObjOk P w (upd H a o) h a o):HOk P w (upd H a o) h:=fun b u eb=>by
 by_cases hb:b=a
 ·subst hb;rw [upd_same] at eb;cases eb;exact new
 ·rw [upd_ne hb] at eb
  exact (x b u eb).stay (fun _ _ _ q=>q) (fun c q=>by rw [upd_ne (ne_of_none q hn)];exact q) fun c xs q=>by rw [upd_ne (ne_of_none q hn)];exact q
theorem un_lay (u:Un fs [] H H1 h h1) (ha:h.objs.size<=a) (hn:H a=none):Un fs [] H (upd H1 a o) h h1:=
 have ne:∀b ob,h.get? b=some ob->b≠a:=fun b ob q=>Nat.ne_of_lt (Nat.lt_of_lt_of_le (Heap.lt_size q) ha)
 ⟨u.keep,u.slot,fun b ob q n hx=>by rw [upd_ne (ne b ob q)];exact u.free b ob q n hx,u.there,fun b xs q=>by rw [upd_ne (ne_of_none q hn)];exact u.tups b xs q,fun b ob xs q=>by rw [upd_ne (ne_of_none q hn)];exact u.frzs b ob xs q,fun b ps q=>by rw [upd_ne (ne_of_none q hn)];exact u.tbls b ps q⟩
end
def spOrd:Sp:=fun vs H Q _=>∃a,vs=[.ref a]/\∃xs,H a=some (.tup xs)/\∀p,H p=none->Q (.ref p) (upd H p (.tup [.int xs.length,.ref a]))
section
variable {X:Cx} {pins:List (Addr×Obj)} {σ:St} {H:Hp} {s:Shared}
structure Mid (X:Cx) (H:Hp) (s:Shared) (D S:Addr) (e1:Nat) (H':Hp) (s':Shared) (kA:Array Value):Prop where
 os:s'.os=s.os
 bare:AllBare s'.gens
 un:Un (frs X.stack) [] H H' s.heap s'.heap
 hok:HOk X.prog X.w H' s'.heap
 same:Same H H'
 nD:H' D=none
 nS:H' S=none
 oD:s'.heap.get? D=some (seqObj "list" #[] e1)
 oS:∃e,s'.heap.get? S=some (seqObj "list" kA e)
theorem Mid.call {D S:Addr} {e1:Nat} {H':Hp} {s':Shared} {kA:Array Value} (I:Inv X pins σ H s) (m:Mid X H s D S e1 H' s' kA) (hD:s.heap.objs.size<=D) (hS:s.heap.objs.size<=S) {k:Nat} {f:Addr} {fd:FuncData} {pm:Str} (F:FnOk X.prog X.w X.K X.mg X.base CX0 k f fd [pm] spOrd) (hr:Room k X.A.in1.in1)
  (hb:Binds X.K fd [pm] []) {a:Addr} {xs:List V} (ha:H a=some (.tup xs)) {Q:Value->Shared->Prop} {E:Value->Shared->Prop}
  (q:∀p s2,H' p=none->Mid X H s D S e1 (upd H' p (.tup [.int xs.length,.ref a])) s2 kA->Q (.ref p) s2):wpAny (model X.prog X.w) X.A.in1.in1 (call (.ref f) [.ref a]) Q E s':=by
 have I':Inv X pins σ H' s':=I.call' (ch:=[]) m.os m.un m.hok m.bare (fun b z=>absurd z (by simp))
 have nfD:∀b,s.heap.objs.size<=b->b∉frs X.stack:=fun b hb z=>by
  rcases List.mem_cons.mp (I.stkSub b z) with z | z
  ·exact absurd (Nat.lt_of_lt_of_le I.lt hb) (by rw [z];exact Nat.lt_irrefl _)
  ·exact I.nofs hb z
 refine wpAny_call (codeAny_mono (F.run X.A.in1.in1 X.stack s' H' ⟨[.ref a],[]⟩ [.ref a] [.ref a] (fun v H2=>∃p,v=.ref p/\H' p=none/\H2=upd H' p (.tup [.int xs.length,.ref a])) (fun _ _ _=>False) hr I'.env0.in1.in1 (hb s' [.ref a] I'.kIn rfl) (.cons rfl .nil) ⟨a,rfl,xs,m.same _ _ ha,fun p hp=>⟨p,rfl,hp,rfl⟩⟩) fun r s2 hq=>?_)
 cases r with
 | error e=>exact False.elim hq
 | ok fl=>
  cases fl with
  | next=>exact False.elim hq
  | brk=>exact False.elim hq
  | cont=>exact False.elim hq
  | ret u=>
   refine hide fun gG hG=>?_
   obtain ⟨v,H2,os,bare,un,hok,rv,p,rfl,hp,rfl⟩:=hq
   refine hG ?_
   cases rv
   obtain ⟨eS,oS⟩:=m.oS
   exact q p s2 hp ⟨os.trans m.os,bare,m.un.trans un,hok,m.same.trans fun b u eb=>by rw [upd_ne (ne_of_none eb hp)];exact eb,un.free D _ m.oD m.nD (by simp),un.free S _ oS m.nS (by simp),un.keep D _ m.oD m.nD (nfD D hD) (by simp),eS,un.keep S _ oS m.nS (nfD S hS) (by simp)⟩
theorem Mid.push {D S:Addr} {e1:Nat} {H':Hp} {s':Shared} {kA:Array Value} (m:Mid X H s D S e1 H' s' kA) (hS:s.heap.objs.size<=S) (hDS:D≠S) (g:Array Value->Array Value):Mid X H s D S e1 H' { s' with heap:=s'.heap.update S (Obj.mapSeq g) } (g kA):=by
 obtain ⟨eS,oS⟩:=m.oS
 have sb:=Heap.SameBut.update s'.heap S (Obj.mapSeq g)
 have k:∀b u,b≠S->s'.heap.get? b=some u->(s'.heap.update S (Obj.mapSeq g)).get? b=some u:=fun b u nb q=>(sb.2 b nb).trans q
 exact ⟨m.os,m.bare,un_off m.un hS k,hok_off m.hok m.nS k,m.same,m.nD,m.nS,k _ _ hDS m.oD,_,get?_update_seq oS g⟩
def Keys (H':Hp) (as:List Addr) (ss:List (List Int)) (n:Nat) (kA:Array Value):Prop:=kA.size=n/\∀(j:Nat) v,kA[j]? = some v->∃p a ns,v=.ref p/\as[j]? = some a/\ss[j]? = some ns/\H' p=some (.tup [.int (ns.length:Nat),.ref a])
theorem keys_loop {D S:Addr} {e1:Nat} {H0:Hp} {s0:Shared} (I:Inv X pins σ H s) (m:Mid X H s D S e1 H0 s0 #[]) (hD:s.heap.objs.size<=D) (hS:s.heap.objs.size<=S) (hDS:D≠S) {k:Nat} {f:Addr} {fd:FuncData} {pm:Str} (F:FnOk X.prog X.w X.K X.mg X.base CX0 k f fd [pm] spOrd) (hr:Room k X.A.in1.in1)
  (hb:Binds X.K fd [pm] []) {as:List Addr} {ss:List (List Int)} (ls:as.length=ss.length) (h64:as.length < 100000) (hs:∀(i:Nat) a ns,as[i]? = some a->ss[i]? = some ns->H a=some (.tup (List.map V.int ns))) {Q:PUnit->Shared->Prop} {E:Value->Shared->Prop} {body:Value->PUnit->Sem (ForInStep PUnit)}
  (hbody:∀a R s1,wpAny (model X.prog X.w) X.A.in1.in1 (call (.ref f) [.ref a]) (fun v s2=>wpAny (model X.prog X.w) X.A.in1.in1 (Builtin.List.listUpdate (.ref S) (·.push v)) (fun _ s3=>R (.yield ⟨⟩) s3) E s2) (fun _ _=>False) s1->wpAny (model X.prog X.w) X.A.in1.in1 (body (.ref a) ⟨⟩) R E s1)
  (q:∀H' s' kA,Mid X H s D S e1 H' s' kA->Keys H' as ss as.length kA->Q ⟨⟩ s'):wpAny (model X.prog X.w) X.A.in1.in1 (forIn (as.map Value.ref) PUnit.unit body) Q E s0:=by
 refine ksk_fold (fun i s'=>∃H' kA,Mid X H s D S e1 H' s' kA/\Keys H' as ss i kA) (as.map Value.ref) 0 s0 ⟨H0,#[],m,rfl,fun j v e=>by simp at e⟩ (fun j x s1 hx hJ=>?_) fun s' hd=>?_
 ·refine hide fun gG hG=>?_
  obtain ⟨H',kA,m1,ks,kk⟩:=hJ
  refine hG ?_
  rw [List.getElem?_map] at hx
  cases ea:as[j]? with
  | none=>rw [ea] at hx;cases hx
  | some a=>
   rw [ea] at hx
   cases hx
   have hj:j < as.length:=(List.getElem?_eq_some_iff.mp ea).1
   have es:ss[j]? = some ss[j]:=List.getElem?_eq_getElem (by lia)
   refine hbody a _ s1 (m1.call I hD hS F hr hb (hs j a _ ea es) fun p s2 hp m2=>?_)
   obtain ⟨eS,oS⟩:=m2.oS
   have z1:kA.size<=sizeLine:=smallB (by lia)
   have z2:(kA.push (.ref p)).size<=sizeLine:=by rw [Array.size_push];exact smallB (by lia)
   refine listUpdate_at (xs:=kA) oS rfl ⟨rfl,_,kA.push (.ref p),m2.push hS hDS (·.push (.ref p)),by rw [Array.size_push,ks],fun i v ev=>?_⟩ z1 (Nat.le_succ_of_le z2)
   by_cases hi:i < kA.size
   ·rw [Array.getElem?_push_lt hi] at ev
    obtain ⟨p',a',ns',e1',e2',e3',e4'⟩:=kk i v (by rw [Array.getElem?_eq_getElem hi];exact ev)
    exact ⟨p',a',ns',e1',e2',e3',by rw [upd_ne (ne_of_none e4' hp)];exact e4'⟩
   ·have hi2:i=kA.size:=by
     have:=(Array.getElem?_eq_some_iff.mp ev).1
     rw [Array.size_push] at this
     lia
    subst hi2
    rw [Array.getElem?_push_size] at ev
    cases ev
    rw [ks,Nat.zero_add]
    exact ⟨p,a,_,rfl,ea,es,by rw [upd_same,List.length_map]⟩
 ·refine hide fun gG hG=>?_
  obtain ⟨H',kA,m1,ks,kk⟩:=hd
  refine hG ?_
  rw [List.length_map,Nat.zero_add] at ks
  exact q H' s' kA m1 ⟨ks,kk⟩
end
end L2
end
section
namespace L2
open PySem PySem.Spec PySem.W PyProof.Rows Builtin
section
variable {P:Program} {w:World} {H':Hp} {h:Heap} {p a:Addr}
theorem key_obj {l:Int} (hok:HOk P w H' h) (e:H' p=some (.tup [.int l,.ref a])):∃t,IsTup h p #[.int l t,.ref a]:=by
 refine hide fun gG hG=>?_
 obtain ⟨_,its,r,ht⟩:=hok p _ e
 refine hG ?_
 cases r with
 | cons r1 r2=>
  obtain ⟨t,rfl⟩:=r1
  cases r2 with
  | cons r3 r4=>
   cases r4
   cases r3
   exact ⟨t,ht⟩
theorem set_obj {ns:List Int} (hok:HOk P w H' h) (e:H' a=some (.tup (List.map V.int ns))):∃its,IsTup h a its/\IntsAre its.toList ns:=by
 refine hide fun gG hG=>?_
 obtain ⟨_,its,r,ht⟩:=hok a _ e
 refine hG ?_
 exact ⟨_,ht,intsAre_of r⟩
end
section
variable {X:Cx} {pins:List (Addr×Obj)} {σ:St} {H:Hp} {s:Shared}
structure Fin (X:Cx) (H:Hp) (s:Shared) (D:Addr) (H':Hp) (s':Shared) (bs:List Addr):Prop where
 os:s'.os=s.os
 bare:AllBare s'.gens
 un:Un (frs X.stack) [] H H' s.heap s'.heap
 hok:HOk X.prog X.w H' s'.heap
 same:Same H H'
 nD:H' D=none
 oD:∃c,s'.heap.get? D=some (seqObj "list" (bs.map Value.ref).toArray c)
theorem sort_tail {D S:Addr} {e1:Nat} {H':Hp} {s':Shared} {kA:Array Value} {bs:List Addr} {st:SortSt} {Pq:PySem.Fin->Shared->Prop} {E:Value->Shared->Prop} (m:Mid X H s D S e1 H' s' kA) (hD:s.heap.objs.size<=D) (hS:s.heap.objs.size<=S) (hDS:D≠S) (hk:kA.size<=100000) (hb:bs.length<=100000)
  (hout:(arrOf st).map (·.2)=(bs.map Value.ref).toArray) (hf:failedOf st=none) (q:∀s2,Fin X H s D H' s2 bs->Pq (.done (.ret .none)) s2):wpAny (model X.prog X.w) X.A.in1.in1 (ksk_tail D false e1 (.ref S) st) Pq E s':=by
 obtain ⟨eS,oS⟩:=m.oS
 have m1:=m.push hS hDS (fun _=>#[])
 have sb:=Heap.SameBut.update (s'.heap.update S (Obj.mapSeq fun _=>(#[]:Array Value))) D (Obj.mapSeq fun _=>(bs.map Value.ref).toArray)
 have k:∀b u,b≠D->(s'.heap.update S (Obj.mapSeq fun _=>(#[]:Array Value))).get? b=some u->((s'.heap.update S (Obj.mapSeq fun _=>(#[]:Array Value))).update D (Obj.mapSeq fun _=>(bs.map Value.ref).toArray)).get? b=some u:=fun b u nb q=>(sb.2 b nb).trans q
 unfold ksk_tail
 dsimp only
 refine wpAny_bind (listUpdate_at (xs:=kA) oS rfl ?_ (smallB (by lia)) (Nat.zero_le _))
 refine wpAny_bind (wpAny_letGo ?_)
 refine wpAny_bind (seqEpoch_at m1.oD rfl ?_)
 rw [hout]
 refine wpAny_bind (listUpdate_at m1.oD rfl ?_ (Nat.zero_le _) (by
  have z:((bs.map Value.ref).toArray).size<=sizeLine:=by rw [List.size_toArray,List.length_map];exact smallB (by lia)
  first | exact z | exact Nat.le_succ_of_le z))
 rw [hf]
 simp only [bne_self_eq_false,Bool.false_eq_true,if_false]
 exact wpAny_pure (q _ ⟨m1.os,m1.bare,un_off m1.un hD k,hok_off m1.hok m1.nD k,m1.same,m1.nD,_,get?_update_seq m1.oD fun _=>(bs.map Value.ref).toArray⟩)
theorem katTups_of {h:Heap}:∀{l:List Value},(∀v∈l,∃p a,∃k:Int,∃t,v=.ref p/\IsTup h p #[.int k t,.ref a])->∃fs,KatTups h l fs/\fs.length=l.length/\∀f∈fs,∃(k:Int) (t:Tok),f=.int k t
 | [],_=>⟨[],.nil,rfl,fun _ z=>nomatch z⟩
 | v::l,hv=>by
  refine hide fun gG hG=>?_
  obtain ⟨p,a,k,t,rfl,o,e,c,n,d⟩:=hv v List.mem_cons_self
  obtain ⟨fs,r1,r2,r3⟩:=katTups_of (l:=l) fun u hu=>hv u (List.mem_cons_of_mem _ hu)
  refine hG ?_
  exact ⟨.int k t::fs,.cons e c d rfl r1,by rw [List.length_cons,List.length_cons,r2],fun f hf=>by
   rcases List.mem_cons.mp hf with rfl | hf
   ·exact ⟨k,t,rfl⟩
   ·exact r3 f hf⟩
def setB (ss:List (List Int)) (i j:Nat):Bool:=setLt (ss.getD i []) (ss.getD j [])
theorem getD_some {α:Type} {l:List α} {i:Nat} {x d:α} (h:l[i]? = some x):l.getD i d=x:=by rw [List.getD_eq_getElem?_getD,h];rfl
theorem sort_end {D S:Addr} {e1:Nat} {H':Hp} {s':Shared} {kA:Array Value} {as:List Addr} {ss:List (List Int)} {Pq:PySem.Fin->Shared->Prop} {E:Value->Shared->Prop} (m:Mid X H s D S e1 H' s' kA) (hu:X.A.in1.in1.units < cLine) (hD:s.heap.objs.size<=D) (hS:s.heap.objs.size<=S) (hDS:D≠S)
  (kk:Keys H' as ss as.length kA) (ls:as.length=ss.length) (h64:as.length < 100000) (nd:ss.Nodup) (hs:∀(i:Nat) a ns,as[i]? = some a->ss[i]? = some ns->H a=some (.tup (List.map V.int ns)))
  (q:∀s2 p,Prm p as.length->Asc (setB ss) p as.length->Fin X H s D H' s2 (p.toList.map fun i=>as.getD i 0)->Pq (.done (.ret .none)) s2):wpAny (model X.prog X.w) X.A.in1.in1 (ksk_end D false (as.map Value.ref).toArray e1 (.ref S) kA) Pq E s':=by
 obtain ⟨ks,kv⟩:=kk
 have hzs:(kA.zip (as.map Value.ref).toArray).size=as.length:=by rw [Array.size_zip,ks,List.size_toArray,List.length_map,Nat.min_self]
 have itm:∀i,i < as.length->∃p,kas_item (kA.zip (as.map Value.ref).toArray) i=(.ref p,.ref (as.getD i 0))/\∃a ns,as[i]? = some a/\ss[i]? = some ns/\H' p=some (.tup [.int (ns.length:Nat),.ref a]):=fun i hi=>by
  have hi1:i < kA.size:=by lia
  obtain ⟨p,a,ns,e1,e2,e3,e4⟩:=kv i kA[i] (Array.getElem?_eq_getElem hi1)
  refine ⟨p,?_,a,ns,e2,e3,e4⟩
  unfold kas_item
  rw [Array.getD_eq_getD_getElem?,Array.getElem?_eq_getElem (by rw [hzs];exact hi),Option.getD_some,Array.getElem_zip,e1,getD_some e2]
  congr 1
  have:(as.map Value.ref)[i]? = some (.ref a):=by rw [List.getElem?_map,e2];rfl
  have h2:=List.getElem?_eq_some_iff.mp this
  simpa using h2.2
 have outp:∀p:Array Nat,Prm p as.length->(p.map (kas_item (kA.zip (as.map Value.ref).toArray))).map (·.2)=((p.toList.map fun i=>as.getD i 0).map Value.ref).toArray:=fun p hp=>by
  apply Array.ext'
  rw [Array.toList_map,Array.toList_map,List.toList_toArray,List.map_map,List.map_map]
  refine List.map_congr_left fun i hi=>?_
  have hlt:i < as.length:=by
   have:=(hp.perm.mem_iff (a:=i)).mp (by simpa using hi)
   simpa using this
  obtain ⟨p',e,_⟩:=itm i hlt
  show (kas_item _ i).2=_
  rw [e]
  rfl
 have blen:∀p:Array Nat,Prm p as.length->(p.toList.map fun i=>as.getD i 0).length<=100000:=fun p hp=>by rw [List.length_map,Array.length_toList,hp.size];lia
 unfold ksk_end
 dsimp only
 simp only [Bool.false_eq_true,if_false]
 by_cases h2:(as.map Value.ref).toArray.size < 2
 ·rw [if_pos h2,if_pos h2]
  refine wpAny_bind (wpAny_pure ?_)
  rw [StateT.run_pure]
  refine wpAny_bind (wpAny_pure ?_)
  dsimp only
  have hp:Prm (List.toArray (List.range as.length)) as.length:=⟨Array.Perm.refl _⟩
  rw [List.size_toArray,List.length_map] at h2
  refine sort_tail (st:=SortSt.mk' general' (kA.zip (as.map Value.ref).toArray) #[] 7 none) m hD hS hDS (by lia) (blen _ hp) ?_ rfl fun s2 f=>q s2 _ hp (fun i hi=>by lia) f
  rw [<-outp _ hp]
  have:(List.toArray (List.range as.length)).map (kas_item (kA.zip (as.map Value.ref).toArray))=kA.zip (as.map Value.ref).toArray:=by
   have:=kas_range (kA.zip (as.map Value.ref).toArray)
   rwa [hzs] at this
  rw [this]
 ·rw [if_neg h2,if_neg h2]
  rw [List.size_toArray,List.length_map] at h2
  have h2':2<=as.length:=by lia
  have tups:∀v∈kA.toList,∃p a,∃k:Int,∃t,v=.ref p/\IsTup s'.heap p #[.int k t,.ref a]:=fun v hv=>by
   obtain ⟨i,hi,rfl⟩:=List.mem_iff_getElem.mp hv
   obtain ⟨p,a,ns,e1,e2,e3,e4⟩:=kv i (kA.toList[i]) (by rw [<-Array.getElem?_toList];exact List.getElem?_eq_getElem hi)
   obtain ⟨t,ht⟩:=key_obj m.hok e4
   exact ⟨p,a,_,t,e1,ht⟩
  refine hide fun gG hG=>?_
  obtain ⟨fs,kt,lf,hf⟩:=katTups_of tups
  refine hG ?_
  have kind:wpAny (model X.prog X.w) X.A.in1.in1 (keyKind' kA) (fun κ s2=>κ=tuples' true/\s2=s') E s':=by
   have:=kat_kind (M:=model X.prog X.w) (A:=X.A.in1.in1) (E:=E) (s:=s') (T:=Value.type "int") (Q:=fun κ s2=>κ=tuples' true/\s2=s') kt (by rw [lf,Array.length_toList];lia) (fun v hv=>by
    obtain ⟨k,t,rfl⟩:=hf v hv
    exact .now) (by decide) ⟨by congr 1,rfl⟩
   rwa [Array.toArray_toList] at this
  refine wpAny_bind (wpAny_mono kind (fun κ s2 ⟨e1,e2⟩=>?_) fun _ _ x=>x)
  subst e1 e2
  have hn:0 < as.length:=by lia
  have obj:∀i,i < as.length->∃p a t its,∃k:Int,(kas_item (kA.zip (as.map Value.ref).toArray) i).1=.ref p/\IsTup s2.heap p #[.int k t,.ref a]/\IsTup s2.heap a its/\IntsAre its.toList (ss.getD i [])/\k=(ss.getD i []).length:=fun i hi=>by
   refine hide fun gG hG=>?_
   obtain ⟨p,e,a,ns,e2,e3,e4⟩:=itm i hi
   obtain ⟨t,ht⟩:=key_obj m.hok e4
   obtain ⟨its,ha,hia⟩:=set_obj m.hok (m.same _ _ (hs i a ns e2 e3))
   refine hG ?_
   exact ⟨p,a,t,its,_,by rw [e],ht,ha,by rw [getD_some e3];exact hia,by rw [getD_some e3]⟩
  have ssD:∀i,i < as.length->ss[i]? = some (ss.getD i []):=fun i hi=>by
   rw [List.getD_eq_getElem?_getD,List.getElem?_eq_getElem (by lia)];rfl
  have inj:∀i j,i < as.length->j < as.length->kas_item (kA.zip (as.map Value.ref).toArray) i=kas_item (kA.zip (as.map Value.ref).toArray) j->i=j:=fun i j hi hj e=>by
   refine hide fun gG hG=>?_
   obtain ⟨p,e1,a,ns,f1,f2,_⟩:=itm i hi
   obtain ⟨p',e1',a',ns',f1',f2',_⟩:=itm j hj
   refine hG ?_
   rw [e1,e1'] at e
   injection e with _ e2
   injection e2 with e2
   rw [getD_some f1,getD_some f1'] at e2
   subst e2
   have g1:=hs i a ns f1 f2
   have g2:=hs j a ns' f1' f2'
   rw [g1] at g2
   have e3:ns=ns':=by
    injection g2 with g2
    injection g2 with g2
    exact (List.map_inj_right fun _ _ h=>V.int.inj h).mp g2
   subst e3
   have h1:=(List.getElem?_eq_some_iff.mp f2)
   have h2:=(List.getElem?_eq_some_iff.mp f2')
   exact (List.getElem_inj nd).mp (h1.2.trans h2.2.symm)
  have run:=s_sorted (prog:=X.prog) (w:=X.w) (A:=X.A.in1.in1) (E:=E) (κ:=tuples' true) (item:=kas_item (kA.zip (as.map Value.ref).toArray)) (n:=as.length) (b:=setB ss) (s:=s2) (it:=kA.zip (as.map Value.ref).toArray) inj
   (by have:=setLt_ord nd;rw [<-ls] at this;exact this) h2' (fun i j C hi hj hC=>by
    refine hide fun gG hG=>?_
    obtain ⟨p,a,t,its,k,e1,t1,t2,t3,t4⟩:=obj i hi
    obtain ⟨p',a',t',its',k',e1',t1',t2',t3',t4'⟩:=obj j hj
    refine hG ?_
    rw [e1,e1']
    exact cmp_key hu t1 t1' t2 t2' t3 t3' t4 t4' hC) (by
    have:=kas_range (kA.zip (as.map Value.ref).toArray)
    rw [hzs] at this
    have e:=congrArg Array.toList this
    rw [Array.toList_map,List.toList_toArray] at e
    exact e.symm)
  refine wpAny_bind (wpAny_mono run (fun r s3 ⟨e,p,hp,ha,e1,e2⟩=>?_) fun _ _ x=>x)
  obtain ⟨⟨⟩,st'⟩:=r
  subst e
  dsimp only
  exact sort_tail m hD hS hDS (by lia) (blen _ hp) (by rw [e1];exact outp p hp) e2 fun s4 f=>q s4 p hp ha f
end
end L2
end
section
namespace L2
open PySem PySem.Spec PySem.W PyProof.Rows Builtin
theorem valsRefs:∀l:List Addr,Vals (List.map V.ref l) (List.map Value.ref l)
 | []=>.nil
 | a::l=>.cons rfl (valsRefs l)
section
variable {X:Cx} {pins:List (Addr×Obj)} {σ:St} {H:Hp} {s:Shared}
theorem sorted_key {k:Nat} {f:Addr} {fd:FuncData} {pm:Str} {x:Value} {as:List Addr} {ss:List (List Int)} {Q:VK} (I:Inv X pins σ H s) (F:FnOk X.prog X.w X.K X.mg X.base CX0 k f fd [pm] spOrd) (hr:Room k X.A.in1.in1) (hb:Binds X.K fd [pm] [])
  (ls:as.length=ss.length) (h64:as.length < 100000) (nd:ss.Nodup) (hs:∀(i:Nat) a ns,as[i]? = some a->ss[i]? = some ns->H a=some (.tup (List.map V.int ns)))
  (hc:∀(Q':List Value->Shared->Prop),(∀s',(∀b o,s.heap.get? b=some o->s'.heap.get? b=some o)->s.heap.objs.size<=s'.heap.objs.size->s'.gens=s.gens->s'.os=s.os->Q' (as.map Value.ref) s')->wpAny (model X.prog X.w) X.A.in1 (collect x) Q' X.xe s)
  (q:∀D H' p,Same H H'->H D=none->Prm p as.length->Asc (setB ss) p as.length->H' D=some (.lst (List.map V.ref (p.toList.map fun i=>as.getD i 0)))->Q (.ref D) H') :
  wpAny (model X.prog X.w) X.A (PySem.call (.builtin "sorted") [x] [(Str.ofString "key",.ref f)]) (EP X pins σ Q) X.xe s:=by
 refine call_function_entry_kw kind_sorted plain_sorted entry_sorted (ksk_s1 _ _) ?_
 unfold Builtin.«sorted»
 refine wpAny_bind (m:=checkCount "sorted" 1 1 _) (wpAny_pure ?_)
 refine wpAny_bind (hc _ fun s1 k1 z1 g1 o1=>?_)
 refine wpAny_bind (wpAny_newList ?_ (by rw [List.length_map];exact smallB (by lia)))
 have hoL:(s1.heap.push (seqObj "list" (as.map Value.ref).toArray 0)).get? s1.heap.objs.size=some (seqObj "list" (as.map Value.ref).toArray 0):=Heap.get?_push_size _ rfl
 refine wpAny_bind (wpAny_holding (wpAny_call_entry_kw slot_list_sort ⟨_,hoL,rfl⟩ entry_list_sort ?body (ksk_l1 _ _)))
 case body=>
  show wpAny (model X.prog X.w) X.A.in1.in1 (Builtin.«list.sort» ⟨[.ref s1.heap.objs.size],[(Str.ofString "key",.ref f)]⟩) _ _ _
  rw [ksk_t1]
  unfold ksk_tree
  have lv:(as.map Value.ref).toArray.size<=sizeLine:=by rw [List.size_toArray,List.length_map];exact smallB (by lia)
  obtain ⟨e1,hoD1⟩:∃e1,((s1.heap.push (seqObj "list" (as.map Value.ref).toArray 0)).update s1.heap.objs.size (Obj.mapSeq fun _=>(#[]:Array Value))).get? s1.heap.objs.size=some (seqObj "list" #[] e1):=⟨_,get?_update_seq hoL fun _=>#[]⟩
  have sb:=Heap.SameBut.update (s1.heap.push (seqObj "list" (as.map Value.ref).toArray 0)) s1.heap.objs.size (Obj.mapSeq fun _=>(#[]:Array Value))
  have size1:((s1.heap.push (seqObj "list" (as.map Value.ref).toArray 0)).update s1.heap.objs.size (Obj.mapSeq fun _=>(#[]:Array Value))).objs.size=s1.heap.objs.size+1:=by rw [Heap.size_update,size_push']
  refine wpAny_bind (listItems_at hoL rfl ?_)
  refine wpAny_bind (listUpdate_at hoL rfl ?_ lv (Nat.zero_le _))
  refine wpAny_bind (seqEpoch_at hoD1 rfl ?_)
  refine wpAny_bind (wpAny_newTuple ?_ (by rw [List.toList_toArray,List.length_map];exact smallB (by lia)))
  refine wpAny_bind (wpAny_newList ?_ (Nat.zero_le _))
  refine wpAny_holding ?_
  have size2:(((s1.heap.push (seqObj "list" (as.map Value.ref).toArray 0)).update s1.heap.objs.size (Obj.mapSeq fun _=>(#[]:Array Value))).push (seqObj "tuple" (as.map Value.ref).toArray 0)).objs.size=s1.heap.objs.size+2:=by rw [size_push',size1]
  have keep:∀b o,s.heap.get? b=some o->((((s1.heap.push (seqObj "list" (as.map Value.ref).toArray 0)).update s1.heap.objs.size (Obj.mapSeq fun _=>(#[]:Array Value))).push (seqObj "tuple" (as.map Value.ref).toArray 0)).push (seqObj "list" #[] 0)).get? b=some o:=fun b o e=>by
   have lb:b < s1.heap.objs.size:=Nat.lt_of_lt_of_le (Heap.lt_size e) z1
   exact Heap.get?_push_of_some _ (Heap.get?_push_of_some _ ((sb.2 b (Nat.ne_of_lt lb)).trans (Heap.get?_push_of_some _ (k1 b o e))))
  have m0:Mid X H s s1.heap.objs.size (s1.heap.objs.size+2) e1 H { s1 with heap:=(((s1.heap.push (seqObj "list" (as.map Value.ref).toArray 0)).update s1.heap.objs.size (Obj.mapSeq fun _=>(#[]:Array Value))).push (seqObj "tuple" (as.map Value.ref).toArray 0)).push (seqObj "list" #[] 0) } #[]:=
   ⟨o1,by show AllBare s1.gens;rw [g1];exact I.bare,Un.kept keep,I.hok.kept keep,Same.refl H,I.hok.fresh z1,I.hok.fresh (by lia),Heap.get?_push_of_some _ (Heap.get?_push_of_some _ hoD1),0,by rw [<-size2];exact Heap.get?_push_size _ rfl⟩
  unfold ksk_rest
  refine wpAny_bind (wpAny_rule ?_)
  rw [<-Array.forIn_toList,List.toList_toArray]
  show wpAny (model X.prog X.w) X.A.in1.in1 _ _ X.xe { s1 with heap:=(((s1.heap.push (seqObj "list" (as.map Value.ref).toArray 0)).update s1.heap.objs.size (Obj.mapSeq fun _=>(#[]:Array Value))).push (seqObj "tuple" (as.map Value.ref).toArray 0)).push (seqObj "list" #[] 0) }
  rw [size2]
  refine wpAny_bind (keys_loop I m0 z1 (by lia:s.heap.objs.size<=s1.heap.objs.size+2) (by lia:s1.heap.objs.size≠s1.heap.objs.size+2) F hr hb ls h64 hs (fun a R s2 hw=>?_) fun H' s' kA m kk=>?_)
  ·refine wpAny_bind (wpAny_attempt (wpAny_mono hw (fun v s3 h3=>?_) fun _ _ hF=>hF.elim))
   dsimp only
   exact wpAny_bind (wpAny_mono h3 (fun _ s4 h4=>wpAny_pure h4) fun _ _ x=>x)
  ·obtain ⟨eS,oS⟩:=m.oS
   refine wpAny_bind (listItems_at oS rfl ?_)
   refine sort_end m hr.units0 z1 (by lia:s.heap.objs.size<=s1.heap.objs.size+2) (by lia:s1.heap.objs.size≠s1.heap.objs.size+2) kk ls h64 nd hs fun s2 p hp ha fin=>⟨_,rfl,?_⟩
   obtain ⟨c,oD⟩:=fin.oD
   have hn:H s1.heap.objs.size=none:=I.hok.fresh z1
   have bl:(List.map V.ref (p.toList.map fun i=>as.getD i 0)).length<=sizeLine:=by rw [List.length_map,List.length_map,Array.length_toList,hp.size];exact smallB (by lia)
   have I2:Inv X pins σ (upd H' s1.heap.objs.size (.lst (List.map V.ref (p.toList.map fun i=>as.getD i 0)))) s2:=I.call' (ch:=[]) fin.os (un_lay fin.un z1 hn) (hok_lay fin.hok fin.nD ⟨bl,_,c,valsRefs _,oD⟩) fin.bare (fun b z=>absurd z (by simp))
   exact wpAny_pure ⟨_,rfl,.ref s1.heap.objs.size,_,I2,rfl,q _ _ p (fin.same.trans fun b u eb=>by rw [upd_ne (ne_of_none eb fin.nD)];exact eb) hn hp ha upd_same⟩
end
end L2
end
section
namespace L2
open PySem PySem.Spec PySem.W PyProof.Rows Builtin
def RawAt (h:Heap) (d:Addr) (es:Array DictEntry) (ep:Nat):Prop:=∃o,h.get? d=some o/\o.ExactDict/\o.data=.dict es ep
section
variable {P:Program} {w:World} {A:Around} {E:Value->Shared->Prop} {s:Shared} {d it:Addr} {es:Array DictEntry} {ep i:Nat}
theorem RawAt.ty (r:RawAt s.heap d es ep):s.TypeIs (.ref d) "dict":=let ⟨o,e,c,_⟩:=r;⟨o,e,c.1⟩
theorem RawAt.on {h h':Heap} (r:RawAt h d es ep) (k:∀o,h.get? d=some o->h'.get? d=some o):RawAt h' d es ep:=let ⟨o,e,c⟩:=r;⟨o,k _ e,c⟩
theorem raw_iter {Q:Value->Shared->Prop} (lo:(d == sysModules)=false) (r:RawAt s.heap d es ep) (q:Q (.ref s.heap.objs.size) { s with heap:=s.heap.push { cls:=.type "dict_keyiterator",data:=.fields #[.ref d,.int 0 0,.int es.size 0,.int ep 0] } }) :
  wpAny (model P w) A (pyIter (.ref d)) Q E s:=by
 have ty:=r.ty
 refine hide fun gG hG=>?_
 obtain ⟨o,ho,hc,hdat⟩:=r
 refine hG ?_
 refine wpAny_pyIter_slot ty PySem.F.slot_dict_iter (wpAny_call_entry PySem.F.slot_dict_iter ty PySem.F.entry_dict_iter ?_ (PySem.F.args_dict_iter_1 _))
 unfold Builtin.«dict.__iter__»
 refine wpAny_bind ?_
 unfold Builtin.Dict.dictSlotNone
 refine wpAny_bind (wpAny_notOrdered_dict ty (wpAny_pure ?_))
 refine (?_:wpAny (model P w) _ (Builtin.Dict.showsAll d >>= _) _ _ s)
 unfold Builtin.Dict.showsAll
 rw [if_neg (fun z=>by rw [lo] at z;cases z)]
 refine wpAny_bind (wpAny_pure (wpAny_bind (wpAny_dictEntries ho hdat (wpAny_bind (wpAny_dictEpoch ho hdat ?_)))))
 refine wpAny_bind (wpAny_newObj_type (wpAny_pure ⟨_,rfl,"dict_keyiterator",_,⟨_,Heap.get?_push_size _ rfl,rfl⟩,PySem.F.slot_dict_keyiterator_next.lookup,?_⟩))
 exact q
theorem raw_item {Q:Option Value->Shared->Prop} (ki:s.heap.IsKeyIter it d i es.size ep) (r:RawAt s.heap d es ep) (hi:i < es.size)
  (q:∀h',h'.IsKeyIter it d (i+1) es.size ep->Heap.SameBut it s.heap h'->Q (some es[i].key) { s with heap:=h' }):wpAny (model P w) A (pyNext (.ref it)) Q E s:=by
 refine hide fun gG hG=>?_
 obtain ⟨o,ho,hc,hd⟩:=id ki
 obtain ⟨od,hod,_,hdd⟩:=id r
 refine hG ?_
 have ty:=ki.typeIs
 unfold pyNext
 refine wpAny_bind (wpAny_attempt (wpAny_callSpecial?_slot (name:=Str.ofString "__next__") ty PySem.F.slot_dict_keyiterator_next (wpAny_call_entry PySem.F.slot_dict_keyiterator_next ty PySem.F.entry_dict_keyiterator_next ?_ (PySem.F.args_dict_keyiterator_next_1 _))))
 refine wpAny_bind (wpAny_pure (wpAny_bind (wpAny_bind ?_)))
 first | refine wpAny_bind (wpAny_typeNameOfWhole_keyiter ty (wpAny_pure (wpAny_bind (wpAny_fieldsOf ho hd ?_)))) | refine wpAny_bind (wpAny_typeNameOf_keyiter ty (wpAny_pure (wpAny_bind (wpAny_fieldsOf ho hd ?_))))
 rw [show Builtin.Dict_items.ownsTuple "dict_keyiterator" = false by decide]
 simp only [Bool.false_eq_true,if_false]
 refine (?_:wpAny (model P w) _ (if (Value.ref d == Value.none)=true then _ else _) _ _ s)
 rw [if_neg (fun z=>by cases z)]
 refine wpAny_bind (wpAny_pure (wpAny_bind (wpAny_dictEntries hod hdd ?_)))
 rw [if_neg (by simp)]
 refine wpAny_bind (wpAny_pure (wpAny_bind (wpAny_dictEpoch hod hdd ?_)))
 rw [if_neg (by simp)]
 refine wpAny_pure ?_
 simp only [show ¬((i:Int) < 0) from by omega,if_false,Int.toNat_natCast,Array.getElem?_eq_getElem hi]
 refine wpAny_bind ?_
 first | refine wpAny_bind (wpAny_typeNameOfWhole_keyiter ty (wpAny_pure (wpAny_bind (wpAny_isOneOf_keyiter ty ?_)))) | refine wpAny_bind (wpAny_typeNameOf_keyiter ty (wpAny_pure (wpAny_bind (wpAny_isOneOf_keyiter ty ?_))))
 refine (?_:wpAny (model P w) _ (setField (.ref it) 1 (rawInt ((i:Int)+1)) >>= _) _ _ s)
 refine wpAny_bind (wpAny_setField ho hd (by simp) ?_)
 have ki':(s.heap.update it (Obj.mapFields (·.setIfInBounds 1 (rawInt ((i:Int)+1))))).IsKeyIter it d (i+1) es.size ep:=by
  refine ⟨_,Heap.get?_update_self _ ho (Obj.isFreed_of_fields (Obj.data_mapFields hd _)),(Obj.cls_mapFields ..).trans hc,?_⟩
  rw [Obj.data_mapFields hd]
  simp [rawInt]
 refine wpAny_bind (wpAny_holding (wpAny_bind (wpAny_isOneOf_keyiter (s:={ s with heap:=s.heap.update it (Obj.mapFields (·.setIfInBounds 1 (rawInt ((i:Int)+1)))) }) ki'.typeIs ?_)))
 exact wpAny_pure (wpAny_pure ⟨_,rfl,wpAny_pure (q _ ki' (Heap.SameBut.update ..))⟩)
theorem raw_end {Q:Option Value->Shared->Prop} (hh:A.handled=none) (ki:s.heap.IsKeyIter it d i es.size ep) (r:RawAt s.heap d es ep) (hi:es.size<=i)
  (q:∀h',Heap.ExtBut it s.heap h'->Q none { s with heap:=h' }):wpAny (model P w) A (pyNext (.ref it)) Q E s:=by
 refine hide fun gG hG=>?_
 obtain ⟨o,ho,hc,hd⟩:=id ki
 obtain ⟨od,hod,_,hdd⟩:=id r
 refine hG ?_
 have ty:=ki.typeIs
 unfold pyNext
 refine wpAny_bind (wpAny_attempt (wpAny_callSpecial?_slot (name:=Str.ofString "__next__") ty PySem.F.slot_dict_keyiterator_next (wpAny_call_entry PySem.F.slot_dict_keyiterator_next ty PySem.F.entry_dict_keyiterator_next ?_ (PySem.F.args_dict_keyiterator_next_1 _))))
 refine wpAny_bind (wpAny_pure (wpAny_bind (wpAny_bind ?_)))
 first | refine wpAny_bind (wpAny_typeNameOfWhole_keyiter ty (wpAny_pure (wpAny_bind (wpAny_fieldsOf ho hd ?_)))) | refine wpAny_bind (wpAny_typeNameOf_keyiter ty (wpAny_pure (wpAny_bind (wpAny_fieldsOf ho hd ?_))))
 rw [show Builtin.Dict_items.ownsTuple "dict_keyiterator" = false by decide]
 simp only [Bool.false_eq_true,if_false]
 refine (?_:wpAny (model P w) _ (if (Value.ref d == Value.none)=true then _ else _) _ _ s)
 rw [if_neg (fun z=>by cases z)]
 refine wpAny_bind (wpAny_pure (wpAny_bind (wpAny_dictEntries hod hdd ?_)))
 rw [if_neg (by simp)]
 refine wpAny_bind (wpAny_pure (wpAny_bind (wpAny_dictEpoch hod hdd ?_)))
 rw [if_neg (by simp)]
 refine wpAny_pure ?_
 simp only [show ¬((i:Int) < 0) from by omega,if_false,Int.toNat_natCast,Array.getElem?_eq_none hi]
 refine wpAny_bind ?_
 first | refine wpAny_bind (wpAny_typeNameOfWhole_keyiter ty (wpAny_pure ?_)) | refine wpAny_bind (wpAny_typeNameOf_keyiter ty (wpAny_pure ?_))
 refine (?_:wpAny (model P w) _ (setField (.ref it) 0 .none >>= _) _ _ s)
 refine wpAny_bind (wpAny_setField ho hd (by simp) ?_)
 refine (?_:wpAny (model P w) _ (newExc (.type "StopIteration") [] >>= _) _ _ _)
 refine wpAny_bind ?_
 simp only [newExc,newTuple]
 refine wpAny_bind (wpAny_newObj_type ?_ (by size_fits))
 refine wpAny_bind (m:=firstArgMember _ _) (wpAny_of_eq (a:=Value.none)
  (by first | rfl | (simp only [firstArgMember];rfl)) ?_)
 refine wpAny_newObj_type ?_ (by size_fits)
 simp only [raiseNew]
 refine wpAny_bind (wpAny_handled ?_)
 rw [show A.in1.handled=none from hh]
 refine wpAny_bind (wpAny_pure (wpAny_throw ?_))
 refine wpAny_bind (wpAny_isInstance (T:="StopIteration") (b:=true)
  ⟨_,Heap.get?_push_size _ rfl,rfl⟩ isSubtype_stop ?_)
 exact wpAny_pure (q _ (((Heap.SameBut.update ..).extBut.push _).push _))
theorem raw_walks (hh:A.handled=none) (ne:d≠it):Walks P w A it [it,d] [it] es.size (fun j v=>(es[j]?.map fun e=>e.key)=some v) (fun j h=>h.IsKeyIter it d j es.size ep/\RawAt h d es ep) where
 sub:=fun b hb=>by simp at hb;simp [hb]
 frame:=fun _ _ _ st hk=>⟨st.1.at fun o e=>hk it (by simp) o e,st.2.on fun o e=>hk d (by simp) o e⟩
 item:=fun j s Q E hj st hQ=>raw_item st.1 st.2 hj fun h' k1 k2=>by
  refine hQ _ h' s.toks (by rw [Array.getElem?_eq_getElem hj];rfl) ⟨k1,st.2.on fun o e=>k2.extBut d o ne e⟩ fun b o hb e=>?_
  exact k2.extBut b o (fun z=>hb (by simp [z])) e
 done:=fun s Q E st hQ=>raw_end hh st.1 st.2 (Nat.le_refl _) fun h' k=>by
  refine hQ h' s.toks fun b o hb e=>?_
  exact k b o (fun z=>hb (by simp [z])) e
 self:=fun _ _ _ _ st hQ=>wpAny_pyIter_keyiter st.1 hQ
theorem raw_src (lo:(d == sysModules)=false):KdlSrc P w "dict" d d es.size (fun j v=>(es[j]?.map fun e=>e.key)=some v) (fun h=>RawAt h d es ep) where
 type:=fun _ r=>r.ty
 there:=fun _ ⟨_,e,_⟩=>⟨Heap.lt_size e,Heap.lt_size e⟩
 keep:=fun _ _ r hk=>r.on fun o e=>hk d (.inl rfl) o e
 notList:=by decide
 notTuple:=by decide
 hint:=fun _ _ _ _ r hq=>kdl_hint_dict r.ty hq
 iter:=fun _ s hh r=>⟨_,_,(fun _ _ hq=>raw_iter lo r hq),raw_walks hh (by obtain ⟨_,e,_⟩:=r;exact Nat.ne_of_lt (Heap.lt_size e)),⟨⟨_,Heap.get?_push_size _ rfl,rfl,rfl⟩,r.on fun o e=>Heap.get?_push_of_some _ e⟩⟩
end
end L2
end
section
namespace L2
open PySem PySem.Spec PySem.W PyProof.Rows Builtin
def SetsAt (H:Hp) (bs:List Addr) (ts:List (List Int)):Prop:=bs.length=ts.length/\∀(i:Nat) b t,bs[i]? = some b->ts[i]? = some t->H b=some (.tup (List.map V.int t))
def qSortT (x:V) (H:Hp) (Q:VK):Prop:=∃d,x=.ref d/\∃kvs ss,H d=some (.dT kvs)/\kvs.map (·.1)=ss.map (List.map Sum.inl)/\ss.length < 100000/\
 ∀D H' bs ts,Same H H'->H D=none->H' D=some (.lst (List.map V.ref bs))->SetsAt H' bs ts->ts.Perm ss->ts.Pairwise (fun a b=>setLt a b=true)->Q (.ref D) H'
def tSortK (te:TE):TE:=fun σ H Q=>te σ H fun x H1=>qSortT x H1 Q
theorem map_kV (ns:List Int):List.map kV (List.map Sum.inl ns)=List.map V.int ns:=by rw [List.map_map];rfl
theorem asc_pw {ss:List (List Int)} {p:Array Nat} (hp:Prm p ss.length) (O:Ord (setB ss) ss.length) (a:Asc (setB ss) p ss.length) (h0:0 < ss.length):(p.toList.map fun i=>ss.getD i []).Pairwise fun x y=>setLt x y=true:=by
 rw [List.pairwise_map,List.pairwise_iff_getElem]
 intro i j hi hj hij
 have hs:=hp.size
 rw [Array.length_toList] at hi hj
 have:=Asc.lt O hp h0 a (Nat.le_refl _) hij (by lia)
 have e:∀k (hk:k < p.size),at0 p k=p.toList[k]'(by simpa using hk):=fun k hk=>by
  unfold at0
  rw [Array.getD_eq_getD_getElem?,Array.getElem?_eq_getElem hk]
  simp
 rw [e i hi,e j hj] at this
 exact this
theorem prm_map {α:Type} {l:List α} {p:Array Nat} {d:α} (hp:Prm p l.length):(p.toList.map fun i=>l.getD i d).Perm l:=by
 have h1:p.toList.Perm (List.range l.length):=by simpa using Array.perm_iff_toList_perm.mp hp.perm
 have h2:=h1.map fun i=>l.getD i d
 have e:(List.range l.length).map (fun i=>l.getD i d)=l:=by
  apply List.ext_getElem?
  intro i
  rw [List.getElem?_map]
  by_cases hi:i < l.length
  ·rw [List.getElem?_range hi,List.getElem?_eq_getElem hi]
   simp [List.getD_eq_getElem?_getD,List.getElem?_eq_getElem hi]
  ·rw [List.getElem?_eq_none (by simpa using hi),List.getElem?_eq_none (by lia)]
   rfl
 rwa [e] at h2
theorem nodup_of_map {α β:Type} {f:α->β}:∀{l:List α},(l.map f).Nodup->l.Nodup
 | [],_=>List.nodup_nil
 | a::l,h=>by
  rw [List.map_cons,List.nodup_cons] at h
  exact List.nodup_cons.mpr ⟨fun z=>h.1 (List.mem_map_of_mem z),nodup_of_map h.2⟩
theorem paired_at {α β:Type} {F:α->β->Prop}:∀{l:List α} {m:List β},Paired F l m->∀{i:Nat} {b:β},m[i]? = some b->∃a,l[i]? = some a/\F a b
 | _,_,.nil,i,b,h=>by simp at h
 | _,_,.cons (a:=a) r rs,i,b,h=>by
  cases i with
  | zero=>cases h;exact ⟨a,rfl,r⟩
  | succ n=>exact paired_at rs (i:=n) h
section
variable {X:Cx} {k:Nat} {f:Addr} {fd:FuncData} {pm g:Str} {e:Expr} {te:TE} {p kp kpos pos:Pos}
theorem pe_fnref (hg:Gl X g) (hm:X.mg g=some (.ref f)) (hdb:(g == ("__debug__" : Str))=false):PE X (.Name g kp) (tC (.ref f)):=fun pins s σ H Q I h=>ld_glob I hg hm ⟨.ref f,H,I,rfl,h⟩ hdb
theorem pe_sortK (F:FnOk X.prog X.w X.K X.mg X.base CX0 k f fd [pm] spOrd) (hr:Room (k+2) X.A) (hg:Gl X "sorted") (hm:X.mg "sorted" = none) (hv:bootBuiltins "sorted" = some (.builtin "sorted")) (hgf:Gl X g) (hmf:X.mg g=some (.ref f)) (hb:Binds X.K fd [pm] []) (ha:PE X e te)
  (hdb:(g == ("__debug__" : Str))=false:=by decide) (he:starEach [e] X.env=[(false,eval e X.env)]:=by rfl) :
  PE X (.Call (.Name "sorted" p) [e] [⟨some "key",.Name g kp,kpos⟩] pos) (tSortK te):=by
 intro pins s σ H Q I h
 refine wpAny_Call_Name_kw (ld_blt I hg hm hv ?_)
 refine callWith_kw (thn ((pa_cons ha pa_nil he) pos pins s σ H (fun vs H1=>match vs with | [x]=>qSortT x H1 Q | _=>False) I h) fun us s1 ⟨vs,H1,I1,r1,q1⟩=>?_) (by rw [he];rfl) (by rw [he];rfl)
 match vs,r1,q1 with
 | [x],r1,q1=>
  obtain ⟨u,rfl,ru⟩:=vals1 r1
  refine thn ((pk_cons (nm:=some (Str.ofString "key")) (kpos:=kpos) (pe_fnref (kp:=kp) hgf hmf hdb) pk_nil) pos pins s1 σ H1 (fun zs H2=>zs=[.ref f]/\H2=H1) I1 ⟨rfl,rfl⟩) fun ws s2 ⟨zs,H2,I2,r2,ez,eh⟩=>?_
  subst ez eh
  obtain ⟨u2,rfl,ru2⟩:=vals1 r2
  cases ru2
  obtain ⟨d,rfl,kvs,ss,hd,ek,l64,q⟩:=q1
  cases ru
  obtain ⟨zl,lo,xs,pr,o,es,ep,ho,hx,hdat,hes,nd⟩:=I2.hok d _ hd
  have lx:kvs.length=xs.length:=pr.length
  have lk:kvs.length=ss.length:=by have:=congrArg List.length ek;simpa using this
  have at':∀(i:Nat) x,xs[i]? = some x->∃kv,kvs[i]? = some kv/\kv.1=x.1/\H2 x.2.1=some (.tup (kv.1.map kV)):=fun i x hx=>by
   obtain ⟨kv,e1,e2⟩:=paired_at pr hx
   exact ⟨kv,e1,e2.1,e2.2.1⟩
  have sets:∀(i:Nat) a ns,(xs.map (·.2.1))[i]? = some a->ss[i]? = some ns->H2 a=some (.tup (List.map V.int ns)):=fun i a ns ha hns=>by
   rw [List.getElem?_map] at ha
   cases ex:xs[i]? with
   | none=>rw [ex] at ha;cases ha
   | some x=>
    rw [ex] at ha
    cases ha
    obtain ⟨kv,e1,_,e3⟩:=at' i x ex
    have:(kvs.map (·.1))[i]? = some (ns.map Sum.inl):=by rw [ek,List.getElem?_map,hns];rfl
    rw [List.getElem?_map,e1] at this
    have e4:kv.1=ns.map Sum.inl:=Option.some.inj this
    rw [e4,map_kV] at e3
    exact e3
  have nds:ss.Nodup:=by
   have e5:xs.map (·.1)=ss.map (List.map Sum.inl):=by
    rw [<-ek]
    apply List.ext_getElem?
    intro i
    rw [List.getElem?_map,List.getElem?_map]
    cases ex:xs[i]? with
    | none=>rw [List.getElem?_eq_none (by have:=List.getElem?_eq_none_iff.mp ex;lia)];rfl
    | some x=>obtain ⟨kv,e1,e2,_⟩:=at' i x ex;rw [e1];exact congrArg some e2.symm
   rw [e5] at nd
   exact nodup_of_map nd
  have lss:(xs.map (·.2.1)).length=ss.length:=by rw [List.length_map];lia
  refine sorted_key (as:=xs.map (·.2.1)) (ss:=ss) I2 F hr.in1.in1 hb lss (by lia) nds sets (fun Q' hQ'=>?_) fun D H' p sm hD hp ha hl=>?_
  ·refine collect_src (A:=X.A.in1) (raw_src (es:=es) (ep:=ep) lo) hr.hd ⟨o,ho,hx,hdat⟩ (by rw [show es.size=kvs.length by rw [<-Array.length_toList,hes,List.length_map];lia];exact zl) fun s' vs k1 k2 k3 k4 k5 k6=>?_
   have e6:vs=(xs.map (·.2.1)).map Value.ref:=by
    apply List.ext_getElem?
    intro i
    cases ev:vs[i]? with
    | none=>
     have:=List.getElem?_eq_none_iff.mp ev
     rw [List.getElem?_eq_none]
     rw [List.length_map,List.length_map]
     have:es.size=xs.length:=by rw [<-Array.length_toList,hes,List.length_map]
     lia
    | some v=>
     have h1:=k6 i v ev
     rw [<-Array.getElem?_toList,hes,List.getElem?_map] at h1
     rw [List.getElem?_map,List.getElem?_map]
     cases ex:xs[i]? with
     | none=>rw [ex] at h1;cases h1
     | some x=>rw [ex] at h1;exact h1.symm
   rw [e6] at *
   exact hQ' s' k1 k2 k3 k4
  ·have hpS:Prm p ss.length:=by rw [<-lss];exact hp
   have haS:Asc (setB ss) p ss.length:=by rw [<-lss];exact ha
   refine q D H' (p.toList.map fun i=>(xs.map (·.2.1)).getD i 0) (p.toList.map fun i=>ss.getD i []) sm hD hl ⟨by simp,fun i b t hb ht=>?_⟩ (prm_map hpS) ?_
   ·rw [List.getElem?_map] at hb ht
    cases ei:p.toList[i]? with
    | none=>rw [ei] at hb;cases hb
    | some j=>
     rw [ei] at hb ht
     have hj:j < ss.length:=by
      have:=(hpS.perm.mem_iff (a:=j)).mp (by simpa using List.mem_of_getElem? ei)
      simpa using this
     have hb':(xs.map (·.2.1)).getD j 0=b:=Option.some.inj hb
     have ht':ss.getD j []=t:=Option.some.inj ht
     refine sm _ _ (sets j b t ?_ ?_)
     ·rw [<-hb',List.getD_eq_getElem?_getD,List.getElem?_eq_getElem (by lia)];rfl
     ·rw [<-ht',List.getD_eq_getElem?_getD,List.getElem?_eq_getElem hj];rfl
   ·by_cases h0:0 < ss.length
    ·exact asc_pw hpS (setLt_ord nds) haS h0
    ·have:p.toList=[]:=by
      have:=hpS.size
      exact List.eq_nil_of_length_eq_zero (by rw [Array.length_toList];lia)
     rw [this]
     exact List.Pairwise.nil
end
end L2
end
section
namespace L2
open PySem PySem.Spec PySem.W PyProof.Rows Builtin
section
variable {X:Cx}
def CDivB (i j:Int):Prop:=0 < j/\j < 2 ^ 300
theorem op_fdivB:OpR X (binaryOp .FloorDiv) (rI CDivB fun i j=>.int (i / j)):=opI fun i j _ _ _ _ _ hc q=>by
 have h1:(0:Int) < j:=hc.1
 have h2:j < 2 ^ 300:=hc.2
 refine floordiv_int (by omega) (by rw [Int.fdiv_eq_ediv_of_nonneg i (by omega)];exact q) (.inl (PyProof.noPylong_of_log2 ?_))
 have h3:j.natAbs < 2 ^ 300:=by omega
 have h4:j.natAbs≠0:=by omega
 have:=(Nat.log2_lt h4).mpr h3
 omega
def qAnyB:List V->Hp->VK->Prop:=fun vs H Q=>∃a,vs=[.ref a]/\∃bs:List Bool,H a=some (.lst (bs.map V.bl))/\Q (.bl (bs.any id)) H
theorem bools_atF:∀{bs:List Bool} {us:List Value},Vals (bs.map V.bl) us->∀(i:Nat) (v:Value),us[i]? = some v->v=.bool (bs.getD i false):=by
 intro bs
 induction bs with
 | nil=>intro us r i v h;cases r;cases i <;> cases h
 | cons b bs ih=>
  intro us r i v h
  rw [List.map_cons] at r
  cases r with
  | cons r1 r2=>
   cases r1
   cases i with
   | zero=>cases h;rfl
   | succ i=>exact ih r2 i v (by simpa using h)
theorem any_range:∀(bs:List Bool),((List.range bs.length).any fun i=>bs.getD i false)=bs.any id
 | []=>rfl
 | b::bs=>by
  rw [List.length_cons,List.range_succ_eq_map,List.any_cons,List.any_map,List.any_cons,<-any_range bs]
  rfl
theorem call_anyB (hh:X.A.handled=none):CallR X (.builtin "any") qAnyB:=by
 intro pins s σ H vs us Q I rv h
 obtain ⟨a,rfl,bs,hq,q⟩:=h
 obtain ⟨u,rfl,ru⟩:=vals1 rv
 cases ru
 obtain ⟨its,r,pl,hz⟩:=I.list (sqL_of hq)
 have hl:=r.length
 rw [List.length_map] at hl
 have lt:a < s.heap.objs.size:=let ⟨_,e,_⟩:=pl.isList;Heap.lt_size e
 refine call_any_walk (wpAny_pyIter_list pl.isList ⟨s.heap.objs.size,_,_,its.toArray.size,_,_,fun i=>bs.getD i false,rfl,Walks.list (A:=X.A.in1) hh _ a (Nat.ne_of_lt lt) its.toArray,⟨⟨_,Heap.get?_push_size _ rfl,rfl,rfl⟩,(pl.isList).push _⟩,?_,fun h' tk mv=>?_⟩)
 ·intro i v s1 Q1 E1 hv hq1
  have:v=.bool (bs.getD i false):=bools_atF r i v (by simpa using hv)
  subst this
  exact wpAny_pure hq1
 ·rw [List.size_toArray,<-hl,any_range]
  have k:∀b o,s.heap.get? b=some o->h'.get? b=some o:=fun b o e=>mv b o (fun z=>absurd (Heap.lt_size e) (by rw [List.mem_singleton.mp z];exact Nat.lt_irrefl _)) (Heap.get?_push_of_some _ e)
  exact ⟨.bl (bs.any id),H,I.un (t':=tk) (Un.kept k) (I.hok.kept k),rfl,q⟩
variable {k:Nat} {f:Addr} {fd:FuncData} {pm g:Str} {e:Expr} {te:TE} {p kp kpos pos:Pos}
theorem zpe_sortK (F:FnOk X.prog X.w X.K X.mg X.base CX0 k f fd [pm] spOrd) (hr:Room (k+2) X.A) (hg:Gl X "sorted") (hm:X.mg "sorted" = none) (hv:bootBuiltins "sorted" = some (.builtin "sorted")) (hgf:Gl X g) (hmf:X.mg g=some (.ref f)) (hb:Binds X.K fd [pm] []) (ha:ZE X e te)
  (hdb:(g == ("__debug__" : Str))=false:=by decide) (he:starEach [e] X.env=[(false,eval e X.env)]:=by rfl) :
  ZE X (.Call (.Name "sorted" p) [e] [⟨some "key",.Name g kp,kpos⟩] pos) (tSortK te):=⟨pe_sortK F hr hg hm hv hgf hmf hb ha.to hdb he⟩
def rInsert:V->List V->Hp->VK->Prop:=fun x vs H Q=>∃l i y,x=.ref l/\vs=[.int i,y]/\∃xs,H l=some (.lst xs)/\0<=i/\i<=xs.length/\xs.length < 100000/\Q .non (upd H l (.lst (xs.take i.toNat++y::xs.drop i.toNat)))
end
end L2
namespace L2
open PySem PySem.Spec PySem.W PyProof.Rows Builtin
theorem zpe_dnewT {X:Cx} {pos:Pos}:ZE X (.Dict [] [] pos) tDNewT:=⟨pe_dnewT⟩
end L2
end
section
namespace L2
open PySem PySem.Spec PyProof.Rows
def Itrv (K:PySem.W.Frag) (a:Addr) (n:Nat):It:=
 ⟨fun i H=>i < n/\∃xs,SqL K H a xs/\xs.length=n,fun i H x H'=>H'=H/\∀xs,SqL K H a xs->xs[n - 1 - i]? = some x,fun i _=>i=n⟩
section
variable {X:Cx} {tg:Expr}
def iRev (K:PySem.W.Frag) (ta:TA):TI:=fun σ H R=>ta σ H fun vs H1=>∃a,vs=[.ref a]/\∃xs,SqL K H1 a xs/\R (Itrv K a xs.length) H1
end
end L2
end
section
namespace L2
open PySem PySem.Spec PyProof.Rows
theorem all_same {α:Type} [DecidableEq α] {cl dl:List α}:((List.range (min cl.length dl.length)).all (fun j=>decide (cl[j]? = dl[j]?)) && cl.length == dl.length)=decide (cl=dl):=by
 rw [Bool.eq_iff_iff,Bool.and_eq_true,List.all_eq_true,decide_eq_true_iff,beq_iff_eq]
 constructor
 ·rintro ⟨h,l⟩
  apply List.ext_getElem?
  intro i
  by_cases hi:i < cl.length
  ·exact of_decide_eq_true (h i (List.mem_range.mpr (by lia)))
  ·rw [List.getElem?_eq_none (by lia),List.getElem?_eq_none (by lia)]
 ·rintro rfl
  exact ⟨fun j _=>decide_eq_true rfl,rfl⟩
theorem ints_inj:∀{x y:List Int},List.map V.int x=List.map V.int y->x=y
 | [],[],_=>rfl
 | [],_::_,h=>by cases h
 | _::_,[],h=>by cases h
 | a::x,b::y,h=>by
  rw [List.map_cons,List.map_cons] at h
  injection h with h1 h2
  rw [V.int.inj h1,ints_inj h2]
section
variable {X:Cx} {pins:List (Addr×Obj)} {s:Shared} {σ:St} {H:Hp} {A:Around}
theorem eq_int_items {x y:List Int} {us ws:List Value} (r1:Vals (List.map V.int x) us) (r2:Vals (List.map V.int y) ws) (j:Nat) (h1:j < us.toArray.size) (h2:j < ws.toArray.size) :
  SeqAt.EqAt A s us.toArray[j] ws.toArray[j] (decide (x[j]? = y[j]?)):=by
 have l1:=r1.length
 have l2:=r2.length
 rw [List.length_map] at l1 l2
 have j1:j < x.length:=by rw [l1];simpa using h1
 have j2:j < y.length:=by rw [l2];simpa using h2
 have e1:x[j]? = some x[j]:=List.getElem?_eq_getElem j1
 have e2:y[j]? = some y[j]:=List.getElem?_eq_getElem j2
 have h:=eqAt_V (A:=A) (s:=s) (vals_at (x:=.int x[j]) r1 h1 (by rw [List.getElem?_map,e1];rfl)) (vals_at (x:=.int y[j]) r2 h2 (by rw [List.getElem?_map,e2];rfl)) rfl rfl
 have e3:eqV (.int x[j]) (.int y[j])=decide (x[j]? = y[j]?):=by
  rw [e1,e2,Bool.eq_iff_iff,decide_eq_true_iff,Option.some.injEq]
  show (x[j] == y[j])=true↔_
  rw [beq_iff_eq]
 rw [e3] at h
 exact h
theorem eq_set {p q:Addr} {x y:List Int} (I:Inv X pins σ H s) (hp:H p=some (.tup (List.map V.int x))) (hq:H q=some (.tup (List.map V.int y))) (hu:A.units < cLine):SeqAt.EqAt A s (.ref p) (.ref q) (decide (x=y)):=by
 by_cases e:p=q
 ·subst e
  have:x=y:=by
   have h:=hp.symm.trans hq
   simp only [Option.some.injEq,HO.tup.injEq] at h
   exact ints_inj h
  rw [decide_eq_true this]
  exact SeqAt.EqAt.same _
 ·obtain ⟨us,r1,t1,_⟩:=I.tuple (sqT_of hp)
  obtain ⟨ws,r2,t2,_⟩:=I.tuple (sqT_of hq)
  have l1:=r1.length
  have l2:=r2.length
  rw [List.length_map] at l1 l2
  have h:=SeqAt.RcAt.tuples (A:=A) (e:=fun j=>decide (x[j]? = y[j]?)) t1 t2 hu fun j h1 h2=>eq_int_items r1 r2 j h1 h2
  rw [List.size_toArray,List.size_toArray,<-l1,<-l2,all_same] at h
  exact .of_refs e h
def qEqTI (neg:Bool):R2:=fun x y H Q=>∃a b,x=.ref a/\y=.ref b/\∃u v:List Int,H a=some (.tup (List.map V.int u))/\H b=some (.tup (List.map V.int v))/\Q (.bl (if neg then !decide (u=v) else decide (u=v))) H
theorem op_eqTI (hu:X.A.units+1 < cLine):OpR X (compareOp .Eq) (qEqTI false):=by
 intro pins s σ H x y v u Q I rx ry h
 obtain ⟨a,b,rfl,rfl,cl,dl,h1,h2,q⟩:=h
 cases rx;cases ry
 obtain ⟨us,r1,t1,_⟩:=I.tuple (sqT_of h1)
 obtain ⟨ws,r2,t2,_⟩:=I.tuple (sqT_of h2)
 have l1:=r1.length
 have l2:=r2.length
 rw [List.length_map] at l1 l2
 refine SeqAt.eq_tupleAt (e:=fun j=>decide (cl[j]? = dl[j]?)) t1 t2 (by lia) (fun j h1 h2=>eq_int_items r1 r2 j h1 h2) ⟨.bl _,H,I,rfl,?_⟩
 rw [List.size_toArray,List.size_toArray,<-l1,<-l2,all_same]
 exact q
def qEqSL (neg:Bool):R2:=fun x y H Q=>∃a b,x=.ref a/\y=.ref b/\∃ps qs cl dl,H a=some (.lst (List.map V.ref ps))/\H b=some (.lst (List.map V.ref qs))/\SetsAt H ps cl/\SetsAt H qs dl/\Q (.bl (if neg then !decide (cl=dl) else decide (cl=dl))) H
theorem mt_insert:MtM X "list.insert" rInsert:=by
 intro pins s σ H x vs v us Q I rx rv h
 obtain ⟨l,i,y,rfl,rfl,xs,hH,h0,h1,h2,q⟩:=h
 cases rx
 cases rv with
 | cons ri rr=>
  obtain ⟨u,rfl,ru⟩:=Vals.one rr
  obtain ⟨t,rfl⟩:=ri
  obtain ⟨z,its,n,r,hl,e⟩:=I.lstM hH
  have hlen:=r.length
  refine call_meets F.slot_list_insert ⟨_,e,rfl⟩ F.entry_list_insert (F.args_list_insert_3 _ _ _)
   (AutoSeq1.list_insert_list_int_val_1 l its.toArray n i t u (by rw [fitsIndex_both (by lia) (by lia)];decide) (by rw [List.size_toArray];lia)) ⟨e,?_⟩
  refine ⟨.non,_,I.lset (its':=its.take i.toNat++u::its.drop i.toNat) hH e ?_ ((r.take _).append (.cons ru (r.drop _))) ?_,rfl,q⟩
  ·show (its.toArray.extract 0 (if i < 0 then (i+((its.toArray.size:Nat):Int)).toNat else min i.toNat its.toArray.size)).push u++its.toArray.extract (if i < 0 then (i+((its.toArray.size:Nat):Int)).toNat else min i.toNat its.toArray.size)=_
   rw [if_neg (by lia),Nat.min_eq_left (by rw [List.size_toArray];lia)]
   apply Array.ext'
   simp
   exact List.take_of_length_le (by rw [List.length_drop];lia)
  ·simp
   have:sizeLine>=100001:=by decide
   lia
end
end L2
end
section
namespace L2
open PySem PySem.Spec PyProof.Rows
theorem cellsFrom_mem {n:Str} {c:Addr}:∀(names:List (Str×NameKind)) (k:Nat) (acc:List (Str×Addr)),(n,c)∈cellsFrom k names acc->(n,c)∈acc\/((n,NameKind.cell)∈names/\k<=c)
 | [],_,_,h=>.inl h
 | (m,kd)::r,k,acc,h=>by
  unfold cellsFrom at h
  by_cases hk:(kd == NameKind.cell)=true
  ·rw [if_pos hk] at h
   have ek:kd=.cell:=by simpa using hk
   rcases cellsFrom_mem r (k+1) _ h with q | ⟨q1,q2⟩
   ·rcases List.mem_cons.mp q with e | q
    ·cases e;exact .inr ⟨by rw [ek];exact List.mem_cons_self,Nat.le_refl _⟩
    ·exact .inl q
   ·exact .inr ⟨List.mem_cons_of_mem _ q1,by lia⟩
  ·rw [if_neg hk] at h
   rcases cellsFrom_mem r k _ h with q | ⟨q1,q2⟩
   ·exact .inl q
   ·exact .inr ⟨List.mem_cons_of_mem _ q1,q2⟩
theorem cellsFrom_other {y:Str}:∀(names:List (Str×NameKind)) (k:Nat) (acc:List (Str×Addr)),(y,NameKind.cell)∉names->(cellsFrom k names acc).lookup y=acc.lookup y
 | [],_,_,_=>rfl
 | (m,kd)::r,k,acc,h=>by
  unfold cellsFrom
  by_cases hk:(kd == NameKind.cell)=true
  ·have ek:kd=.cell:=by simpa using hk
   have hn:(y == m)=false:=by
    rw [beq_eq_false_iff_ne]
    rintro rfl
    exact h (by rw [ek];exact List.mem_cons_self)
   rw [if_pos hk,cellsFrom_other r _ _ (fun z=>h (List.mem_cons_of_mem _ z)),List.lookup_cons,hn]
  ·rw [if_neg hk];exact cellsFrom_other r k acc (fun z=>h (List.mem_cons_of_mem _ z))
theorem cellsFrom_own {y:Str}:∀(names:List (Str×NameKind)) (k:Nat) (acc:List (Str×Addr)),(y,NameKind.cell)∈names->∃c,(cellsFrom k names acc).lookup y=some c/\k<=c
 | (m,kd)::r,k,acc,h=>by
  unfold cellsFrom
  by_cases hr:(y,NameKind.cell)∈r
  ·split
   ·obtain ⟨c,e,hc⟩:=cellsFrom_own r (k+1) ((m,k)::acc) hr
    exact ⟨c,e,by lia⟩
   ·exact cellsFrom_own r k acc hr
  ·rcases List.mem_cons.mp h with e | h
   ·cases e
    rw [if_pos (by rfl),cellsFrom_other r _ _ hr,List.lookup_cons,beq_self_eq_true]
    exact ⟨k,rfl,Nat.le_refl _⟩
   ·exact absurd h hr
def InjC (cs:List (Str×Addr)):Prop:=∀n n' c,(n,c)∈cs->(n',c)∈cs->n=n'
theorem cellsFrom_inj:∀(names:List (Str×NameKind)) (k:Nat) (acc:List (Str×Addr)),InjC acc->(∀p∈acc,p.2 < k)->InjC (cellsFrom k names acc)
 | [],_,_,h,_=>h
 | (m,kd)::r,k,acc,h,hl=>by
  unfold cellsFrom
  split
  ·refine cellsFrom_inj r (k+1) _ (fun n n' c h1 h2=>?_) (fun p hp=>?_)
   ·rcases List.mem_cons.mp h1 with e | h1 <;> rcases List.mem_cons.mp h2 with e' | h2
    ·cases e;cases e';rfl
    ·cases e;exact absurd (hl _ h2) (Nat.lt_irrefl _)
    ·cases e';exact absurd (hl _ h1) (Nat.lt_irrefl _)
    ·exact h n n' c h1 h2
   ·rcases List.mem_cons.mp hp with e | hp
    ·rw [e];exact Nat.lt_succ_self _
    ·exact Nat.lt_succ_of_lt (hl p hp)
  ·exact cellsFrom_inj r k acc h hl
theorem cellsFrom_cell:∀(names:List (Str×NameKind)) (h:Heap) (acc:List (Str×Addr)),(∀p∈acc,∃v,h.IsCell p.2 v)->∀p∈cellsFrom h.objs.size names acc,∃v,(pushCells h names).IsCell p.2 v
 | [],_,_,h=>h
 | (m,kd)::r,hp,acc,h=>by
  unfold cellsFrom pushCells
  split
  ·have:=cellsFrom_cell r (hp.push { cls:=.type "cell",data:=.cell none }) ((m,hp.objs.size)::acc) (fun p q=>by
    rcases List.mem_cons.mp q with e | q
    ·rw [e];exact ⟨none,_,Heap.get?_push_size _ rfl,rfl⟩
    ·obtain ⟨v,z⟩:=h p q
     exact ⟨v,z.keeps fun b o e=>Heap.get?_push_of_some _ e⟩)
   rwa [Heap.size_push] at this
  ·exact cellsFrom_cell r hp acc h
theorem newFunctionEnv_own {M:Model} {A:Around} {E:Value->Shared->Prop} {s:Shared} {scope:Scope} {globals:Addr} {closure:List (Str×Addr)} {qual:Str} {func:Option Addr} {code:Value} {outer:Env} {builtins:Addr} {Q:Env->Shared->Prop}
  (hQ:Q (newEnv scope s.heap.objs.size globals (cellsFrom (s.heap.objs.size+1) scope.names closure) qual func code (some outer) builtins) { s with heap:=pushCells (s.heap.push { cls:=.type "dict",data:=.dict #[] }) scope.names }) :
  wpAny M A (newFunctionEnv scope globals closure [] qual func code (some outer) builtins) Q E s:=by
 simp only [newFunctionEnv,Option.isSome_some,if_true]
 refine wpAny_bind (wpAny_alloc ?_)
 refine wpAny_bind (wpAny_layCells _ (fun name kind cells=>by cases hkc:kind == NameKind.cell <;> simp [hkc]) _ _ _ _ ?_)
 rw [show ({ s with heap:=s.heap.push { cls:=.type "dict",data:=.dict #[] } }:Shared).heap.objs.size=s.heap.objs.size+1 from Heap.size_push ..]
 rw [List.forIn_nil]
 exact wpAny_bind (wpAny_pure (wpAny_pure hQ))
theorem relabel_any {env : Env} {y : Str} : ∀ {names : List (Str × NameKind)},
    ((names.map fun (n, k) => if (k == NameKind.free && env.scope.kind == .function && env.kindOf n == some .cell) then (n, NameKind.cell) else (n, k)).lookup y = some .cell ∨
     (names.map fun (n, k) => if (k == NameKind.free && env.scope.kind == .function && env.kindOf n == some .cell) then (n, NameKind.cell) else (n, k)).lookup y = some .free) → names.lookup y = some .free ∨ names.lookup y = some .cell
  | [], h => by rcases h with h | h <;> cases h
  | (n, k) :: r, h => by
    have ih := @relabel_any env y r
    rw [List.map_cons] at h
    rw [List.lookup_cons]
    by_cases e : y = n
    · subst e
      rw [beq_self_eq_true]
      by_cases hb : (k == NameKind.free && env.scope.kind == .function && env.kindOf y == some .cell) = true
      · have hk : k = .free := by
          rw [Bool.and_eq_true, Bool.and_eq_true] at hb
          simpa using hb.1.1
        rw [hk]; exact .inl rfl
      · dsimp only at h
        rw [if_neg hb, List.lookup_cons, beq_self_eq_true] at h
        dsimp only at h
        exact h.symm
    · have hn : (y == n) = false := by simpa using e
      rw [hn]
      dsimp only at h ⊢
      apply ih
      by_cases hb : (k == NameKind.free && env.scope.kind == .function && env.kindOf n == some .cell) = true
      · rw [if_pos hb, List.lookup_cons, hn] at h
        exact h
      · rw [if_neg hb, List.lookup_cons, hn] at h
        exact h
theorem relabel_notlocal {env:Env} {y:Str}:∀{names:List (Str×NameKind)},names.lookup y=some .free->(names.map fun (n,k)=>if (k == NameKind.free && env.scope.kind == .function && env.kindOf n == some .cell) then (n,NameKind.cell) else (n,k)).lookup y≠some .local
 | [],h=>by cases h
 | (n,k)::r,h=>by
  rw [List.map_cons]
  by_cases e:y=n
  ·subst e
   rw [List.lookup_cons,beq_self_eq_true] at h
   cases h
   dsimp only
   split
   ·rw [List.lookup_cons,beq_self_eq_true];exact fun q=>nomatch q
   ·rw [List.lookup_cons,beq_self_eq_true];exact fun q=>nomatch q
  ·have hn:(y == n)=false:=by simpa using e
   rw [List.lookup_cons,hn] at h
   dsimp only
   split
   ·rw [List.lookup_cons,hn];exact relabel_notlocal h
   ·rw [List.lookup_cons,hn];exact relabel_notlocal h
@[reducible] def cxD (X:Cx) (scope:Scope) (cs N:List Str) (c:CB):Cx:=
 { prog:=X.prog,w:=X.w,K:=X.K,mg:=X.mg,base:=X.base,A:=X.A,N:=N,s₀:=c.s2,H₀:=c.H2,env:=compEnvC scope c.cl c.C X.env,outer:=X.stack,stack:=X.stack,ex:=c.ex,fn:=fun x=>cs.contains x,calm:=X.calm,pn:=[],xe:=fun _ _=>False }
structure CScopeD (X:Cx) (scope:Scope) (cs xs:List Str) (idx:List Nat):Prop where
 kind:scope.kind=.function
 loc:∀y∈scope.names,y.2=.local->scope.names.lookup y.1=some .local
 own:∀y∈scope.names,y.2=.cell->scope.names.lookup y.1=some .cell
 fn:∀x,cs.contains x=true->(x,NameKind.cell)∈scope.names
 free:∀y∈scope.names,y.2=.free->scope.names.lookup y.1=some .free/\(X.env.kindOf y.1=some .cell\/X.env.kindOf y.1=some .free)
 ix:∀i∈idx,∃y,X.N[i]? = some y/\scope.names.lookup y=some .free
section
variable {X:Cx} {pins:List (Addr×Obj)} {σ:St} {H:Hp} {s:Shared}
theorem Inv.blockD {scope:Scope} {cs xs:List Str} {idx:List Nat} {fp:List Addr} {C k:Addr} {h':Heap} {t':Nat} {D:Addr} {m0:Str->Option Value} {cl:List (Str×Addr)} (I:Inv X pins σ H s) (S:CScopeD X scope cs xs idx)
  (hfp:∀b∈fp,FpOk X pins H b) (hfo:∀b∈fp,∃o,s.heap.get? b=some o) (hC:s.heap.objs.size<=C) (hDC:D≠C) (hD:s.heap.objs.size<=D) (hn:h'.Ns C m0) (hk:∀b o,s.heap.get? b=some o->h'.get? b=some o)
  (hl:∃n,h'.get? D=some { cls:=.type "list",data:=.seq #[] n }) (hcl:cl=cellsFrom k scope.names (closL X.env scope.names [])) (hks:s.heap.objs.size<=k) (hDk:D < k) (hcells:∀p∈cl,∃v,h'.IsCell p.2 v) :
  Inv (cxD X scope cs (xs++subN X.N idx) ⟨C,cl,s,H,fp⟩) [] (List.replicate xs.length none++subS σ idx) (upd H D (.lst [])) { s with heap:=h',toks:=t' }:=by
 have hfree:∀y∈scope.names,y.2=.free->∃c,X.env.cells.lookup y.1=some c:=fun y hy e=>I.ok.has y.1 (S.free y hy e).2
 have hall:=closL_mem (env:=X.env) scope.names [] hfree (fun p hp=>(nomatch hp))
 have lt:∀b,(∃o,s.heap.get? b=some o)->b < s.heap.objs.size:=fun b ⟨o,e⟩=>Heap.lt_size e
 have cellLt:∀x c,X.env.cells.lookup x=some c->c < s.heap.objs.size:=fun x c e=>let ⟨_,q⟩:=I.cell x c e;q.lt
 have hor:∀y c,cl.lookup y=some c->X.env.cells.lookup y=some c\/k<=c:=fun y c e=>by
  rw [hcl] at e
  rcases cellsFrom_mem _ _ _ (PySem.mem_of_lookup e) with q | q
  ·exact .inl (hall (y,c) q)
  ·exact .inr q.2
 have hhas:∀y,scope.names.lookup y=some .free->cl.lookup y=X.env.cells.lookup y:=fun y e=>by
  rw [hcl,cellsFrom_other]
  ·exact lookup_of_all (f:=fun n=>X.env.cells.lookup n) hall (closL_has scope.names [] (PySem.mem_of_lookup e))
  ·intro z
   have:=S.own _ z rfl
   rw [e] at this;cases this
 have hinj:InjC cl:=by
  rw [hcl]
  exact cellsFrom_inj _ _ _ (fun n n' c h1 h2=>I.ok.inj n n' c (hall _ h1) (hall _ h2)) (fun p hp=>Nat.lt_of_lt_of_le (cellLt _ _ (hall p hp)) hks)
 have hDn:H D=none:=I.hok.fresh hD
 refine ⟨⟨I.ok.mod,S.kind,I.ok.glob,I.ok.blt,hC,fun x y c h1 h2=>hinj x y c (PySem.mem_of_lookup h1) (PySem.mem_of_lookup h2),fun y hy=>?_,fun x c hf e=>?_,I.ok.hd,I.ok.frames,.inl rfl,fun b hb=>⟨?_,fun x c e=>?_⟩,I.bs,Nat.le_trans I.ok.bsz I.sz,fun b o e hb=>?_,fun b hb z=>?_,I.stack,I.stkFree⟩,
  rfl,I.bare,?_,⟨m0,hn,fun i y v e1 e2 hv=>?_⟩,fun x c e=>?_,?_,fun x c e=>?_,fun p hp=>(nomatch hp),?_,?_⟩
 ·
  rcases relabel_any hy with q | q
  ·have q2:=PySem.mem_of_lookup q
   obtain ⟨c,e⟩:=hfree _ q2 rfl
   exact ⟨c,(hhas y q).trans e⟩
  ·obtain ⟨c,e,_⟩:=cellsFrom_own (y:=y) scope.names k (closL X.env scope.names []) (PySem.mem_of_lookup q)
   exact ⟨c,by show cl.lookup y=some c;rw [hcl];exact e⟩
 ·
  obtain ⟨c',e',hc'⟩:=cellsFrom_own (y:=x) scope.names k (closL X.env scope.names []) (S.fn x hf)
  have e2:cl.lookup x=some c:=e
  rw [hcl,e'] at e2
  cases e2
  exact Nat.le_trans hks hc'
 ·
  exact Nat.ne_of_lt (Nat.lt_of_lt_of_le (lt b (hfo b hb)) hC)
 ·rcases hor x c e with q | q
  ·exact (hfp b hb).2.2.2.2.1 x c q
  ·exact Nat.ne_of_gt (Nat.lt_of_lt_of_le (lt b (hfo b hb)) (Nat.le_trans hks q))
 ·
  rcases (hfp b hb).2.2.2.1 with z | z
  ·exact I.ok.noex b o e z
  ·exact absurd (Nat.lt_of_lt_of_le (Heap.lt_size e) (Nat.le_trans I.ok.bsz z)) (Nat.lt_irrefl _)
 ·
  rcases List.mem_cons.mp (I.stkSub b z) with q | q
  ·exact (hfp b hb).2.1 q
  ·exact (hfp b hb).2.2.1 q
 ·
  exact Un.laid hk hD hDn
 ·
  by_cases hi:i < xs.length
  ·rw [List.getElem?_append_left (by simpa using hi)] at e2
   rw [List.getElem?_replicate] at e2
   split at e2 <;> cases e2
  ·have hi':xs.length<=i:=Nat.le_of_not_lt hi
   rw [List.getElem?_append_right (by simpa using hi'),List.length_replicate] at e2
   obtain ⟨i0,ei,es⟩:=subS_get e2
   obtain ⟨y',ey,ef⟩:=S.ix i0 (List.mem_of_getElem? ei)
   have e1':(xs++subN X.N idx)[i]? = some y:=e1
   rw [List.getElem?_append_right hi',subN_get ei ey] at e1'
   cases e1'
   obtain ⟨m,hm,hl'⟩:=I.loc
   have ef2:=S.free (y,.free) (PySem.mem_of_lookup ef) rfl
   have vis:Vis X.env.scope y:=.inr ef2.2
   obtain ⟨u,ru,lk⟩:=hl' i0 y v ey es vis
   refine ⟨u,ru,?_⟩
   rcases lk with ⟨k1,_⟩ | ⟨_,c,ec,hc⟩
   ·rcases ef2.2 with z | z
    ·have z':X.env.kindOf y=some .cell:=z
     rw [k1] at z';cases z'
    ·have z':X.env.kindOf y=some .free:=z
     rw [k1] at z';cases z'
   ·refine .inr ⟨?_,c,(hhas y ef).trans ec,hc.keeps hk⟩
    rcases hv with z | z | z
    ·exact absurd (show (relabel scope X.env).names.lookup y=some .local from z) (relabel_notlocal ef)
    ·exact .inl z
    ·exact .inr z
 ·
  exact hcells (x,c) (PySem.mem_of_lookup e)
 ·
  show upd H D (.lst []) C=none
  rw [upd_ne (Ne.symm hDC)]
  exact I.hok.fresh hC
 ·
  rcases hor x c e with q | q
  ·rw [upd_ne (Nat.ne_of_lt (Nat.lt_of_lt_of_le (cellLt x c q) hD))]
   exact I.freeC x c q
  ·rw [upd_ne (Nat.ne_of_gt (Nat.lt_of_lt_of_le hDk q))]
   exact I.hok.fresh (Nat.le_trans hks q)
 ·
  obtain ⟨n,e⟩:=hl
  exact I.hok.laid hk hD ⟨Nat.zero_le _,[],n,.nil,e⟩
 ·show (List.replicate xs.length none++subS σ idx).length=(xs++subN X.N idx).length
  rw [List.length_append,List.length_append,List.length_replicate]
  unfold subS subN
  rw [List.length_map,List.length_map]
end
section
variable {X:Cx} {elt target iter:Expr} {ifs:List Expr} {scope:Scope} {pos:Pos} {cs xs:List Str} {idx:List Nat} {wi:TI} {g:CB->TG} {tt:CB->TT} {te:CB->TE}
theorem comp_runD {pins:List (Addr×Obj)} {σ:St} {H2:Hp} {s2:Shared} {fp:List Addr} {it:Addr} {tn:Nat->Heap->Prop} {J:It} {Q:V->Hp->Prop} {RR:Value->Addr->Result->Shared->Prop} {E:Value->Shared->Prop} (hc:X.calm=true) (S:CScopeD X scope cs xs idx)
  (hg:∀c,PG (cxD X scope cs (xs++subN X.N idx) c) target (g c)) (ht:∀c,PIfs (cxD X scope cs (xs++subN X.N idx) c) ifs (tt c)) (he:∀c,PE (cxD X scope cs (xs++subN X.N idx) c) elt (te c))
  (I2:Inv X pins σ H2 s2) (T:Turn X.prog X.w X.K target J fp it tn) (st2:tn 0 s2.heap) (f2:∀b∈fp,FpOk X pins H2 b)
  (h:∀D,H2 D=none->∃W:Nat->Nat->List V->Hp->Prop,(∃m,W 0 m [] (upd H2 D (.lst [])))/\
   ∀i m ys H',W i m ys H'->(J.stop i H'/\Q (.ref D) H')\/(J.go i H'/\∃N:List V->Hp->Prop,(∀ys' H'',N ys' H''->∃m',m' < m/\W (i+1) m' ys' H'')/\∀(c:CB) (own:St),own.length=xs.length->∀x H2,J.yld i H' x H2->g c x (own++subS σ idx) H2 fun σ3 H3=>
    (∃own',own'.length=xs.length/\σ3=own'++subS σ idx)/\tt c σ3 H3 fun b H4=>if b=true then te c σ3 H4 fun y H5=>H5 D=some (.lst ys)/\ys.length < sizeLine/\N (ys++[y]) (upd H5 D (.lst (ys++[y]))) else N ys H4))
  (hRR:∀D C cl σ' H' s',s2.heap.objs.size<=C->Inv (cxD X scope cs (xs++subN X.N idx) ⟨C,cl,s2,H2,fp⟩) [] σ' H' s'->Q (.ref D) H'->RR (.ref D) C (.ok .next) s') :
  wpAny (model X.prog X.w) X.A (newList []) (fun acc s₃=>wpAny (model X.prog X.w) X.A (newFunctionEnv scope X.env.globals (closL X.env scope.names []) [] X.env.qual none .none (some X.env)) (fun cenv s₄=>
   codeAny (model X.prog X.w) X.A (.compStart (.ListComp elt [⟨target,iter,ifs,0⟩] scope pos) 0 (.ref it) acc { cenv with scope:=relabel scope X.env }) (RR acc cenv.locals) s₄) E s₃) E s2:=by
 refine wpAny_newObj_type (newFunctionEnv_own ?_)
 dsimp only
 generalize hH2:s2.heap.push { cls:=.type "list",dict:=none,data:=.seq ([]:List Value).toArray }=HH
 have hCs:HH.objs.size=s2.heap.objs.size+1:=by rw [<-hH2,Heap.size_push]
 have hDC:s2.heap.objs.size≠HH.objs.size:=by rw [hCs];exact Nat.ne_of_lt (Nat.lt_succ_self _)
 have hCle:s2.heap.objs.size<=HH.objs.size:=by rw [hCs];exact Nat.le_succ _
 generalize hcl:cellsFrom (HH.objs.size+1) scope.names (closL X.env scope.names [])=cl
 generalize hh1:pushCells (HH.push { cls:=.type "dict",data:=.dict #[] }) scope.names=h₁
 have up:∀b o,HH.get? b=some o->h₁.get? b=some o:=fun b o e=>by rw [<-hh1];exact pushCells_keeps _ _ _ _ (Heap.get?_push_of_some _ e)
 have old:∀b o,s2.heap.get? b=some o->h₁.get? b=some o:=fun b o e=>up b o (hH2 ▸ Heap.get?_push_of_some _ e)
 have hns₁:h₁.Ns HH.objs.size (fun _=>none):=by rw [<-hh1];exact (Heap.Ns.new HH (.type "dict")).keeps (pushCells_keeps scope.names _)
 have hacc:∃n,h₁.get? s2.heap.objs.size=some { cls:=.type "list",data:=.seq #[] n }:=⟨_,up _ _ (hH2 ▸ Heap.get?_push_size _ rfl)⟩
 have hall:=closL_mem (env:=X.env) scope.names [] (fun y hy e=>I2.ok.has y.1 (S.free y hy e).2) (fun p hp=>nomatch hp)
 have hcells:∀p∈cl,∃v,h₁.IsCell p.2 v:=by
  rw [<-hcl,<-hh1]
  have:=cellsFrom_cell scope.names (HH.push { cls:=.type "dict",data:=.dict #[] }) (closL X.env scope.names []) (fun p hp=>by
   obtain ⟨v,q⟩:=I2.cell p.1 p.2 (hall p hp)
   exact ⟨v,q.keeps fun b o e=>Heap.get?_push_of_some _ (hH2 ▸ Heap.get?_push_of_some _ e)⟩)
  rwa [Heap.size_push] at this
 have st1:tn 0 h₁:=T.keep _ _ _ st2 fun b _ o e=>old b o e
 obtain ⟨W,⟨m0,w0⟩,turn⟩:=h s2.heap.objs.size I2.fresh
 have loop:∀s₃:Shared,s₃={ s2 with heap:=h₁ }->
   codeAny (model X.prog X.w) X.A (.compLoop (.ListComp elt [⟨target,iter,ifs,0⟩] scope pos) 0 (.ref it) (.ref s2.heap.objs.size) (compEnvC scope cl HH.objs.size X.env)) (RR (.ref s2.heap.objs.size) HH.objs.size) s₃:=by
  rintro s₃ rfl
  have I3:=I2.blockD (t':=s2.toks) (cs:=cs) (xs:=xs) (k:=HH.objs.size+1) S f2 (fun b hb=>let ⟨o,e,_⟩:=T.obj _ _ st2 b hb;⟨o,e⟩) hCle hDC (Nat.le_refl _) hns₁ old hacc hcl.symm (Nat.le_succ_of_le hCle) (Nat.lt_succ_of_le hCle) hcells
  generalize hY:cxD X scope cs (xs++subN X.N idx) ⟨HH.objs.size,cl,s2,H2,fp⟩=Y at I3
  have eY:Y=cxD X scope cs (xs++subN X.N idx) ⟨HH.objs.size,cl,s2,H2,fp⟩:=hY.symm
  have nof:∀b∈fp,b∉Y.fs:=fun b hb z=>by
   rw [eY] at z
   rcases List.mem_cons.mp (I2.stkSub b z) with q | q
   ·exact (f2 b hb).2.1 q
   ·exact (f2 b hb).2.2.1 q
  have stat:∀{H':Hp},(∀b∈fp,H' b=none)->∀b∈fp,FpOk Y [] H' b:=fun {H'} hn b hb=>by
   have lt:b < s2.heap.objs.size:=let ⟨o,e,_⟩:=T.obj _ _ st2 b hb;Heap.lt_size e
   refine ⟨hn b hb,?_,nof b hb,.inl (by rw [eY];exact hb),fun x c e=>?_,fun p hp=>?_⟩
   ·rw [eY];exact Nat.ne_of_lt (Nat.lt_of_lt_of_le lt hCle)
   ·rw [eY] at e
    have e':cl.lookup x=some c:=e
    rw [<-hcl] at e'
    rcases cellsFrom_mem _ _ _ (PySem.mem_of_lookup e') with q | q
    ·exact (f2 b hb).2.2.2.2.1 x c (hall (x,c) q)
    ·exact Nat.ne_of_gt (Nat.lt_of_lt_of_le lt (Nat.le_trans (Nat.le_succ_of_le hCle) q.2))
   ·rw [eY] at hp;exact nomatch hp
  have T':Turn Y.prog Y.w Y.K target J fp it tn:=by rw [eY];exact T
  have hg':PG Y target (g ⟨HH.objs.size,cl,s2,H2,fp⟩):=by rw [eY];exact hg _
  have ht':PIfs Y ifs (tt ⟨HH.objs.size,cl,s2,H2,fp⟩):=by rw [eY];exact ht _
  have he':PE Y elt (te ⟨HH.objs.size,cl,s2,H2,fp⟩):=by rw [eY];exact he _
  have hcY:Y.calm=true:=by rw [eY];exact hc
  have eA:Y.A=X.A:=by rw [eY]
  have eP:Y.prog=X.prog:=by rw [eY]
  have eW:Y.w=X.w:=by rw [eY]
  have eE:Y.env=compEnvC scope cl HH.objs.size X.env:=by rw [eY]
  have eX:Y.xe=fun _ _=>False:=by rw [eY]
  have fin:∀σ' H' s',Inv Y [] σ' H' s'->Q (.ref s2.heap.objs.size) H'->RR (.ref s2.heap.objs.size) HH.objs.size (.ok .next) s':=fun σ' H' s' I' q=>hRR _ _ cl σ' H' s' hCle (by rw [<-eY];exact I') q
  rw [<-eE,<-eA,<-eP,<-eW]
  have fr0:∀b∈fp,(upd H2 s2.heap.objs.size (.lst [])) b=none:=fun b hb=>by
   have lt:b < s2.heap.objs.size:=let ⟨o,e,_⟩:=T.obj _ _ st2 b hb;Heap.lt_size e
   rw [upd_ne (Nat.ne_of_lt lt)];exact (f2 b hb).1
  refine codeAny_compLoop_any (fun n s'=>∃i ys own H',own.length=xs.length/\Inv Y [] (own++subS σ idx) H' s'/\tn i s'.heap/\(∀b∈fp,H' b=none)/\W i n ys H') ?_ m0
   ⟨0,[],_,_,List.length_replicate,I3,st1,fr0,w0⟩
  rintro n s4 ⟨i,ys,own,H4,hown,I4,st4,fr4,w4⟩
  rcases turn i n ys H4 w4 with ⟨stop,qn⟩ | ⟨go,NN,hNN,step⟩
  ·exact thn (T'.done Y rfl rfl rfl hcY i [] s4 _ H4 _ I4 (stat fr4) st4 stop) fun r s5 ⟨hr,I5⟩=>by subst hr;exact fin _ _ _ I5 qn
  ·refine thn (T'.item Y rfl rfl rfl hcY i [] s4 _ H4 _ I4 (stat fr4) st4 go) fun r s5 ⟨u,hr,h5⟩=>?_
   subst hr
   refine thn h5 fun _ s6 ⟨x,H6,I6,r6,y6,st6,fr6⟩=>?_
   have I6':=I6.pinned (stat fr6) (T'.obj _ _ st6)
   have step':=step ⟨HH.objs.size,cl,s2,H2,fp⟩ own hown x H6 y6
   refine wpAny_mono (hg' _ s6 _ H6 x u _ I6' r6 step') (fun _ s7 ⟨σ7,H7,I7,q7⟩=>?_) (fun _ _ z=>by rw [eX] at z;exact z)
   obtain ⟨⟨own7,ho7,e7⟩,q7⟩:=q7
   refine wpAny_mono (ht' _ s7 σ7 H7 _ I7 q7) (fun b s8 ⟨H8,I8,q8⟩=>?_) (fun _ _ z=>by rw [eX] at z;exact z)
   have again:∀{H9:Hp} {s9:Shared} {ys':List V},Inv Y ([]++pinsAt fp s6.heap) σ7 H9 s9->NN ys' H9->∃m,m < n/\∃i ys own H',own.length=xs.length/\Inv Y [] (own++subS σ idx) H' s9/\tn i s9.heap/\(∀b∈fp,H' b=none)/\W i m ys H':=fun {H9 s9 ys'} I9 n9=>by
    obtain ⟨m',hm,w9⟩:=hNN _ _ n9
    rw [e7] at I9
    refine ⟨m',hm,i+1,ys',own7,H9,ho7,I9.unpinned,T'.keep _ _ _ st6 fun b hb o e=>(I9.pin (b,o) (List.mem_append_right _ (List.mem_append_right _ (mem_pinsAt hb e)))).1,fun b hb=>?_,w9⟩
    obtain ⟨o,e,d⟩:=T'.obj _ _ st6 b hb
    exact (I9.pin (b,o) (List.mem_append_right _ (List.mem_append_right _ (mem_pinsAt hb e)))).2.1
   cases b with
   | false=>exact again I8 q8
   | true=>
    refine wpAny_mono (he' _ s8 σ7 H8 _ I8 q8) (fun u9 s9 ⟨y,H9,I9,r9,hy,hz,q9⟩=>?_) (fun _ _ z=>by rw [eX] at z;exact z)
    have ap:=mt_append (X:=Y) _ s9 σ7 H9 (.ref s2.heap.objs.size) [y] (.ref s2.heap.objs.size) [u9] (fun _ H10=>NN (ys++[y]) H10) I9 rfl (.cons r9 .nil) ⟨_,ys,y,rfl,rfl,hy,hz,q9⟩
    refine wpAny_mono ap (fun _ s10 ⟨_,H10,I10,_,q10⟩=>again I10 q10) (fun _ _ z=>by rw [eX] at z;exact z)
 exact codeAny_compStart_list (loop _ rfl) (T.self _ 0 _ _ _ st1 (loop _ rfl))
theorem pe_compD (hc:X.calm=true) (S:CScopeD X scope cs xs idx) (hi:PI X target iter wi)
  (hg:∀c,PG (cxD X scope cs (xs++subN X.N idx) c) target (g c)) (ht:∀c,PIfs (cxD X scope cs (xs++subN X.N idx) c) ifs (tt c)) (he:∀c,PE (cxD X scope cs (xs++subN X.N idx) c) elt (te c))
  (hs:∀x,foldedSetIterable iter X.env x=pure x:=by intro _;rfl):PE X (.ListComp elt [⟨target,iter,ifs,0⟩] scope pos) (tComp wi xs.length idx g tt te):=by
 intro pins s σ H Q I h
 rw [eval_ListComp]
 have hclos:closureFor scope X.env=pure (closL X.env scope.names []):=closureFor_closL fun y hy e=>I.ok.has y.1 (S.free y hy e).2
 refine wpAny_comprehension_free (use:=none) rfl hs hclos S.kind S.loc (thn (hi pins s σ H _ I h) fun xv s₁ h₁=>thn h₁ fun itv s₂ h₂=>?_)
 obtain ⟨it,fp,tn,J,H2,e,I2,T,st2,f2,hW⟩:=h₂
 subst e
 refine comp_runD (Q:=Q) (RR:=fun acc C=>compPost (model X.prog X.w) X.A X.xe none (EP X pins σ Q) acc C) hc S hg ht he I2 T st2 f2 hW ?_
 intro D C cl σ' H' s' hC I' q
 obtain ⟨m',hn,_⟩:=I'.loc
 refine ⟨m',hn,fun h'' hs''=>?_⟩
 obtain ⟨hh,gg,d,t,os⟩:=s'
 obtain rfl:os=s₂.os:=I'.os
 have Cn:s₂.heap.get? C=none:=Heap.get?_none_of_le hC
 refine ⟨.ref D,H',I2.call (s:=s₂) (h':=h'') (g':=gg) (d':=d) (t':=t) (ch:=fp) (I'.base.but Cn hs'') (I'.hok.but I'.free hs'') I'.bare (fun b hb=>?_),rfl,q⟩
 obtain ⟨_,f1,_,f3,f4,f5⟩:=f2 b hb
 exact ⟨f3,f1,f4,f5⟩
end
def csOkD (osc:Scope) (N:List Str) (scope:Scope) (cs:List Str) (idx:List Nat):Bool:=
 scope.kind == .function && scope.names.all (fun y=>y.2 != .cell || scope.names.lookup y.1 == some .cell) && scope.names.all (fun y=>y.2 != .local || scope.names.lookup y.1 == some .local) &&
 scope.names.all (fun y=>y.2 != .free || (scope.names.lookup y.1 == some .free && (osc.names.lookup y.1 == some .cell || osc.names.lookup y.1 == some .free))) &&
 idx.all (fun i=>match N[i]? with | some y=>scope.names.lookup y == some .free | none=>false) && cs.all (fun x=>scope.names.lookup x == some .cell)
theorem cscopeD_of {X:Cx} {scope:Scope} {cs xs:List Str} {idx:List Nat} {osc:Scope} {N:List Str} (h:csOkD osc N scope cs idx=true) (e1:X.env.scope=osc) (e2:X.N=N):CScopeD X scope cs xs idx:=by
 unfold csOkD at h
 simp only [Bool.and_eq_true] at h
 obtain ⟨⟨⟨⟨⟨h1,h2⟩,h3⟩,h4⟩,h5⟩,h6⟩:=h
 refine ⟨by simpa using h1,fun y hy e=>?_,fun y hy e=>?_,fun x hx=>?_,fun y hy e=>?_,fun i hi=>?_⟩
 ·have:=List.all_eq_true.mp h3 y hy
  rw [e] at this;simpa using this
 ·have:=List.all_eq_true.mp h2 y hy
  rw [e] at this;simpa using this
 ·have:=List.all_eq_true.mp h6 x (List.contains_iff_mem.mp hx)
  exact PySem.mem_of_lookup (by simpa using this)
 ·have:=List.all_eq_true.mp h4 y hy
  rw [e] at this
  have t:(scope.names.lookup y.1 == some NameKind.free && (osc.names.lookup y.1 == some .cell || osc.names.lookup y.1 == some .free))=true:=by simpa using this
  rw [Bool.and_eq_true,Bool.or_eq_true] at t
  refine ⟨by simpa using t.1,?_⟩
  show X.env.scope.names.lookup y.1=_\/X.env.scope.names.lookup y.1=_
  rw [e1]
  exact t.2.imp (by simp) (by simp)
 ·have:=List.all_eq_true.mp h5 i hi
  rw [e2]
  cases e:N[i]? with
  | none=>rw [e] at this;cases this
  | some y=>rw [e] at this;exact ⟨y,rfl,by simpa using this⟩
theorem hc_blockD {X:Cx} {N:List Str} {osc scope:Scope} {cs xs:List Str} {idx:List Nat} (hc:HC X N osc) (c:CB):HC (cxD X scope cs (xs++subN X.N idx) c) (xs++subN N idx) (relabelS scope osc):=
 ⟨by show xs++subN X.N idx=_;rw [hc.n],relabelS_eq hc.s⟩
theorem pgd {X:Cx} {N:List Str} {sc scope:Scope} {cs:List Str} {x:Str} {pos:Pos} {M:List Str} {c:CB} (hc:HC (cxD X scope cs M c) N sc) (nd:N.Nodup) (i:Nat) (h:okL N sc i x=true) (hx:cs.contains x=true):PG (cxD X scope cs M c) (.Name x pos) (gName i):=
 pg_name (by rw [hc.n];exact nd) (okL_loc hc h).1 (okL_loc hc h).2 (.inl hx)
section
variable {X:Cx} {N:List Str} {osc:Scope} {elt target iter:Expr} {ifs:List Expr} {scope:Scope} {pos:Pos} {wi:TI} {g:CB->TG} {tt:CB->TT} {te:CB->TE}
theorem zpek_compD (hc:HC X N osc) (cs xs:List Str) (idx:List Nat) (hcalm:X.calm=true) (S:csOkD osc N scope cs idx=true) (hi:ZI X target iter wi)
  (hg:∀c,HC (cxD X scope cs (xs++subN X.N idx) c) (xs++subN N idx) (relabelS scope osc)->ZG (cxD X scope cs (xs++subN X.N idx) c) target (g c))
  (ht:∀c,HC (cxD X scope cs (xs++subN X.N idx) c) (xs++subN N idx) (relabelS scope osc)->ZIfs (cxD X scope cs (xs++subN X.N idx) c) ifs (tt c))
  (he:∀c,HC (cxD X scope cs (xs++subN X.N idx) c) (xs++subN N idx) (relabelS scope osc)->ZE (cxD X scope cs (xs++subN X.N idx) c) elt (te c))
  (hs:∀x,foldedSetIterable iter X.env x=pure x:=by intro _;rfl):ZE X (.ListComp elt [⟨target,iter,ifs,0⟩] scope pos) (tComp wi xs.length idx g tt te):=
 ⟨pe_compD hcalm (cscopeD_of S hc.s hc.n) hi.to (fun c=>(hg c (hc_blockD hc c)).to) (fun c=>(ht c (hc_blockD hc c)).to) (fun c=>(he c (hc_blockD hc c)).to) hs⟩
theorem zpgd {X:Cx} {N:List Str} {sc scope:Scope} {cs:List Str} {x:Str} {pos:Pos} {M:List Str} {c:CB} (hc:HC (cxD X scope cs M c) N sc) (nd:N.Nodup) (i:Nat) (h:okL N sc i x=true) (hx:cs.contains x=true):ZG (cxD X scope cs M c) (.Name x pos) (gName i):=⟨pgd hc nd i h hx⟩
end
end L2
end
section
namespace L2
open PySem PySem.Spec PyProof.Rows
section
variable {prog:Program} {w:World} {A:Around} {E:Value->Shared->Prop} {s:Shared}
end
section
variable {X:Cx}
end
end L2
end
section
namespace L2
open PySem PySem.Spec PyProof.Rows
def Up (xs:Array Nat):Prop:=xs.toList.Pairwise (· < ·)
end L2
end
section
namespace L2
open PySem PySem.Spec PyProof.Rows
def entI (p:Int×Tok):Int×Value:=(hashInt p.1,.int p.1 p.2)
structure SetI (w:World) (h:Heap) (a:Addr) (l:List (Int×Tok)):Prop where
 ex:∃es ep t,h.get? a=some (sObj es ep t)/\es.toList=l.map (entI)/\t.fits es.size=true/\t.led = !byT w/\Up t.place
 nd:(l.map (·.1)).Nodup
 sz:l.length < scanBound
section
variable {P:Program} {w:World} {A:Around} {E:Value->Shared->Prop} {s:Shared} {a:Addr} {l:List (Int×Tok)}
end
section
variable {P:Program} {w:World} {A:Around} {R:Result->Shared->Prop} {I:Addr} {fp wr:List Addr} {G:Array GenState->Array GenState->Prop} {n:Nat} {Pv:Nat->Value->Prop} {St:Nat->Shared->Prop}
end
section
variable {P:Program} {w:World} {A:Around} {E:Value->Shared->Prop} {s:Shared}
end
section
variable {P:Program} {w:World} {A:Around} {E:Value->Shared->Prop} {s:Shared} {a:Addr} {l:List (Int×Tok)}
end
section
variable {P:Program} {w:World} {A:Around} {E:Value->Shared->Prop} {s:Shared} {a:Addr} {es:Array (Int×Value)} {t:SetTable} {ep slot i:Nat}
end
section
variable {P:Program} {w:World} {A:Around} {E:Value->Shared->Prop} {s:Shared} {a:Addr} {l:List (Int×Tok)}
end
section
variable {P:Program} {w:World} {A:Around} {E:Value->Shared->Prop} {s:Shared} {a:Addr} {l:List (Int×Tok)}
end
def InS (w:World) (p:Addr) (ss:List Int):HO:=.ext fun h=>∃l,SetI w h p l/\∀z,z∈l.map (·.1)↔z∈ss
section
variable {X:Cx}
end
end L2
end
section
namespace L2
open PySem PySem.Spec PyProof.Rows
section
variable {X:Cx}
def qSetI (w:World):List V->Hp->VK->Prop:=fun vs H Q=>∃a,vs=[.ref a]/\∃ss:List Int,H a=some (.lst (ss.map V.int))/\ss.length < 4000/\∀p,H p=none->Q (.ref p) (upd H p (InS w p ss))
def qSortSetI (w:World):List V->Hp->VK->Prop:=fun vs H Q=>∃a,vs=[.ref a]/\∃ss:List Int,H a=some (InS w a ss)/\ss.length < 64/\
 ∀ss':List Int,(∀z,z∈ss'↔z∈ss)->ss'.Pairwise (· < ·)->∀p,H p=none->Q (.ref p) (upd H p (.lst (ss'.map V.int)))
end
end L2
end
section
namespace HT
open PySem PyProof.Rows L2
section
variable {prog:Program} {w:World} {A:Around} {E:Value->Shared->Prop} {s:Shared}
end
end HT
namespace L2
open PySem PySem.Spec PyProof.Rows
section
variable {X:Cx}
def qSlT2:V->Option Int->Option Int->Hp->VK->Prop:=fun x lo hi H Q=>∃a,x=.ref a/\∃xs,H a=some (.tup xs)/\
 ((HT.sIx xs.length 0 lo=0/\HT.sIx xs.length xs.length hi=xs.length)->Q (.ref a) H)/\(¬(HT.sIx xs.length 0 lo=0/\HT.sIx xs.length xs.length hi=xs.length)->∀p,H p=none->Q (.ref p) (upd H p (.tup (cutV xs lo hi))))
end
end L2
end
section
namespace L2
open PySem PySem.Spec PyProof.Rows
section
variable {X:Cx} {pins:List (Addr×Obj)} {s:Shared} {σ:St} {H:Hp}
def isAtS (bs:List Addr) (ts:List (List Int)) (x:List Int):Value->Bool
 | .ref p=>(bs.zip ts).any fun q=>decide (q.1=p) && decide (q.2=x)
 | _=>false
theorem isAtS_eq {bs:List Addr} {ts:List (List Int)} {x:List Int} (a:SetsAt H bs ts) {i:Nat} {p:Addr} {t:List Int} (h1:bs[i]? = some p) (h2:ts[i]? = some t):isAtS bs ts x (.ref p)=decide (t=x):=by
 unfold isAtS
 rw [Bool.eq_iff_iff,List.any_eq_true,decide_eq_true_iff]
 constructor
 ·rintro ⟨⟨p',t'⟩,hm,e⟩
  simp only [Bool.and_eq_true,decide_eq_true_eq] at e
  obtain ⟨rfl,rfl⟩:=e
  obtain ⟨j,hj,ej⟩:=List.mem_iff_getElem.mp hm
  rw [List.length_zip] at hj
  rw [List.getElem_zip] at ej
  injection ej with e1 e2
  have g1:=a.2 j _ _ (List.getElem?_eq_getElem (by omega)) (List.getElem?_eq_getElem (by omega))
  rw [e1,e2] at g1
  have g2:=a.2 i _ _ h1 h2
  rw [g1] at g2
  injection g2 with g2
  injection g2 with g2
  exact (ints_inj g2).symm
 ·rintro rfl
  refine ⟨(p,t),?_,by simp⟩
  have i1:=List.getElem?_eq_some_iff.mp h1
  have i2:=List.getElem?_eq_some_iff.mp h2
  refine List.mem_iff_getElem.mpr ⟨i,by rw [List.length_zip];have:=i1.1;have:=i2.1;omega,?_⟩
  rw [List.getElem_zip,i1.2,i2.2]
theorem any_isAtS {bs:List Addr} {ts:List (List Int)} {x:List Int} (a:SetsAt H bs ts) {us:List Value} (r:Vals (List.map V.ref bs) us):us.any (isAtS bs ts x)=decide (x∈ts):=by
 have l:=r.length
 rw [List.length_map] at l
 have lt:=a.1
 have at_:∀i (hi:i < us.length),isAtS bs ts x us[i]=decide (ts[i]'(by omega)=x):=fun i hi=>by
  have e1:bs[i]? = some (bs[i]'(by omega)):=List.getElem?_eq_getElem (by omega)
  have v:us[i]=.ref (bs[i]'(by omega)):=by
   have:=vals_at (x:=.ref (bs[i]'(by omega))) r (j:=i) (by simpa using hi) (by rw [List.getElem?_map,e1];rfl)
   simpa [RelV] using this
  rw [v]
  exact isAtS_eq a e1 (List.getElem?_eq_getElem (by omega))
 rw [Bool.eq_iff_iff,List.any_eq_true,decide_eq_true_iff]
 constructor
 ·rintro ⟨u,hu,e⟩
  obtain ⟨i,hi,rfl⟩:=List.mem_iff_getElem.mp hu
  rw [at_ i hi,decide_eq_true_iff] at e
  rw [<-e];exact List.getElem_mem _
 ·intro h
  obtain ⟨i,hi,rfl⟩:=List.mem_iff_getElem.mp h
  exact ⟨us[i]'(by omega),List.getElem_mem _,by rw [at_ i (by omega),decide_eq_true_iff]⟩
def qInS (neg:Bool):R2:=fun x y H Q=>∃a L,x=.ref a/\y=.ref L/\∃u bs ts,H a=some (.tup (List.map V.int u))/\H L=some (.lst (List.map V.ref bs))/\SetsAt H bs ts/\Q (.bl (if neg then !decide (u∈ts) else decide (u∈ts))) H
theorem mem_eqS {A:Around} {a:Addr} {u:List Int} {bs:List Addr} {ts:List (List Int)} (I:Inv X pins σ H s) (ha:H a=some (.tup (List.map V.int u))) (sa:SetsAt H bs ts) (hu:A.units < cLine) {us:List Value} (r:Vals (List.map V.ref bs) us):∀z∈us,SeqAt.EqAt A s z (.ref a) (isAtS bs ts u z):=fun z hz=>by
 obtain ⟨i,hi,rfl⟩:=List.mem_iff_getElem.mp hz
 have l:=r.length
 rw [List.length_map] at l
 have lt:=sa.1
 have e1:bs[i]? = some (bs[i]'(by omega)):=List.getElem?_eq_getElem (by omega)
 have e2:ts[i]? = some (ts[i]'(by omega)):=List.getElem?_eq_getElem (by omega)
 have v:us[i]=.ref (bs[i]'(by omega)):=by
  have:=vals_at (x:=.ref (bs[i]'(by omega))) r (j:=i) (by simpa using hi) (by rw [List.getElem?_map,e1];rfl)
  simpa [RelV] using this
 rw [v,isAtS_eq sa e1 e2]
 exact eq_set I (sa.2 i _ _ e1 e2) ha hu
theorem op_inS (hu:X.A.units+1 < cLine):OpR X (compareOp .In) (qInS false):=by
 intro pins s σ H x y v u Q I rx ry h
 obtain ⟨a,L,rfl,rfl,w,bs,ts,ha,hL,sa,q⟩:=h
 cases rx;cases ry
 obtain ⟨its,r,pl,hz⟩:=I.list (sqL_of hL)
 refine SeqAt.in_listAt (isAtS bs ts w) pl.isList (fun z hz=>mem_eqS I ha sa (by first | (rw [Around.in1_units];omega) | omega) r z (by simpa using hz)) ⟨.bl _,H,I,rfl,?_⟩
 rw [show its.toArray.any (isAtS bs ts w)=its.any (isAtS bs ts w) by simp,any_isAtS sa r]
 exact q
end
end L2
end
section
namespace L2
open PySem PySem.Spec PyProof.Rows
def RepL {δ:Type} (Rep:Hp->V->δ->Prop) (H:Hp) (vs:List V) (ds:List δ):Prop:=vs.length=ds.length/\∀(i:Nat) v d,vs[i]? = some v->ds[i]? = some d->Rep H v d
theorem RepL.nil {δ:Type} {Rep:Hp->V->δ->Prop} {H:Hp}:RepL Rep H [] []:=⟨rfl,fun i v d h=>by simp at h⟩
theorem RepL.snoc {δ:Type} {Rep:Hp->V->δ->Prop} {H:Hp} {vs:List V} {ds:List δ} {v:V} {d:δ} (h:RepL Rep H vs ds) (hv:Rep H v d):RepL Rep H (vs++[v]) (ds++[d]):=by
 refine ⟨by rw [List.length_append,List.length_append,h.1];rfl,fun i u e hu he=>?_⟩
 have hl:=h.1
 by_cases hi:i < vs.length
 ·rw [List.getElem?_append_left hi] at hu
  rw [List.getElem?_append_left (by lia)] at he
  exact h.2 i u e hu he
 ·rw [List.getElem?_append_right (by lia)] at hu
  rw [List.getElem?_append_right (by lia),<-hl] at he
  have h0:i - vs.length=0:=by
   cases z:i - vs.length with
   | zero=>rfl
   | succ n=>rw [z] at hu;simp at hu
  rw [h0] at hu he
  cases hu;cases he
  exact hv
theorem RepL.mono {δ:Type} {Rep:Hp->V->δ->Prop} {H H':Hp} {vs:List V} {ds:List δ} (k:∀v d,Rep H v d->Rep H' v d) (h:RepL Rep H vs ds):RepL Rep H' vs ds:=⟨h.1,fun i v d a b=>k v d (h.2 i v d a b)⟩
def RSet (H:Hp) (v:V) (x:List Int):Prop:=∃b,v=.ref b/\H b=some (.tup (List.map V.int x))
theorem sets_of {H:Hp} {vs:List V} {ts:List (List Int)} (h:RepL RSet H vs ts):∃bs,vs=List.map V.ref bs/\SetsAt H bs ts:=by
 induction vs generalizing ts with
 | nil=>
  have:ts=[]:=List.length_eq_zero_iff.mp h.1.symm
  subst this
  exact ⟨[],rfl,rfl,fun i b t e=>by simp at e⟩
 | cons v vs ih=>
  cases ts with
  | nil=>exact absurd h.1 (by simp)
  | cons t ts=>
   obtain ⟨bs,e1,s1⟩:=ih (ts:=ts) ⟨by have:=h.1;simpa using this,fun i v d a b=>h.2 (i+1) v d (by simpa using a) (by simpa using b)⟩
   obtain ⟨b,rfl,hb⟩:=h.2 0 v t rfl rfl
   refine ⟨b::bs,by rw [e1];rfl,by rw [List.length_cons,List.length_cons,s1.1],fun i c u hc hu=>?_⟩
   cases i with
   | zero=>cases hc;cases hu;exact hb
   | succ n=>exact s1.2 n c u (by simpa using hc) (by simpa using hu)
theorem take_fm {δ:Type} (f:Nat->Option δ) (i:Nat):(List.range (i+1)).filterMap f=(List.range i).filterMap f++(f i).toList:=by
 rw [List.range_succ,List.filterMap_append]
 cases e:f i <;> simp [e]
theorem fm_len {δ:Type} (f:Nat->Option δ) (i:Nat):((List.range i).filterMap f).length<=i:=Nat.le_trans (List.length_filterMap_le _ _) (by rw [List.length_range];exact Nat.le_refl _)
theorem compG_list {K:PySem.W.Frag} {a:Addr} {zs:List V} {idx:List Nat} {tt:CB->TT} {te:CB->TE} {σ:St} {Q:VK} {H1:Hp} {δ:Type} (S:Hp->Hp->Prop) (f:Nat->Option δ) (Rep:Addr->Hp->V->δ->Prop) (sr:S H1 H1) (st:∀H H',S H1 H->S H H'->S H1 H')
  (sp:∀D H o,H1 D=none->S H1 H->S H1 (upd H D o)) (sk:∀D H H' o,H1 D=none->S H1 H->S H H'->H D=some o->H' D=some o)
  (mono:∀D H H' v d,S H1 H->S H H'->Rep D H v d->Rep D H' v d) (mput:∀D H o v d,H1 D=none->S H1 H->(∃xs,H D=some (.lst xs))->Rep D H v d->Rep D (upd H D o) v d)
  (hL:∀H,S H1 H->H a=some (.lst zs)) (l9:zs.length<=900000)
  (hs:∀(D:Addr) (c:CB) (H:Hp) (i:Nat) (z:V) (yes:V->Hp->Prop) (no:Hp->Prop),zs[i]? = some z->S H1 H->H1 D=none->(∃xs,H D=some (.lst xs))->(∀d,f i=some d->∀v H',S H H'->Rep D H' v d->yes v H')->(f i=none->∀H',S H H'->no H')->tt c (some (z)::subS σ idx) H fun b H4=>if b=true then te c (some (z)::subS σ idx) H4 yes else no H4)
  (q:∀D H' vs,S H1 H'->H1 D=none->H' D=some (.lst vs)->RepL (Rep D) H' vs ((List.range (zs.length)).filterMap f)->Q (.ref D) H'):CompAll (Itl K a) 1 idx (fun _=>gName 0) tt te σ Q H1:=by
 obtain ⟨Pc,hPc⟩:∃Pc:Addr->Nat->List V->Hp->Prop,∀Z i ys H',Pc Z i ys H'↔S H1 H'/\H' Z=some (.lst ys)/\RepL (Rep Z) H' ys ((List.range i).filterMap f):=⟨_,fun _ _ _ _=>Iff.rfl⟩
 refine compAll_list Pc (fun Z hZ=>(hPc _ _ _ _).mpr ⟨sp Z _ _ hZ sr,upd_same,.nil⟩) (fun Z hZ i ys H' _ pv=>hL H' ((hPc _ _ _ _).mp pv).1) (fun Z hZ i z ys H' hz pv cb=>?_) (fun Z hZ ys H' pv=>?_)
 ·obtain ⟨s1,hZ1,rl⟩:=(hPc _ _ _ _).mp pv
  have hi:i < zs.length:=(List.getElem?_eq_some_iff.mp hz).1
  refine hs Z cb H' i z _ _ hz s1 hZ ⟨_,hZ1⟩ (fun d hd v H2 s2 hv=>?_) (fun hn H2 s2=>?_)
  ·refine ⟨sk Z _ _ _ hZ s1 s2 hZ1,?_,(hPc _ _ _ _).mpr ⟨sp Z _ _ hZ (st _ _ s1 s2),upd_same,?_⟩⟩
   ·rw [rl.1]
    have:=fm_len f i
    exact Nat.lt_of_le_of_lt (by lia:((List.range i).filterMap f).length<=1000000) (by decide)
   ·rw [take_fm,hd]
    exact (((rl.mono fun v d=>mono Z _ _ v d s1 s2)).snoc hv).mono fun v d=>mput Z H2 _ v d hZ (st _ _ s1 s2) ⟨_,sk Z _ _ _ hZ s1 s2 hZ1⟩
  ·refine (hPc _ _ _ _).mpr ⟨st _ _ s1 s2,sk Z _ _ _ hZ s1 s2 hZ1,?_⟩
   rw [take_fm,hn,Option.toList_none,List.append_nil]
   exact rl.mono fun v d=>mono Z _ _ v d s1 s2
 ·obtain ⟨s1,hZ1,rl⟩:=(hPc _ _ _ _).mp pv
  exact q Z H' ys s1 hZ hZ1 rl
theorem compG_tup {K:PySem.W.Frag} {a:Addr} {zs:List V} {idx:List Nat} {tt:CB->TT} {te:CB->TE} {σ:St} {Q:VK} {H1:Hp} {δ:Type} (S:Hp->Hp->Prop) (f:Nat->Option δ) (Rep:Addr->Hp->V->δ->Prop) (sr:S H1 H1) (st:∀H H',S H1 H->S H H'->S H1 H')
  (sp:∀D H o,H1 D=none->S H1 H->S H1 (upd H D o)) (sk:∀D H H' o,H1 D=none->S H1 H->S H H'->H D=some o->H' D=some o)
  (mono:∀D H H' v d,S H1 H->S H H'->Rep D H v d->Rep D H' v d) (mput:∀D H o v d,H1 D=none->S H1 H->(∃xs,H D=some (.lst xs))->Rep D H v d->Rep D (upd H D o) v d)
  (hL:∀H,S H1 H->H a=some (.tup zs)) (l9:zs.length<=900000)
  (hs:∀(D:Addr) (c:CB) (H:Hp) (i:Nat) (z:V) (yes:V->Hp->Prop) (no:Hp->Prop),zs[i]? = some z->S H1 H->H1 D=none->(∃xs,H D=some (.lst xs))->(∀d,f i=some d->∀v H',S H H'->Rep D H' v d->yes v H')->(f i=none->∀H',S H H'->no H')->tt c (some (z)::subS σ idx) H fun b H4=>if b=true then te c (some (z)::subS σ idx) H4 yes else no H4)
  (q:∀D H' vs,S H1 H'->H1 D=none->H' D=some (.lst vs)->RepL (Rep D) H' vs ((List.range (zs.length)).filterMap f)->Q (.ref D) H'):CompAll (Itt K a) 1 idx (fun _=>gName 0) tt te σ Q H1:=by
 obtain ⟨Pc,hPc⟩:∃Pc:Addr->Nat->List V->Hp->Prop,∀Z i ys H',Pc Z i ys H'↔S H1 H'/\H' Z=some (.lst ys)/\RepL (Rep Z) H' ys ((List.range i).filterMap f):=⟨_,fun _ _ _ _=>Iff.rfl⟩
 refine compAll_tup Pc (fun Z hZ=>(hPc _ _ _ _).mpr ⟨sp Z _ _ hZ sr,upd_same,.nil⟩) (fun Z hZ i ys H' _ pv=>hL H' ((hPc _ _ _ _).mp pv).1) (fun Z hZ i z ys H' hz pv cb=>?_) (fun Z hZ ys H' pv=>?_)
 ·obtain ⟨s1,hZ1,rl⟩:=(hPc _ _ _ _).mp pv
  have hi:i < zs.length:=(List.getElem?_eq_some_iff.mp hz).1
  refine hs Z cb H' i z _ _ hz s1 hZ ⟨_,hZ1⟩ (fun d hd v H2 s2 hv=>?_) (fun hn H2 s2=>?_)
  ·refine ⟨sk Z _ _ _ hZ s1 s2 hZ1,?_,(hPc _ _ _ _).mpr ⟨sp Z _ _ hZ (st _ _ s1 s2),upd_same,?_⟩⟩
   ·rw [rl.1]
    have:=fm_len f i
    exact Nat.lt_of_le_of_lt (by lia:((List.range i).filterMap f).length<=1000000) (by decide)
   ·rw [take_fm,hd]
    exact (((rl.mono fun v d=>mono Z _ _ v d s1 s2)).snoc hv).mono fun v d=>mput Z H2 _ v d hZ (st _ _ s1 s2) ⟨_,sk Z _ _ _ hZ s1 s2 hZ1⟩
  ·refine (hPc _ _ _ _).mpr ⟨st _ _ s1 s2,sk Z _ _ _ hZ s1 s2 hZ1,?_⟩
   rw [take_fm,hn,Option.toList_none,List.append_nil]
   exact rl.mono fun v d=>mono Z _ _ v d s1 s2
 ·obtain ⟨s1,hZ1,rl⟩:=(hPc _ _ _ _).mp pv
  exact q Z H' ys s1 hZ hZ1 rl
theorem compS_list {K:PySem.W.Frag} {a:Addr} {zs:List V} {idx:List Nat} {tt:CB->TT} {te:CB->TE} {σ:St} {Q:VK} {H1:Hp} {δ:Type} (f:Nat->Option δ) (Rep:Addr->Hp->V->δ->Prop) (mono:∀D H H' v d,Same H H'->Rep D H v d->Rep D H' v d) (mput:∀D H o v d,(∃xs,H D=some (.lst xs))->H1 D=none->Rep D H v d->Rep D (upd H D o) v d)
  (hL:H1 a=some (.lst zs)) (l9:zs.length<=900000)
  (hs:∀(D:Addr) (c:CB) (H:Hp) (i:Nat) (z:V) (yes:V->Hp->Prop) (no:Hp->Prop),zs[i]? = some z->Same H1 H->H1 D=none->(∃xs,H D=some (.lst xs))->(∀d,f i=some d->∀v H',Same H H'->Rep D H' v d->yes v H')->(f i=none->∀H',Same H H'->no H')->tt c (some (z)::subS σ idx) H fun b H4=>if b=true then te c (some (z)::subS σ idx) H4 yes else no H4)
  (q:∀D H' vs,Same H1 H'->H1 D=none->H' D=some (.lst vs)->RepL (Rep D) H' vs ((List.range (zs.length)).filterMap f)->Q (.ref D) H'):CompAll (Itl K a) 1 idx (fun _=>gName 0) tt te σ Q H1:=
 compG_list Same f Rep (fun _ _ e=>e) (fun _ _ a b=>a.trans b) (fun D H o hD s b u e=>by rw [upd_ne (ne_of_none e hD)];exact s b u e) (fun D H H' o _ _ s e=>s D o e) (fun D H H' v d _ s r=>mono D H H' v d s r) (fun D H o v d hD _ hl r=>mput D H o v d hl hD r) (fun H s=>s _ _ hL) l9 hs q
theorem compS_tup {K:PySem.W.Frag} {a:Addr} {zs:List V} {idx:List Nat} {tt:CB->TT} {te:CB->TE} {σ:St} {Q:VK} {H1:Hp} {δ:Type} (f:Nat->Option δ) (Rep:Addr->Hp->V->δ->Prop) (mono:∀D H H' v d,Same H H'->Rep D H v d->Rep D H' v d) (mput:∀D H o v d,(∃xs,H D=some (.lst xs))->H1 D=none->Rep D H v d->Rep D (upd H D o) v d)
  (hL:H1 a=some (.tup zs)) (l9:zs.length<=900000)
  (hs:∀(D:Addr) (c:CB) (H:Hp) (i:Nat) (z:V) (yes:V->Hp->Prop) (no:Hp->Prop),zs[i]? = some z->Same H1 H->H1 D=none->(∃xs,H D=some (.lst xs))->(∀d,f i=some d->∀v H',Same H H'->Rep D H' v d->yes v H')->(f i=none->∀H',Same H H'->no H')->tt c (some (z)::subS σ idx) H fun b H4=>if b=true then te c (some (z)::subS σ idx) H4 yes else no H4)
  (q:∀D H' vs,Same H1 H'->H1 D=none->H' D=some (.lst vs)->RepL (Rep D) H' vs ((List.range (zs.length)).filterMap f)->Q (.ref D) H'):CompAll (Itt K a) 1 idx (fun _=>gName 0) tt te σ Q H1:=
 compG_tup Same f Rep (fun _ _ e=>e) (fun _ _ a b=>a.trans b) (fun D H o hD s b u e=>by rw [upd_ne (ne_of_none e hD)];exact s b u e) (fun D H H' o _ _ s e=>s D o e) (fun D H H' v d _ s r=>mono D H H' v d s r) (fun D H o v d hD _ hl r=>mput D H o v d hl hD r) (fun H s=>s _ _ hL) l9 hs q
theorem RSet.mono {H H':Hp} {v:V} {d:List Int} (k:∀b xs,H b=some (.tup xs)->H' b=some (.tup xs)) (r:RSet H v d):RSet H' v d:=let ⟨b,e,h⟩:=r;⟨b,e,k _ _ h⟩
theorem RSet.put {H:Hp} {v:V} {d:List Int} {D:Addr} {o:HO} (hl:∃xs,H D=some (.lst xs)) (r:RSet H v d):RSet (upd H D o) v d:=by
 obtain ⟨b,rfl,h⟩:=r
 obtain ⟨xs,hx⟩:=hl
 exact ⟨b,rfl,by rw [upd_ne (ne_of h hx (by intro z;cases z))];exact h⟩
theorem RSet.same:∀(D:Addr) (H H':Hp) (v:V) (d:List Int),Same H H'->(fun _=>RSet) D H v d->(fun _=>RSet) D H' v d:=fun _ _ _ _ _ s r=>r.mono fun b xs e=>s _ _ e
theorem RSet.puts {H1:Hp}:∀(D:Addr) (H:Hp) (o:HO) (v:V) (d:List Int),(∃xs,H D=some (.lst xs))->H1 D=none->(fun _=>RSet) D H v d->(fun _=>RSet) D (upd H D o) v d:=fun _ _ _ _ _ hl _ r=>r.put hl
def RVal (H:Hp) (v d:V):Prop:=v=d
theorem vals_is {H:Hp} {vs ds:List V} (h:RepL RVal H vs ds):vs=ds:=List.ext_getElem? fun i=>by
 by_cases hi:i < vs.length
 ·have hj:i < ds.length:=by have:=h.1;lia
  rw [List.getElem?_eq_getElem hi,List.getElem?_eq_getElem hj]
  exact congrArg some (h.2 i _ _ (List.getElem?_eq_getElem hi) (List.getElem?_eq_getElem hj))
 ·rw [List.getElem?_eq_none (by lia),List.getElem?_eq_none (by have:=h.1;lia)]
theorem fm_some {δ:Type} {f:Nat->Option δ} {l:List δ} (h:∀i,i < l.length->f i=l[i]?):(List.range l.length).filterMap f=l:=by
 have:∀n,n<=l.length->(List.range n).filterMap f=l.take n:=fun n=>by
  induction n with
  | zero=>intro _;rfl
  | succ n ih=>
   intro hn
   rw [take_fm,ih (by lia),h n (by lia),List.take_add_one]
 rw [this _ (Nat.le_refl _),List.take_length]
theorem fm_filter {δ:Type} {l:List δ} {p:δ->Bool} {f:Nat->Option δ} (h:∀i (hi:i < l.length),f i=if p l[i] then some l[i] else none):(List.range l.length).filterMap f=l.filter p:=by
 have:∀n,n<=l.length->(List.range n).filterMap f=(l.take n).filter p:=fun n=>by
  induction n with
  | zero=>intro _;rfl
  | succ n ih=>
   intro hn
   rw [take_fm,ih (by lia),h n (by lia),List.take_add_one,List.filter_append,List.getElem?_eq_getElem (by lia)]
   cases e:p l[n] <;> simp [e]
 rw [this _ (Nat.le_refl _),List.take_length]
theorem fm_map {α δ:Type} {l:List α} {g:α->δ} {f:Nat->Option δ} (h:∀i (hi:i < l.length),f i=some (g l[i])):(List.range l.length).filterMap f=l.map g:=by
 have:=fm_some (f:=f) (l:=l.map g) fun i hi=>by
  rw [List.length_map] at hi
  rw [h i hi,List.getElem?_map,List.getElem?_eq_getElem hi];rfl
 rwa [List.length_map] at this
end L2
end
section
namespace L2
open PySem
theorem SetsAt.mono {H H':Hp} {bs:List Addr} {ts:List (List Int)} (k:∀b xs,H b=some (.tup xs)->H' b=some (.tup xs)) (s:SetsAt H bs ts):SetsAt H' bs ts:=⟨s.1,fun i b t hb ht=>k _ _ (s.2 i b t hb ht)⟩
theorem SetsAt.app {H:Hp} {bs cs:List Addr} {ts us:List (List Int)} (s:SetsAt H bs ts) (u:SetsAt H cs us):SetsAt H (bs++cs) (ts++us):=by
 refine ⟨by rw [List.length_append,List.length_append,s.1,u.1],fun i c x hc hx=>?_⟩
 by_cases hi:i < bs.length
 ·rw [List.getElem?_append_left hi] at hc
  rw [List.getElem?_append_left (by rw [<-s.1];exact hi)] at hx
  exact s.2 i c x hc hx
 ·rw [List.getElem?_append_right (by lia)] at hc
  rw [List.getElem?_append_right (by rw [<-s.1];lia),<-s.1] at hx
  exact u.2 _ c x hc hx
theorem kit_same (K:PySem.W.Frag) (T:String):PySem.W.kitOne K (.type T) (.type T)=some true:=by
 unfold PySem.W.kitOne
 rw [if_pos (by simp)]
theorem kit_no {K:PySem.W.Frag} {A B:String} (h:(Value.type A == Value.type B)=false) (e:PySem.W.kitCls K (.type A) (.type B)=some false):PySem.W.kitOne K (.type A) (.type B)=some false:=by
 unfold PySem.W.kitOne
 rw [if_neg (by rw [h];exact Bool.false_ne_true)]
 exact e
end L2
end
section
namespace L2
open PySem PySem.Spec PyProof.Rows
section
variable {P:Program} {w:World} {A:Around} {E:Value->Shared->Prop} {s:Shared}
end
section
variable {X:Cx}
def qSetIT (w:World):List V->Hp->VK->Prop:=fun vs H Q=>∃a,vs=[.ref a]/\∃ss:List Int,H a=some (.tup (ss.map V.int))/\ss.length < 4000/\∀p,H p=none->Q (.ref p) (upd H p (InS w p ss))
end
end L2
end
section
namespace L2
open PySem PySem.Spec PyProof.Rows
section
variable {P:Program} {w:World} {κ:Type} [DecidableEq κ] {knd:PySem.KeyKind P w κ} {A:Around} {E:Value->Shared->Prop} {s:Shared} {a b:Addr} {kvs kvs2:List (κ×Value)}
end
section
variable {X:Cx}
end
end L2
end
section
namespace L2
open PySem PySem.Spec PyProof.Rows
section
variable {X:Cx} {pins:List (Addr×Obj)} {σ:St} {H:Hp} {s:Shared} {d:Addr} {o:Obj} {kvs:List (Key×V)}
end
section
variable {X:Cx} {tg:Expr}
end
end L2
end
section
namespace L2
open PySem PySem.Spec PyProof.Rows
section
variable {X:Cx}
end
section
variable {X:Cx} {N:List Str} {sc:Scope} {pos:Pos}
end
section
variable {X:Cx}
end
end L2
end
section
namespace L2
open PySem
theorem same_put' {H H1:Hp} {p:Addr} {o:HO} (a:Same H H1) (hn:H p=none):Same H (upd H1 p o):=fun b u e=>by rw [upd_ne (ne_of_none e hn)];exact a b u e
theorem keys_putK {κ:Type} [DecidableEq κ] {kvs:List (κ×V)} {k:κ} {v:V}:(putK kvs k v).map (·.1)=if k∈kvs.map (·.1) then kvs.map (·.1) else kvs.map (·.1)++[k]:=by
 unfold putK
 by_cases h:(kvs.any fun kv=>decide (kv.1=k))=true
 ·have hm:k∈kvs.map (·.1):=by
   obtain ⟨kv,hkv,e⟩:=List.any_eq_true.mp h
   rw [<-of_decide_eq_true e]
   exact List.mem_map_of_mem hkv
  rw [if_pos h,if_pos hm,List.map_map]
  refine List.map_congr_left fun kv _=>?_
  show (if kv.1=k then (kv.1,v) else kv).1=kv.1
  split <;> rfl
 ·have hm:k∉kvs.map (·.1):=fun z=>by
   obtain ⟨kv,hkv,e⟩:=List.mem_map.mp z
   exact h (List.any_eq_true.mpr ⟨kv,hkv,decide_eq_true e⟩)
  rw [if_neg h,if_neg hm,List.map_append]
  rfl
theorem inl_inj {a b:List Int} (h:(a.map Sum.inl:List Key)=b.map Sum.inl):a=b:=(List.map_inj_right fun _ _ e=>Sum.inl.inj e).mp h
theorem ref_at {qs:List Addr} {i:Nat} {x:V} (h:(List.map V.ref qs)[i]? = some x):∃q,qs[i]? = some q/\x=.ref q:=by
 rw [List.getElem?_map] at h
 cases e:qs[i]? with
 | none=>rw [e] at h;cases h
 | some q=>rw [e] at h;exact ⟨q,rfl,(Option.some.inj h).symm⟩
theorem same_new {H:Hp} {p:Addr} (h:H p=none) (o:HO):Same H (upd H p o):=fun b u q=>by rw [upd_ne (ne_of_none q h)];exact q
def spOnce:Sp:=fun vs H Q _=>∃L,vs=[.ref L]/\∃as ss,H L=some (.lst (List.map V.ref as))/\SetsAt H as ss/\as.length<=90000/\
 ∀D H' bs ts,Same H H'->H D=none->H' D=some (.lst (List.map V.ref bs))->SetsAt H' bs ts->ts.Nodup->(∀x,x∈ts↔x∈ss)->ts.Pairwise (fun a b=>setLt a b=true)->Q (.ref D) H'
def isPart (x y:List Int):Bool:=x.all fun m=>decide (m∈y)
theorem inV_ints (m:Int) (y:List Int):inV (.int m) (List.map V.int y)=decide (m∈y):=by
 unfold inV
 rw [List.any_map,Bool.eq_iff_iff,List.any_eq_true,decide_eq_true_eq]
 constructor
 ·rintro ⟨z,hz,e⟩
  have:z=m:=by simpa [eqV] using e
  rw [<-this];exact hz
 ·intro h
  exact ⟨m,h,by simp [eqV]⟩
theorem flat_ints (y:List Int):(List.map V.int y).all flatV=true:=by
 rw [List.all_map,List.all_eq_true]
 intro _ _
 rfl
theorem int_at {ns:List Int} {i:Nat} {x:V} (h:(List.map V.int ns)[i]? = some x):∃n,ns[i]? = some n/\x=.int n:=by
 rw [List.getElem?_map] at h
 cases e:ns[i]? with
 | none=>rw [e] at h;cases h
 | some q=>rw [e] at h;exact ⟨q,rfl,(Option.some.inj h).symm⟩
def spPart:Sp:=fun vs H Q _=>∃a b,vs=[.ref a,.ref b]/\∃x y:List Int,H a=some (.tup (List.map V.int x))/\H b=some (.tup (List.map V.int y))/\Q (.bl (isPart x y)) H
def spAnyPart (lies:Bool):Sp:=fun vs H Q _=>∃a L,vs=[.ref a,.ref L]/\∃(x:List Int) (bs:List Addr) (ts:List (List Int)),H a=some (.tup (List.map V.int x))/\H L=some (.lst (List.map V.ref bs))/\SetsAt H bs ts/\Q (.bl (ts.any fun t=>if lies then isPart x t else isPart t x)) H
def hv (l:Addr) (a b c d e:Int):HO:=.lst [.ref l,.int a,.int b,.int c,.int d,.int e]
def HdO (l:Addr) (o:HO):Prop:=∃a b c d e,o=hv l a b c d e/\0<=a
def spNext:Sp:=fun vs H Q _=>∃h,vs=[.ref h]/\∃l a b c d e,H h=some (hv l a b c d e)/\Q (.int (d * 48271 % 2147483647+e * 40693 % 2147483399)) (upd H h (hv l a b c (d * 48271 % 2147483647) (e * 40693 % 2147483399)))
def spTake:Sp:=fun vs H Q _=>∃h,vs=[.ref h]/\∃l ns o,H h=some o/\HdO l o/\H l=some (.lst (List.map V.int ns))/\∀o',HdO l o'->Q .non (upd H h o')
def spDraw:Sp:=fun vs H Q _=>∃h m,vs=[.ref h,.int m]/\1<=m/\m < 2 ^ 300/\∃l ns o,H h=some o/\HdO l o/\H l=some (.lst (List.map V.int ns))/\∀r o',0<=r->r < m->HdO l o'->Q (.int r) (upd H h o')
def Hd (H:Hp) (h l:Addr):Prop:=∃ns o,H h=some o/\HdO l o/\H l=some (.lst (List.map V.int ns))
def HandAt (H:Hp) (h:Addr):Prop:=∃l,Hd H h l
structure Dr (h:Addr) (H H':Hp):Prop where
 keep:∀b o,b≠h->H b=some o->H' b=some o
 hand:∀l,Hd H h l->Hd H' h l
theorem Dr.refl {h:Addr} {H:Hp}:Dr h H H:=⟨fun _ _ _ e=>e,fun _ x=>x⟩
theorem Dr.trans {h:Addr} {H H1 H2:Hp} (a:Dr h H H1) (b:Dr h H1 H2):Dr h H H2:=⟨fun c o hc e=>b.keep c o hc (a.keep c o hc e),fun l x=>b.hand l (a.hand l x)⟩
theorem Dr.handAt {h:Addr} {H H1:Hp} (a:Dr h H H1) (x:HandAt H h):HandAt H1 h:=let ⟨l,y⟩:=x;⟨l,a.hand l y⟩
theorem Hd.apart {H:Hp} {h l:Addr} (x:Hd H h l):l≠h:=by
 obtain ⟨ns,o,e1,⟨a,b,c,d,e,rfl,_⟩,e3⟩:=x
 intro z
 rw [z,e1] at e3
 have q:=Option.some.inj e3
 unfold hv at q
 injection q with q
 match ns,q with
 | [],q=>cases q
 | n::_,q=>injection q with q1 _;cases q1
theorem Dr.new {h p:Addr} {H H1:Hp} {o:HO} (a:Dr h H H1) (hp:H1 p=none):Dr h H (upd H1 p o):=by
 refine ⟨fun c o' hc e=>?_,fun l x=>?_⟩
 ·rw [upd_ne (ne_of_none (a.keep c o' hc e) hp)];exact a.keep c o' hc e
 ·obtain ⟨ns,oh,e1,e2,e3⟩:=a.hand l x
  exact ⟨ns,oh,by rw [upd_ne (ne_of_none e1 hp)];exact e1,e2,by rw [upd_ne (ne_of_none e3 hp)];exact e3⟩
theorem Dr.put {h p:Addr} {H H1:Hp} {o':HO} (a:Dr h H H1) (hn:H p=none):Dr h H (upd H1 p o'):=by
 refine ⟨fun c o' hc e=>?_,fun l x=>?_⟩
 ·rw [upd_ne (ne_of_none e hn)];exact a.keep c o' hc e
 ·obtain ⟨ns,oh,e1,e2,e3⟩:=a.hand l x
  obtain ⟨_,_,f1,_,f3⟩:=x
  exact ⟨ns,oh,by rw [upd_ne (ne_of_none f1 hn)];exact e1,e2,by rw [upd_ne (ne_of_none f3 hn)];exact e3⟩
theorem HandAt.ne {h p:Addr} {H:Hp} (x:HandAt H h) (hp:H p=none):p≠h:=by
 obtain ⟨l,ns,oh,e1,_,_⟩:=x
 exact (ne_of_none e1 hp).symm
theorem Dr.free {h p:Addr} {H H1:Hp} (a:Dr h H H1) (x:HandAt H h) (hp:H1 p=none):H p=none:=by
 cases e:H p with
 | none=>rfl
 | some o=>
  have n:=(a.handAt x).ne hp
  have:=a.keep p o n e
  rw [hp] at this;cases this
theorem draw_by {h:Addr} {m:Int} {H0 H:Hp} {Q:VK} {E:XK} (hd:HandAt H0 h) (d:Dr h H0 H) (h1:1<=m) (h2:m < 2 ^ 300) (q:∀r H',0<=r->r < m->Dr h H0 H'->(∀b,b≠h->H' b=H b)->Q (.int r) H'):spDraw [.ref h,.int m] H Q E:=by
 obtain ⟨l,x⟩:=hd
 have x':=d.hand l x
 have ap:=x'.apart
 obtain ⟨ns,oh,e1,e2,e3⟩:=x'
 refine ⟨h,m,rfl,h1,h2,l,ns,oh,e1,e2,e3,fun r o' r0 r1 ho=>q r _ r0 r1 ⟨fun c o hc e=>?_,fun l' x'=>?_⟩ (fun b hb=>upd_ne hb)⟩
 ·rw [upd_ne hc];exact d.keep c o hc e
 ·have y:=d.hand l' x'
  have ap':=y.apart
  obtain ⟨ns',oh',f1,f2,f3⟩:=y
  have el:l'=l:=by
   obtain ⟨a,b,c,d,e,rfl,_⟩:=e2
   obtain ⟨a',b',c',d',e',rfl,_⟩:=f2
   rw [e1] at f1
   have:=Option.some.inj f1
   unfold hv at this
   injection this with this
   injection this with this _
   exact (V.ref.inj this).symm
  subst el
  exact ⟨ns,o',upd_same,ho,by rw [upd_ne ap];exact e3⟩
theorem cutV_map {α:Type} (f:α->V) (xs:List α) (lo hi:Option Int):cutV (xs.map f) lo hi=((xs.drop (HT.sIx xs.length 0 lo)).take (HT.sIx xs.length xs.length hi - HT.sIx xs.length 0 lo)).map f:=by
 unfold cutV;rw [List.length_map,List.map_take,List.map_drop]
def spHand (K:PySem.W.Frag):Sp:=fun vs H Q _=>∃a ns,vs=[.ref a]/\SqL K H a (List.map V.int ns)/\∀h H',Same H H'->H h=none->HandAt H' h->Q (.ref h) H'
def Rise (x:List Int):Prop:=x.Pairwise (· < ·)
theorem isPart_iff {x y:List Int}:isPart x y=true↔∀m∈x,m∈y:=by
 unfold isPart
 rw [List.all_eq_true]
 exact ⟨fun h m hm=>of_decide_eq_true (h m hm),fun h m hm=>decide_eq_true (h m hm)⟩
theorem rise_eq:∀{x y:List Int},Rise x->Rise y->(∀m,m∈x↔m∈y)->x=y
 | [],[],_,_,_=>rfl
 | [],b::y,_,_,h=>absurd ((h b).mpr List.mem_cons_self) (by simp)
 | a::x,[],_,_,h=>absurd ((h a).mp List.mem_cons_self) (by simp)
 | a::x,b::y,hx,hy,h=>by
  have hx':=List.pairwise_cons.mp hx
  have hy':=List.pairwise_cons.mp hy
  have hab:a=b:=by
   rcases List.mem_cons.mp ((h a).mp List.mem_cons_self) with e | e
   ·exact e
   ·rcases List.mem_cons.mp ((h b).mpr List.mem_cons_self) with e' | e'
    ·exact e'.symm
    ·have:=hy'.1 a e
     have:=hx'.1 b e'
     lia
  subst hab
  rw [rise_eq hx'.2 hy'.2 fun m=>⟨fun hm=>?_,fun hm=>?_⟩]
  ·rcases List.mem_cons.mp ((h m).mp (List.mem_cons_of_mem _ hm)) with e | e
   ·have:=hx'.1 m hm;lia
   ·exact e
  ·rcases List.mem_cons.mp ((h m).mpr (List.mem_cons_of_mem _ hm)) with e | e
   ·have:=hy'.1 m hm;lia
   ·exact e
def restF (x y:List Int):List Int:=x.filter fun m=>decide (m∉y)
def spRest:Sp:=fun vs H Q _=>∃a b,vs=[.ref a,.ref b]/\∃x y:List Int,H a=some (.tup (List.map V.int x))/\H b=some (.tup (List.map V.int y))/\x.length<=900/\∀p H',Same H H'->H p=none->H' p=some (.tup (List.map V.int (restF x y)))->Q (.ref p) H'
def spWhole:Sp:=fun vs H Q _=>∃i:Int,vs=[.int i]/\Q (.bl true) H
def spIsSet:Sp:=fun vs H Q _=>∃a,vs=[.ref a]/\∃x:List Int,H a=some (.tup (List.map V.int x))/\x.length<=900/\Rise x/\∀H',Same H H'->Q (.bl true) H'
theorem all_true:∀(n:Nat),(List.replicate n true).all id=true
 | 0=>rfl
 | n+1=>by rw [List.replicate_succ,List.all_cons,all_true n];rfl
theorem setLt_irr (x:List Int):setLt x x=false:=by
 unfold setLt
 rw [lexLt_irr,Bool.and_false,Bool.or_false]
 simp
theorem setLt_tr {x y z:List Int} (h1:setLt x y=true) (h2:setLt y z=true):setLt x z=true:=by
 unfold setLt at *
 simp only [Bool.or_eq_true,Bool.and_eq_true,decide_eq_true_eq] at *
 rcases h1 with a | ⟨a,b⟩
 ·rcases h2 with c | ⟨c,d⟩ <;> (left;lia)
 ·rcases h2 with c | ⟨c,d⟩
  ·left;lia
  ·right;exact ⟨by lia,lexLt_tr b d⟩
def spAhead:Sp:=fun vs H Q _=>∃a b,vs=[.ref a,.ref b]/\∃x y:List Int,H a=some (.tup (List.map V.int x))/\H b=some (.tup (List.map V.int y))/\x.length<=900/\Q (.bl (setLt x y)) H
def byN (ms:List Int) (k:Nat):Nat->List Int
 | 0=>[]
 | n+1=>byN ms k n++(if k.testBit n then [ms.getD n 0] else [])
def byF (ms:List Int) (k:Nat):List Int:=byN ms k ms.length
theorem byN_mem {ms:List Int} {k:Nat} {x:Int}:∀{n:Nat},x∈byN ms k n↔∃j,j < n/\k.testBit j=true/\x=ms.getD j 0
 | 0=>by simp [byN]
 | n+1=>by
  rw [byN,List.mem_append,byN_mem]
  constructor
  ·rintro (⟨j,h1,h2,h3⟩ | h)
   ·exact ⟨j,by lia,h2,h3⟩
   ·split at h
    ·rename_i hb
     exact ⟨n,by lia,hb,by simpa using h⟩
    ·cases h
  ·rintro ⟨j,h1,h2,h3⟩
   by_cases e:j=n
   ·subst e
    right
    rw [if_pos h2,h3];simp
   ·exact .inl ⟨j,by lia,h2,h3⟩
theorem byN_len {ms:List Int} {k:Nat}:∀{n:Nat},(byN ms k n).length<=n
 | 0=>by simp [byN]
 | n+1=>by
  have:=byN_len (ms:=ms) (k:=k) (n:=n)
  rw [byN,List.length_append]
  split <;> simp <;> lia
theorem rise_get {ms:List Int} (r:Rise ms) {i j:Nat} (h:i < j) (hj:j < ms.length):ms.getD i 0 < ms.getD j 0:=by
 have:=(List.pairwise_iff_getElem.mp r) i j (by lia) hj h
 rw [List.getD_eq_getElem?_getD,List.getD_eq_getElem?_getD,List.getElem?_eq_getElem hj,List.getElem?_eq_getElem (by lia:i < ms.length)]
 exact this
theorem byN_rise {ms:List Int} {k:Nat} (r:Rise ms):∀{n:Nat},n<=ms.length->Rise (byN ms k n)
 | 0,_=>List.Pairwise.nil
 | n+1,h=>by
  unfold Rise
  rw [byN,List.pairwise_append]
  refine ⟨byN_rise r (by lia),by split <;> simp,fun a ha b hb=>?_⟩
  split at hb
  ·have eb:b=ms.getD n 0:=by simpa using hb
   obtain ⟨j,h1,_,h3⟩:=byN_mem.mp ha
   rw [eb,h3]
   exact rise_get r h1 (by lia)
  ·cases hb
theorem byF_rise {ms:List Int} {k:Nat} (r:Rise ms):Rise (byF ms k):=byN_rise r (Nat.le_refl _)
theorem byF_len {ms:List Int} {k:Nat}:(byF ms k).length<=ms.length:=byN_len
theorem bitAnd_nat (a b:Nat):Builtin.bitAnd (a:Int) (b:Int)=((a &&& b:Nat):Int):=by
 unfold Builtin.bitAnd
 rw [decide_eq_true (by lia:(0:Int)<=(a:Int)),decide_eq_true (by lia:(0:Int)<=(b:Int))]
 simp
theorem bit_at (k n:Nat):Builtin.bitAnd ((k:Int) / 2 ^ ((n:Int)).toNat) 1=if k.testBit n then 1 else 0:=by
 rw [PyProof.Rows.bitAnd_m1,Int.toNat_natCast]
 have e:((k:Int) / 2 ^ n) % 2=((k / 2 ^ n % 2:Nat):Int):=by
  rw [Int.natCast_emod,Int.natCast_ediv,Int.natCast_pow];rfl
 rw [e,Nat.testBit_eq_decide_div_mod_eq]
 have:k / 2 ^ n % 2=0\/k / 2 ^ n % 2=1:=by lia
 rcases this with z | z <;> simp [z]
def spBy:Sp:=fun vs H Q _=>∃M k,vs=[.ref M,.int k]/\∃(ms:List Int) (m:Nat),k=(m:Int)/\H M=some (.lst (List.map V.int ms))/\ms.length<=900/\∀p H',Same H H'->H p=none->H' p=some (.tup (List.map V.int (byF ms m)))->Q (.ref p) H'
theorem bitOr_nat (a b:Nat):Builtin.bitOr (a:Int) (b:Int)=((a ||| b:Nat):Int):=by
 unfold Builtin.bitOr Builtin.bitAnd
 have n:∀x:Nat,Builtin.bitNot (x:Int) = -(x:Int) - 1:=fun x=>by unfold Builtin.bitNot;lia
 rw [n,n,decide_eq_false (by lia),decide_eq_false (by lia)]
 show Builtin.bitNot (Builtin.bitNot _)=_
 have nn:∀x:Int,Builtin.bitNot x = -x - 1:=fun x=>by unfold Builtin.bitNot;lia
 simp only [nn]
 have e:∀x:Nat,(-(-(x:Int) - 1) - 1).toNat=x:=fun x=>by lia
 rw [e,e]
 lia
def natV (k:Nat):V:=.int (k:Int)
theorem nat_of {r:Int} {b:Nat} (h0:0<=r) (h1:r < (b:Int)):∃k:Nat,r=(k:Int)/\k < b:=⟨r.toNat,by lia,by lia⟩
theorem four_at {a b c d r:Int} (h0:0<=r) (h1:r < 4):∃v,atI [V.int a,V.int b,V.int c,V.int d] r=some (.int v)/\(v=a\/v=b\/v=c\/v=d):=by
 have:r=0\/r=1\/r=2\/r=3:=by lia
 rcases this with e | e | e | e <;> subst e
 ·exact ⟨a,atI_0 ..,by simp⟩
 ·exact ⟨b,atI_1 ..,by simp⟩
 ·exact ⟨c,atI_2 ..,by simp⟩
 ·exact ⟨d,atI_3 ..,by simp⟩
theorem nat_at {ks:List Nat} {i:Nat} {x:V} (h:(List.map natV ks)[i]? = some x):∃k,ks[i]? = some k/\x=.int (k:Int):=by
 rw [List.getElem?_map] at h
 cases e:ks[i]? with
 | none=>rw [e] at h;cases h
 | some k=>rw [e] at h;exact ⟨k,rfl,(Option.some.inj h).symm⟩
def pickP (g:Nat->Nat->Nat) (ks:List Nat) (a:Nat):Bool:=!(ks.any fun b=>decide (b≠a) && decide (b &&& a=g b a))
def pickM (g:Nat->Nat->Nat) (ks:List Nat):List Nat:=ks.filter (pickP g ks)
theorem any_ids (ks:List Nat) (f:Nat->Bool):(ks.map f).any id=ks.any f:=by
 induction ks with
 | nil=>rfl
 | cons a r ih=>rw [List.map_cons,List.any_cons,List.any_cons,ih];rfl
theorem take_filter {α:Type} {p:α->Bool} {xs:List α} {i:Nat} {x:α} (h:xs[i]? = some x):(xs.take (i+1)).filter p=(xs.take i).filter p++(if p x then [x] else []):=by
 rw [List.take_add_one,h,List.filter_append]
 by_cases c:p x=true <;> simp [c]
theorem Dr.on {h:Addr} {H H1 H2:Hp} (a:Dr h H H1) (s:Same H1 H2):Dr h H H2:=⟨fun c o hc e=>s _ _ (a.keep c o hc e),fun l x=>by
 obtain ⟨ns,oh,e1,e2,e3⟩:=a.hand l x
 exact ⟨ns,oh,s _ _ e1,e2,s _ _ e3⟩⟩
theorem HandAt.ntup {h b:Addr} {H:Hp} {xs:List V} (x:HandAt H h) (e:H b=some (.tup xs)):b≠h:=by
 obtain ⟨l,ns,o,e1,⟨_,_,_,_,_,rfl,_⟩,_⟩:=x
 exact ne_of e e1 (by intro z;cases z)
def stepF (ps:List (List Int)) (m:Int):List (List Int):=ps++ps.map (· ++ [m])
def subsF (x:List Int):List (List Int):=x.foldl stepF [[]]
theorem subsF_snoc (x:List Int) (m:Int):subsF (x++[m])=stepF (subsF x) m:=by unfold subsF;rw [List.foldl_append];rfl
theorem subsF_len (x:List Int):(subsF x).length=2 ^ x.length:=by
 have:∀(x:List Int) (ps:List (List Int)),(x.foldl stepF ps).length=ps.length * 2 ^ x.length:=fun x=>by
  induction x with
  | nil=>intro ps;simp
  | cons m x ih=>
   intro ps
   rw [List.foldl_cons,ih,List.length_cons,Nat.pow_succ]
   unfold stepF
   rw [List.length_append,List.length_map,Nat.mul_comm (2 ^ x.length) 2,<-Nat.mul_assoc]
   congr 1
   lia
 unfold subsF
 rw [this];simp
theorem subsF_mem_len {x t:List Int} (h:t∈subsF x):t.length<=x.length:=by
 have:∀(x:List Int) (n:Nat) (ps:List (List Int)),(∀p∈ps,p.length<=n)->∀t∈x.foldl stepF ps,t.length<=n+x.length:=fun x=>by
  induction x with
  | nil=>intro n ps h t ht;exact h t ht
  | cons m x ih=>
   intro n ps h t ht
   rw [List.foldl_cons] at ht
   have:=ih (n+1) _ (fun p hp=>?_) t ht
   ·rw [List.length_cons];lia
   ·unfold stepF at hp
    rcases List.mem_append.mp hp with hp | hp
    ·have:=h p hp;lia
    ·obtain ⟨c,hc,rfl⟩:=List.mem_map.mp hp
     have:=h c hc
     rw [List.length_append];simp;lia
 have:=this x 0 [[]] (by simp) t h
 lia
theorem pow_le10 {n:Nat} (h:n<=10):2 ^ n<=1024:=Nat.le_trans (Nat.pow_le_pow_right (by decide) h) (by decide)
theorem Dr.sets {h:Addr} {H H':Hp} {bs:List Addr} {ts:List (List Int)} (hd:HandAt H h) (d:Dr h H H') (s:SetsAt H bs ts):SetsAt H' bs ts:=s.mono fun b xs e=>d.keep _ _ (hd.ntup e) e
theorem eraseIdx_map' {α β:Type} (f:α->β):∀(l:List α) (k:Nat),(l.map f).eraseIdx k=(l.eraseIdx k).map f
 | [],_=>rfl
 | _::_,0=>rfl
 | x::l,k+1=>by
  show f x::(l.map f).eraseIdx k=f x::(l.eraseIdx k).map f
  rw [eraseIdx_map' f l k]
end L2
end
section
namespace L2
open PySem
abbrev cut (n:Int) (s:List Int):List Int:=s.filter fun m=>decide (m≠n)
theorem mem_subsF_of:∀(k:Nat) {U x:List Int},U.length=k->Rise U->Rise x->(∀m∈x,m∈U)->x∈subsF U
 | 0,U,x,hk,_,_,h=>by
  have:U=[]:=List.length_eq_zero_iff.mp hk
  subst this
  have:x=[]:=by
   cases x with
   | nil=>rfl
   | cons a x=>exact absurd (h a List.mem_cons_self) (by simp)
  subst this
  simp [subsF]
 | k+1,U,x,hk,rU,rx,h=>by
  have hne:U≠[]:=fun e=>by rw [e] at hk;simp at hk
  obtain ⟨V,u,rfl⟩:∃V u,U=V++[u]:=⟨U.dropLast,U.getLast hne,(List.dropLast_concat_getLast hne).symm⟩
  have rU':=List.pairwise_append.mp rU
  rw [List.length_append] at hk
  rw [subsF_snoc,stepF,List.mem_append]
  by_cases hu:u∈x
  ·right
   have hne2:x≠[]:=fun e=>by rw [e] at hu;cases hu
   obtain ⟨y,v,rfl⟩:∃y v,x=y++[v]:=⟨x.dropLast,x.getLast hne2,(List.dropLast_concat_getLast hne2).symm⟩
   have ry:=List.pairwise_append.mp rx
   have ev:v=u:=by
    rcases List.mem_append.mp (h v (by simp)) with a | a
    ·rcases List.mem_append.mp hu with b | b
     ·have:=ry.2.2 u b v (by simp)
      have:=rU'.2.2 v a u (by simp)
      omega
     ·exact (List.mem_singleton.mp b).symm
    ·exact List.mem_singleton.mp a
   subst ev
   refine List.mem_map.mpr ⟨y,mem_subsF_of k (by simpa using hk) rU'.1 ry.1 (fun m hm=>?_),rfl⟩
   rcases List.mem_append.mp (h m (List.mem_append_left _ hm)) with a | a
   ·exact a
   ·have:=ry.2.2 m hm v (by simp)
    rw [List.mem_singleton.mp a] at this
    omega
  ·left
   refine mem_subsF_of k (by simpa using hk) rU'.1 rx fun m hm=>?_
   rcases List.mem_append.mp (h m hm) with a | a
   ·exact a
   ·exact absurd (by rw [<-List.mem_singleton.mp a];exact hm) hu
end L2
end
section
namespace L2
open PySem
theorem get_inj {ms:List Int} (r:Rise ms) {i j:Nat} (hi:i < ms.length) (hj:j < ms.length) (e:ms.getD i 0=ms.getD j 0):i=j:=by
 rcases Nat.lt_trichotomy i j with z | z | z
 ·have:=rise_get r z hj;omega
 ·exact z
 ·have:=rise_get r z hi;omega
theorem byF_at {ms:List Int} {k j:Nat} (r:Rise ms) (hj:j < ms.length):ms.getD j 0∈byF ms k↔k.testBit j=true:=by
 constructor
 ·intro h
  obtain ⟨i,h1,h2,h3⟩:=byN_mem.mp h
  rw [get_inj r hj h1 h3];exact h2
 ·intro h
  exact byN_mem.mpr ⟨j,hj,h,rfl⟩
theorem mask_of {ms:List Int} (p:Nat->Bool):∀n:Nat,∃m,m < 2 ^ n/\∀j,m.testBit j=(p j && decide (j < n))
 | 0=>⟨0,by simp,fun j=>by simp⟩
 | n+1=>by
  obtain ⟨m,h1,h2⟩:=mask_of (ms:=ms) p n
  have h3:m < 2 ^ (n+1):=Nat.lt_of_lt_of_le h1 (Nat.pow_le_pow_right (by decide) (by omega))
  cases e:p n with
  | false=>
   refine ⟨m,h3,fun j=>?_⟩
   rw [h2]
   by_cases c:j=n
   ·subst c;simp [e]
   ·have:decide (j < n)=decide (j < n+1):=by rw [Bool.eq_iff_iff,decide_eq_true_eq,decide_eq_true_eq];omega
    rw [this]
  | true=>
   refine ⟨m ||| 2 ^ n,Nat.or_lt_two_pow h3 (Nat.pow_lt_pow_right (by decide) (by omega)),fun j=>?_⟩
   rw [Nat.testBit_or,Nat.testBit_two_pow,h2]
   by_cases c:j=n
   ·subst c;simp [e]
   ·have:decide (j < n)=decide (j < n+1):=by rw [Bool.eq_iff_iff,decide_eq_true_eq,decide_eq_true_eq];omega
    rw [this]
    have c':¬n=j:=fun z=>c z.symm
    simp [c']
theorem byF_onto {ms x:List Int} (r:Rise ms) (rx:Rise x) (h:∀m∈x,m∈ms):∃m,m < 2 ^ ms.length/\byF ms m=x:=by
 obtain ⟨m,h1,h2⟩:=mask_of (ms:=ms) (fun j=>decide (ms.getD j 0∈x)) ms.length
 refine ⟨m,h1,rise_eq (byF_rise r) rx fun z=>?_⟩
 constructor
 ·intro hz
  obtain ⟨j,hj,h3,rfl⟩:=byN_mem.mp hz
  rw [h2] at h3
  simpa [hj] using h3
 ·intro hz
  obtain ⟨j,hj,rfl⟩:=List.mem_iff_getElem.mp (h z hz)
  have e:ms.getD j 0=ms[j]:=by rw [List.getD_eq_getElem?_getD,List.getElem?_eq_getElem hj];rfl
  rw [<-e]
  refine (byF_at r hj).mpr ?_
  rw [h2,e]
  simp [hj,hz]
end L2
end
section
namespace L2
open PySem
end L2
end
section
namespace L2
structure Nx (P R:St->Hp->Prop):Prop where
 to:∀σ H,P σ H->R σ H
theorem seq_op {t u:TS} {D:Ends} {σ:St} {H:Hp} (h:∀R:St->Hp->Prop,Nx (u D) R->t { D with nx:=R } σ H):tSeq t u D σ H:=h (u D) ⟨fun _ _ z=>z⟩
end L2
end
section
namespace L2
open PySem PySem.Spec PyProof.Rows
section
variable {X:Cx} {o e value:Expr} {f:Str} {pos pos':Pos} {ta tv:TE}
theorem zpe_fld (he:ZE X e ta) (hb:attributeBase e f X.env (eval e X.env)=eval e X.env):ZE X (.Attribute e f pos) (tFld X.K ta f):=⟨pe_fld he.to hb⟩
theorem zps_fld (ha:ZE X o ta) (hv:ZE X value tv) (hs:swapsWith value (some (.Attribute o f pos')) pos.line X.env=pure false):ZS X (.Assign [.Attribute o f pos'] value pos) (sFld X.K ta tv f):=⟨ps_fld ha.to hv.to hs⟩
end
section
variable {X:Cx} {CX:CXT} {k:Nat} {f C:Addr} {fd:FuncData} {ps:List Str} {sp:Sp} {dvs:List V} {ds:List Value} {E:XK} {x m:Str} {p pos apos:Pos} {e o:Expr} {es:List Expr} {ta:TE} {t:TA}
theorem zpe_meth {pl:Sem Bool} (he:ZE X o ta) (c:Cls X.K C) (hm:Meth X.K C m f) (F:FnOk X.prog X.w X.K X.mg X.base CX k f fd ps sp) (hr:Room k X.A) (hb:Binds X.K fd ps ds) (hd:Vals dvs ds) (hx:Passes CX X E) (ha:ZA X (e::es) t)
  (hst:starEach (e::es) X.env=(false,eval e X.env)::starEach es X.env:=by rfl) (hpl:(backTo pos (starEach es X.env)).any (·.1)=false:=by rfl)
  (ht:eval (.Call (.Attribute o m apos) (e::es) [] pos) X.env=(do
   let ov <-eval o X.env
   standAt apos.atName
   let (f,first) <-holding [ov] (getMethod ov m pl)
   callWith pos f first (backTo pos (starEach (e::es) X.env)) (backToKw pos (keywordEach [] X.env))):=by rfl) :
  ZE X (.Call (.Attribute o m apos) (e::es) [] pos) (tMeth C m sp dvs E ta t):=⟨pe_meth he.to c hm F hr hb hd hx ha.to hst hpl ht⟩
theorem zpe_make (M:Mk X.K C f) (F:FnOk X.prog X.w X.K X.mg X.base CX k f fd ps sp) (hr:Room (k+1) X.A) (hg:Gl X x) (hm:X.mg x=some (.ref C)) (hb:Binds X.K fd ps ds) (hd:Vals dvs ds) (hx:Passes CX X E)
  (ha:ZA X (e::es) t) (hdb:(x == ("__debug__" : Str))=false:=by decide) (he:starEach (e::es) X.env=(false,eval e X.env)::starEach es X.env:=by rfl) (hpl:(backTo pos (starEach es X.env)).any (·.1)=false:=by rfl) :
  ZE X (.Call (.Name x p) (e::es) [] pos) (tMake C sp dvs E t):=⟨pe_make M F hr hg hm hb hd hx ha.to hdb he hpl⟩
end
end L2
end
section
namespace L2
open PySem PySem.Spec PyProof.Rows
def FamsAt (H:Hp) (ps:List Addr) (fs:List (List (List Int))):Prop:=ps.length=fs.length/\∀(i:Nat) p f,ps[i]? = some p->fs[i]? = some f->∃bs,H p=some (.lst (List.map V.ref bs))/\SetsAt H bs f
section
variable {X:Cx} {pins:List (Addr×Obj)} {s:Shared} {σ:St} {H:Hp} {A:Around}
def qEqFL (neg:Bool):R2:=fun x y H Q=>∃a b,x=.ref a/\y=.ref b/\∃ps qs cl dl,H a=some (.lst (List.map V.ref ps))/\H b=some (.lst (List.map V.ref qs))/\FamsAt H ps cl/\FamsAt H qs dl/\Q (.bl (if neg then !decide (cl=dl) else decide (cl=dl))) H
end
end L2
end
namespace My
open PySem L2
def top (i:Nat):Stmt:=PySem.Challenge.pw_truceroll_k47_first_open_part.main.body.getD i (.Pass ⟨0,0,0,0⟩)
abbrev s_is_whole_number:Stmt:=top 1
abbrev s_is_worded:Stmt:=top 2
abbrev s_each_once_in_order:Stmt:=top 3
abbrev s_order_of:Stmt:=top 4
abbrev s_is_set:Stmt:=top 6
abbrev s_is_part:Stmt:=top 7
abbrev s_in_order:Stmt:=top 8
abbrev s_holds_one_of:Stmt:=top 9
abbrev s_lies_in_one_of:Stmt:=top 10
abbrev s_rest_of:Stmt:=top 11
abbrev s_parts_of:Stmt:=top 12
abbrev s_is_tree:Stmt:=top 14
abbrev s_tree_of:Stmt:=top 16
abbrev s_tree_from:Stmt:=top 17
abbrev s__law_hand:Stmt:=top 19
abbrev s__law_next:Stmt:=top 20
abbrev s__law_take:Stmt:=top 21
abbrev s__law_draw:Stmt:=top 22
abbrev s__law_is_whole:Stmt:=top 23
abbrev s__law_is_set:Stmt:=top 24
abbrev s__law_members:Stmt:=top 25
abbrev s__law_by:Stmt:=top 26
abbrev s__law_masks:Stmt:=top 27
abbrev s__law_ahead:Stmt:=top 28
abbrev s__law_greatest:Stmt:=top 31
abbrev s__law_pair:Stmt:=top 32
abbrev s__law_lists:Stmt:=top 33
abbrev s__law_good:Stmt:=top 34
abbrev s__law_first:Stmt:=top 35
abbrev s__law_answer:Stmt:=top 36
abbrev s_law:Stmt:=top 37
abbrev nm_is_whole_number:List Str:=["thing"]
abbrev nm_is_worded:List Str:=["thing","word","many"]
abbrev nm_each_once_in_order:List Str:=["tuples","each","one"]
abbrev nm_order_of:List Str:=["one"]
abbrev nm_is_set:List Str:=["thing"]
abbrev nm_is_part:List Str:=["one","other","member"]
abbrev nm_in_order:List Str:=["family"]
abbrev nm_holds_one_of:List Str:=["part","family","one"]
abbrev nm_lies_in_one_of:List Str:=["part","family","one"]
abbrev nm_rest_of:List Str:=["whole","part"]
abbrev nm_parts_of:List Str:=["whole","parts","member"]
abbrev nm_is_tree:List Str:=["whole","clashes","peaces","thing"]
abbrev nm_tree_of:List Str:=["whole","clashes","peaces","part"]
abbrev nm_tree_from:List Str:=["unasked","clashes","peaces","clash","peace","member","one","other"]
abbrev nm__law_hand:List Str:=["_law_script"]
abbrev nm__law_next:List Str:=["_law_hand_here"]
abbrev nm__law_take:List Str:=["_law_hand_here","_law_cell"]
abbrev nm__law_draw:List Str:=["_law_hand_here","_law_many","_law_got","_law_value","_law_size"]
abbrev nm__law_is_whole:List Str:=["_law_thing"]
abbrev nm__law_is_set:List Str:=["_law_thing"]
abbrev nm__law_members:List Str:=["_law_hand_here","_law_many","_law_size","_law_step","_law_at","_law_row","_law_k"]
abbrev nm__law_by:List Str:=["_law_members_here","_law_mask"]
abbrev nm__law_masks:List Str:=["_law_hand_here","_law_many","_law_most","_law_masks_here","_law_k","_law_way","_law_mask"]
abbrev nm__law_ahead:List Str:=["_law_one","_law_other","_law_k"]
abbrev nm__law_greatest:List Str:=["_law_masks_here"]
abbrev nm__law_pair:List Str:=["_law_hand_here","_law_many","_law_worlds","_law_peaces","_law_clashes","_law_mask"]
abbrev nm__law_lists:List Str:=["_law_hand_here","_law_members_here","_law_masks_here","_law_sets","_law_mixed"]
abbrev nm__law_good:List Str:=["_law_whole","_law_clashes","_law_peaces","_law_thing","_law_held","_law_lacked","_law_out"]
abbrev nm__law_first:List Str:=["_law_members_here","_law_clashes","_law_peaces","_law_first_here","_law_mask","_law_part","_law_held"]
abbrev nm__law_answer:List Str:=["_law_members_here","_law_clashes","_law_peaces","_law_whole","_law_told","_law_due"]
abbrev nm_law:List Str:=["_law_script","_law_hand_here","_law_many","_law_members_here","_law_some","_law_others","_law_clashes","_law_peaces","_law_share","_law_fewer","_law_less","_law_k","_law_due"]
def inCls (s:Stmt) (j:Nat):Stmt:=match s with
 | .ClassDef _ _ _ b _ _ _ _ _ _ _=>b.getD j (.Pass ⟨0,0,0,0⟩)
 | _=>.Pass ⟨0,0,0,0⟩
abbrev s_TreeReader___init__:Stmt:=inCls (top 15) 0
abbrev nm_TreeReader___init__:List Str:=["self","whole","clashes","peaces"]
abbrev s_TreeReader_lets_by:Stmt:=inCls (top 15) 1
abbrev nm_TreeReader_lets_by:List Str:=["self","thing","held","lacked","member"]
structure Adr where
 a_is_whole_number:Addr
 d_is_whole_number:FuncData
 a_is_worded:Addr
 d_is_worded:FuncData
 a_each_once_in_order:Addr
 d_each_once_in_order:FuncData
 a_order_of:Addr
 d_order_of:FuncData
 a_is_set:Addr
 d_is_set:FuncData
 a_is_part:Addr
 d_is_part:FuncData
 a_in_order:Addr
 d_in_order:FuncData
 a_holds_one_of:Addr
 d_holds_one_of:FuncData
 a_lies_in_one_of:Addr
 d_lies_in_one_of:FuncData
 a_rest_of:Addr
 d_rest_of:FuncData
 a_parts_of:Addr
 d_parts_of:FuncData
 a_is_tree:Addr
 d_is_tree:FuncData
 a_tree_of:Addr
 d_tree_of:FuncData
 a_tree_from:Addr
 d_tree_from:FuncData
 a__law_hand:Addr
 d__law_hand:FuncData
 a__law_next:Addr
 d__law_next:FuncData
 a__law_take:Addr
 d__law_take:FuncData
 a__law_draw:Addr
 d__law_draw:FuncData
 a__law_is_whole:Addr
 d__law_is_whole:FuncData
 a__law_is_set:Addr
 d__law_is_set:FuncData
 a__law_members:Addr
 d__law_members:FuncData
 a__law_by:Addr
 d__law_by:FuncData
 a__law_masks:Addr
 d__law_masks:FuncData
 a__law_ahead:Addr
 d__law_ahead:FuncData
 a__law_greatest:Addr
 d__law_greatest:FuncData
 a__law_pair:Addr
 d__law_pair:FuncData
 a__law_lists:Addr
 d__law_lists:FuncData
 a__law_good:Addr
 d__law_good:FuncData
 a__law_first:Addr
 d__law_first:FuncData
 a__law_answer:Addr
 d__law_answer:FuncData
 a_law:Addr
 d_law:FuncData
 c_TreeReader:Addr
 a_TreeReader___init__:Addr
 d_TreeReader___init__:FuncData
 a_TreeReader_lets_by:Addr
 d_TreeReader_lets_by:FuncData
structure Txt (K:PySem.W.Frag) (mg:Str->Option Value) (t:Adr):Prop where
 F_is_whole_number:Fun K "is_whole_number" "is_whole_number" s_is_whole_number t.a_is_whole_number t.d_is_whole_number
 b_is_whole_number:Binds K t.d_is_whole_number ["thing"] []
 m_is_whole_number:mg "is_whole_number" = some (.ref t.a_is_whole_number)
 F_is_worded:Fun K "is_worded" "is_worded" s_is_worded t.a_is_worded t.d_is_worded
 b_is_worded:Binds K t.d_is_worded ["thing","word","many"] []
 m_is_worded:mg "is_worded" = some (.ref t.a_is_worded)
 F_each_once_in_order:Fun K "each_once_in_order" "each_once_in_order" s_each_once_in_order t.a_each_once_in_order t.d_each_once_in_order
 b_each_once_in_order:Binds K t.d_each_once_in_order ["tuples"] []
 m_each_once_in_order:mg "each_once_in_order" = some (.ref t.a_each_once_in_order)
 F_order_of:Fun K "order_of" "order_of" s_order_of t.a_order_of t.d_order_of
 b_order_of:Binds K t.d_order_of ["one"] []
 m_order_of:mg "order_of" = some (.ref t.a_order_of)
 F_is_set:Fun K "is_set" "is_set" s_is_set t.a_is_set t.d_is_set
 b_is_set:Binds K t.d_is_set ["thing"] []
 m_is_set:mg "is_set" = some (.ref t.a_is_set)
 F_is_part:Fun K "is_part" "is_part" s_is_part t.a_is_part t.d_is_part
 b_is_part:Binds K t.d_is_part ["one","other"] []
 m_is_part:mg "is_part" = some (.ref t.a_is_part)
 F_in_order:Fun K "in_order" "in_order" s_in_order t.a_in_order t.d_in_order
 b_in_order:Binds K t.d_in_order ["family"] []
 m_in_order:mg "in_order" = some (.ref t.a_in_order)
 F_holds_one_of:Fun K "holds_one_of" "holds_one_of" s_holds_one_of t.a_holds_one_of t.d_holds_one_of
 b_holds_one_of:Binds K t.d_holds_one_of ["part","family"] []
 m_holds_one_of:mg "holds_one_of" = some (.ref t.a_holds_one_of)
 F_lies_in_one_of:Fun K "lies_in_one_of" "lies_in_one_of" s_lies_in_one_of t.a_lies_in_one_of t.d_lies_in_one_of
 b_lies_in_one_of:Binds K t.d_lies_in_one_of ["part","family"] []
 m_lies_in_one_of:mg "lies_in_one_of" = some (.ref t.a_lies_in_one_of)
 F_rest_of:Fun K "rest_of" "rest_of" s_rest_of t.a_rest_of t.d_rest_of
 b_rest_of:Binds K t.d_rest_of ["whole","part"] []
 m_rest_of:mg "rest_of" = some (.ref t.a_rest_of)
 F_parts_of:Fun K "parts_of" "parts_of" s_parts_of t.a_parts_of t.d_parts_of
 b_parts_of:Binds K t.d_parts_of ["whole"] []
 m_parts_of:mg "parts_of" = some (.ref t.a_parts_of)
 F_is_tree:Fun K "is_tree" "is_tree" s_is_tree t.a_is_tree t.d_is_tree
 b_is_tree:Binds K t.d_is_tree ["whole","clashes","peaces","thing"] []
 m_is_tree:mg "is_tree" = some (.ref t.a_is_tree)
 F_tree_of:Fun K "tree_of" "tree_of" s_tree_of t.a_tree_of t.d_tree_of
 b_tree_of:Binds K t.d_tree_of ["whole","clashes","peaces"] []
 m_tree_of:mg "tree_of" = some (.ref t.a_tree_of)
 F_tree_from:Fun K "tree_from" "tree_from" s_tree_from t.a_tree_from t.d_tree_from
 b_tree_from:Binds K t.d_tree_from ["unasked","clashes","peaces"] []
 m_tree_from:mg "tree_from" = some (.ref t.a_tree_from)
 F__law_hand:Fun K "_law_hand" "_law_hand" s__law_hand t.a__law_hand t.d__law_hand
 b__law_hand:Binds K t.d__law_hand ["_law_script"] []
 m__law_hand:mg "_law_hand" = some (.ref t.a__law_hand)
 F__law_next:Fun K "_law_next" "_law_next" s__law_next t.a__law_next t.d__law_next
 b__law_next:Binds K t.d__law_next ["_law_hand_here"] []
 m__law_next:mg "_law_next" = some (.ref t.a__law_next)
 F__law_take:Fun K "_law_take" "_law_take" s__law_take t.a__law_take t.d__law_take
 b__law_take:Binds K t.d__law_take ["_law_hand_here"] []
 m__law_take:mg "_law_take" = some (.ref t.a__law_take)
 F__law_draw:Fun K "_law_draw" "_law_draw" s__law_draw t.a__law_draw t.d__law_draw
 b__law_draw:Binds K t.d__law_draw ["_law_hand_here","_law_many"] []
 m__law_draw:mg "_law_draw" = some (.ref t.a__law_draw)
 F__law_is_whole:Fun K "_law_is_whole" "_law_is_whole" s__law_is_whole t.a__law_is_whole t.d__law_is_whole
 b__law_is_whole:Binds K t.d__law_is_whole ["_law_thing"] []
 m__law_is_whole:mg "_law_is_whole" = some (.ref t.a__law_is_whole)
 F__law_is_set:Fun K "_law_is_set" "_law_is_set" s__law_is_set t.a__law_is_set t.d__law_is_set
 b__law_is_set:Binds K t.d__law_is_set ["_law_thing"] []
 m__law_is_set:mg "_law_is_set" = some (.ref t.a__law_is_set)
 F__law_members:Fun K "_law_members" "_law_members" s__law_members t.a__law_members t.d__law_members
 b__law_members:Binds K t.d__law_members ["_law_hand_here","_law_many"] []
 m__law_members:mg "_law_members" = some (.ref t.a__law_members)
 F__law_by:Fun K "_law_by" "_law_by" s__law_by t.a__law_by t.d__law_by
 b__law_by:Binds K t.d__law_by ["_law_members_here","_law_mask"] []
 m__law_by:mg "_law_by" = some (.ref t.a__law_by)
 F__law_masks:Fun K "_law_masks" "_law_masks" s__law_masks t.a__law_masks t.d__law_masks
 b__law_masks:Binds K t.d__law_masks ["_law_hand_here","_law_many","_law_most"] []
 m__law_masks:mg "_law_masks" = some (.ref t.a__law_masks)
 F__law_ahead:Fun K "_law_ahead" "_law_ahead" s__law_ahead t.a__law_ahead t.d__law_ahead
 b__law_ahead:Binds K t.d__law_ahead ["_law_one","_law_other"] []
 m__law_ahead:mg "_law_ahead" = some (.ref t.a__law_ahead)
 F__law_greatest:Fun K "_law_greatest" "_law_greatest" s__law_greatest t.a__law_greatest t.d__law_greatest
 b__law_greatest:Binds K t.d__law_greatest ["_law_masks_here"] []
 m__law_greatest:mg "_law_greatest" = some (.ref t.a__law_greatest)
 F__law_pair:Fun K "_law_pair" "_law_pair" s__law_pair t.a__law_pair t.d__law_pair
 b__law_pair:Binds K t.d__law_pair ["_law_hand_here","_law_many"] []
 m__law_pair:mg "_law_pair" = some (.ref t.a__law_pair)
 F__law_lists:Fun K "_law_lists" "_law_lists" s__law_lists t.a__law_lists t.d__law_lists
 b__law_lists:Binds K t.d__law_lists ["_law_hand_here","_law_members_here","_law_masks_here"] []
 m__law_lists:mg "_law_lists" = some (.ref t.a__law_lists)
 F__law_good:Fun K "_law_good" "_law_good" s__law_good t.a__law_good t.d__law_good
 b__law_good:Binds K t.d__law_good ["_law_whole","_law_clashes","_law_peaces","_law_thing","_law_held","_law_lacked"] []
 m__law_good:mg "_law_good" = some (.ref t.a__law_good)
 F__law_first:Fun K "_law_first" "_law_first" s__law_first t.a__law_first t.d__law_first
 b__law_first:Binds K t.d__law_first ["_law_members_here","_law_clashes","_law_peaces"] []
 m__law_first:mg "_law_first" = some (.ref t.a__law_first)
 F__law_answer:Fun K "_law_answer" "_law_answer" s__law_answer t.a__law_answer t.d__law_answer
 b__law_answer:Binds K t.d__law_answer ["_law_members_here","_law_clashes","_law_peaces"] []
 m__law_answer:mg "_law_answer" = some (.ref t.a__law_answer)
 F_law:Fun K "law" "law" s_law t.a_law t.d_law
 b_law:Binds K t.d_law ["_law_script"] []
 m_law:mg "law" = some (.ref t.a_law)
 z_abs:mg "abs" = none
 z_all:mg "all" = none
 z_any:mg "any" = none
 z_bool:mg "bool" = none
 z_int:mg "int" = none
 z_isinstance:mg "isinstance" = none
 z_len:mg "len" = none
 z_list:mg "list" = none
 z_range:mg "range" = none
 z_sorted:mg "sorted" = none
 z_str:mg "str" = none
 z_tuple:mg "tuple" = none
 m_TreeReader:mg "TreeReader" = some (.ref t.c_TreeReader)
 cl_TreeReader:Cls K t.c_TreeReader
 na_TreeReader_whole:NoAttr K t.c_TreeReader "whole"
 na_TreeReader_clash_list:NoAttr K t.c_TreeReader "clash_list"
 na_TreeReader_peace_list:NoAttr K t.c_TreeReader "peace_list"
 mk_TreeReader:Mk K t.c_TreeReader t.a_TreeReader___init__
 F_TreeReader___init__:Fun K "__init__" "TreeReader.__init__" s_TreeReader___init__ t.a_TreeReader___init__ t.d_TreeReader___init__
 b_TreeReader___init__:Binds K t.d_TreeReader___init__ ["self","whole","clashes","peaces"] []
 F_TreeReader_lets_by:Fun K "lets_by" "TreeReader.lets_by" s_TreeReader_lets_by t.a_TreeReader_lets_by t.d_TreeReader_lets_by
 b_TreeReader_lets_by:Binds K t.d_TreeReader_lets_by ["self","thing","held","lacked"] []
 mt_TreeReader_lets_by:Meth K t.c_TreeReader "lets_by" t.a_TreeReader_lets_by
theorem sc_TreeReader___init__:FnScope nm_TreeReader___init__ ["self","whole","clashes","peaces"] (defScope s_TreeReader___init__):=⟨rfl,rfl,rfl,by decide +kernel,rfl,by decide +kernel,by decide +kernel⟩
theorem sc_TreeReader_lets_by:FnScope nm_TreeReader_lets_by ["self","thing","held","lacked"] (defScope s_TreeReader_lets_by):=⟨rfl,rfl,rfl,by decide +kernel,rfl,by decide +kernel,by decide +kernel⟩
theorem sc_is_whole_number:FnScope nm_is_whole_number ["thing"] (defScope s_is_whole_number):=⟨rfl,rfl,rfl,by decide +kernel,rfl,by decide +kernel,by decide +kernel⟩
theorem sc_is_worded:FnScope nm_is_worded ["thing","word","many"] (defScope s_is_worded):=⟨rfl,rfl,rfl,by decide +kernel,rfl,by decide +kernel,by decide +kernel⟩
theorem sc_each_once_in_order:FnScope nm_each_once_in_order ["tuples"] (defScope s_each_once_in_order):=⟨rfl,rfl,rfl,by decide +kernel,rfl,by decide +kernel,by decide +kernel⟩
theorem sc_order_of:FnScope nm_order_of ["one"] (defScope s_order_of):=⟨rfl,rfl,rfl,by decide +kernel,rfl,by decide +kernel,by decide +kernel⟩
theorem sc_is_set:FnScope nm_is_set ["thing"] (defScope s_is_set):=⟨rfl,rfl,rfl,by decide +kernel,rfl,by decide +kernel,by decide +kernel⟩
theorem sc_is_part:FnScope nm_is_part ["one","other"] (defScope s_is_part):=⟨rfl,rfl,rfl,by decide +kernel,rfl,by decide +kernel,by decide +kernel⟩
theorem sc_in_order:FnScope nm_in_order ["family"] (defScope s_in_order):=⟨rfl,rfl,rfl,by decide +kernel,rfl,by decide +kernel,by decide +kernel⟩
theorem sc_holds_one_of:FnScope nm_holds_one_of ["part","family"] (defScope s_holds_one_of):=⟨rfl,rfl,rfl,by decide +kernel,rfl,by decide +kernel,by decide +kernel⟩
theorem sc_lies_in_one_of:FnScope nm_lies_in_one_of ["part","family"] (defScope s_lies_in_one_of):=⟨rfl,rfl,rfl,by decide +kernel,rfl,by decide +kernel,by decide +kernel⟩
theorem sc_rest_of:FnScope nm_rest_of ["whole","part"] (defScope s_rest_of):=⟨rfl,rfl,rfl,by decide +kernel,rfl,by decide +kernel,by decide +kernel⟩
theorem sc_parts_of:FnScope nm_parts_of ["whole"] (defScope s_parts_of):=⟨rfl,rfl,rfl,by decide +kernel,rfl,by decide +kernel,by decide +kernel⟩
theorem sc_is_tree:FnScope nm_is_tree ["whole","clashes","peaces","thing"] (defScope s_is_tree):=⟨rfl,rfl,rfl,by decide +kernel,rfl,by decide +kernel,by decide +kernel⟩
theorem sc_tree_of:FnScope nm_tree_of ["whole","clashes","peaces"] (defScope s_tree_of):=⟨rfl,rfl,rfl,by decide +kernel,rfl,by decide +kernel,by decide +kernel⟩
theorem sc_tree_from:FnScope nm_tree_from ["unasked","clashes","peaces"] (defScope s_tree_from):=⟨rfl,rfl,rfl,by decide +kernel,rfl,by decide +kernel,by decide +kernel⟩
theorem sc__law_hand:FnScope nm__law_hand ["_law_script"] (defScope s__law_hand):=⟨rfl,rfl,rfl,by decide +kernel,rfl,by decide +kernel,by decide +kernel⟩
theorem sc__law_next:FnScope nm__law_next ["_law_hand_here"] (defScope s__law_next):=⟨rfl,rfl,rfl,by decide +kernel,rfl,by decide +kernel,by decide +kernel⟩
theorem sc__law_take:FnScope nm__law_take ["_law_hand_here"] (defScope s__law_take):=⟨rfl,rfl,rfl,by decide +kernel,rfl,by decide +kernel,by decide +kernel⟩
theorem sc__law_draw:FnScope nm__law_draw ["_law_hand_here","_law_many"] (defScope s__law_draw):=⟨rfl,rfl,rfl,by decide +kernel,rfl,by decide +kernel,by decide +kernel⟩
theorem sc__law_is_whole:FnScope nm__law_is_whole ["_law_thing"] (defScope s__law_is_whole):=⟨rfl,rfl,rfl,by decide +kernel,rfl,by decide +kernel,by decide +kernel⟩
theorem sc__law_is_set:FnScope nm__law_is_set ["_law_thing"] (defScope s__law_is_set):=⟨rfl,rfl,rfl,by decide +kernel,rfl,by decide +kernel,by decide +kernel⟩
theorem sc__law_members:FnScope nm__law_members ["_law_hand_here","_law_many"] (defScope s__law_members):=⟨rfl,rfl,rfl,by decide +kernel,rfl,by decide +kernel,by decide +kernel⟩
theorem sc__law_by:FnScope nm__law_by ["_law_members_here","_law_mask"] (defScope s__law_by):=⟨rfl,rfl,rfl,by decide +kernel,rfl,by decide +kernel,by decide +kernel⟩
theorem sc__law_masks:FnScope nm__law_masks ["_law_hand_here","_law_many","_law_most"] (defScope s__law_masks):=⟨rfl,rfl,rfl,by decide +kernel,rfl,by decide +kernel,by decide +kernel⟩
theorem sc__law_ahead:FnScope nm__law_ahead ["_law_one","_law_other"] (defScope s__law_ahead):=⟨rfl,rfl,rfl,by decide +kernel,rfl,by decide +kernel,by decide +kernel⟩
theorem sc__law_greatest:FnScope nm__law_greatest ["_law_masks_here"] (defScope s__law_greatest):=⟨rfl,rfl,rfl,by decide +kernel,rfl,by decide +kernel,by decide +kernel⟩
theorem sc__law_pair:FnScope nm__law_pair ["_law_hand_here","_law_many"] (defScope s__law_pair):=⟨rfl,rfl,rfl,by decide +kernel,rfl,by decide +kernel,by decide +kernel⟩
theorem sc__law_lists:FnScope nm__law_lists ["_law_hand_here","_law_members_here","_law_masks_here"] (defScope s__law_lists):=⟨rfl,rfl,rfl,by decide +kernel,rfl,by decide +kernel,by decide +kernel⟩
theorem sc__law_good:FnScope nm__law_good ["_law_whole","_law_clashes","_law_peaces","_law_thing","_law_held","_law_lacked"] (defScope s__law_good):=⟨rfl,rfl,rfl,by decide +kernel,rfl,by decide +kernel,by decide +kernel⟩
theorem sc__law_first:FnScope nm__law_first ["_law_members_here","_law_clashes","_law_peaces"] (defScope s__law_first):=⟨rfl,rfl,rfl,by decide +kernel,rfl,by decide +kernel,by decide +kernel⟩
theorem sc__law_answer:FnScope nm__law_answer ["_law_members_here","_law_clashes","_law_peaces"] (defScope s__law_answer):=⟨rfl,rfl,rfl,by decide +kernel,rfl,by decide +kernel,by decide +kernel⟩
theorem sc_law:FnScope nm_law ["_law_script"] (defScope s_law):=⟨rfl,rfl,rfl,by decide +kernel,rfl,by decide +kernel,by decide +kernel⟩
theorem b_abs:bootBuiltins "abs" = some (.builtin "abs"):=by decide +kernel
theorem b_all:bootBuiltins "all" = some (.builtin "all"):=by decide +kernel
theorem b_any:bootBuiltins "any" = some (.builtin "any"):=by decide +kernel
theorem b_bool:bootBuiltins "bool" = some (.type "bool"):=by decide +kernel
theorem b_int:bootBuiltins "int" = some (.type "int"):=by decide +kernel
theorem b_isinstance:bootBuiltins "isinstance" = some (.builtin "isinstance"):=by decide +kernel
theorem b_len:bootBuiltins "len" = some (.builtin "len"):=by decide +kernel
theorem b_list:bootBuiltins "list" = some (.type "list"):=by decide +kernel
theorem b_sorted:bootBuiltins "sorted" = some (.builtin "sorted"):=by decide +kernel
theorem b_str:bootBuiltins "str" = some (.type "str"):=by decide +kernel
theorem b_tuple:bootBuiltins "tuple" = some (.type "tuple"):=by decide +kernel
local macro_rules | `(tactic| walk_at "rd") => `(tactic| walk_at "rc")
local macro_rules | `(tactic| walk_at "rl") => `(tactic| first | (refine seq_op fun R hR => ?_) | walk_at "ry" | (refine Nx.to (by assumption) _ _ ?_))
local macro_rules | `(tactic| walk_at "rc") => do
  let ids := ("L2.start tSeq tNext tIfS tTest tB tOp tUn tVar tC tAsg gName gTup gCons gNil qEqFL gSub tRet tRetN tDrop tCall tCons tNil tCB tTxtsL tDNewK tLst tTup rI0 rI rU rEq rNe scal tAugS ipI qIxL qIxT qIxS qSlL qSlT qSlT2 qLenL qLenT qListL qListT qTupleL qListD qDictD qSorted qSetS qSortSet qAllB qEqD rUpdateD tNever qJoin qInL qInT qInS qEqL qIsi qSet tSl tPart tNoPart rSlS tBM tBM0 rAppend rExtend rReverse rClear rClearD rPopAt rCat tRev tAnd tOr tNot tAndV tOrV tNotV tIf List.map_cons List.map_nil List.cons_append List.nil_append List.append_nil List.length_cons List.length_nil List.replicate List.getElem?_cons_zero List.getElem?_cons_succ List.set_cons_zero List.set_cons_succ Nat.reduceAdd Nat.reduceSub Nat.reduceLeDiff Option.some.injEq V.int.injEq V.ref.injEq V.str.injEq V.bl.injEq V.ty.injEq List.cons.injEq HO.lst.injEq HO.tup.injEq HO.dK.injEq exists_eq_left exists_eq_left' exists_and_left and_true true_and and_assoc exists_const reduceCtorEq upd_same upd_upd decide_eq_true_eq List.length_map ite_true ite_false Bool.false_eq_true Bool.true_and Bool.and_true atI_0 atI_1 atI_2 atI_3 atI_4 atI_5 ixN6_1 ixN6_2 ixN6_3 ixN6_4 ixN6_5 cmul1 cmul2 cmul3 cmul4 cmul5a cmul5b cmul5c cmul5d cpow18 subS Option.join_some Option.join_none tComp_eq tFor_eq iRng1 iRng2 iRng3 qCatT tDNewT tSortK qAnyB qEqTI qEqSL rInsert qIsB rPopAt qSetI qSetIT qSortSetI iList iRev iTup tyV_str tYes Int.zero_add Int.reduceMul Int.reduceAdd Int.reduceSub Int.reduceLT Int.reduceLE Int.reducePow Int.reduceToNat Int.reduceNeg gt_iff_lt ge_iff_le spNext hv tFld sFld tMeth tMake".splitOn " ").toArray.map fun x => Lean.mkIdent x.toName
  `(tactic| simp only [$[$ids:ident],*])
local macro_rules | `(tactic| walk_at "ry") => do
  let ids := ("L2.start tNext tIfS tTest tB tOp tUn tVar tC tAsg gName gTup gCons gNil qEqFL gSub tRet tRetN tDrop tCall tCons tNil tCB tTxtsL tDNewK tLst tTup rI0 rI rU rEq rNe scal tAugS ipI qIxL qIxT qIxS qSlL qSlT qSlT2 qLenL qLenT qListL qListT qTupleL qListD qDictD qSorted qSetS qSortSet qAllB qEqD rUpdateD tNever qJoin qInL qInT qInS qEqL qIsi qSet tSl tPart tNoPart rSlS tBM tBM0 rAppend rExtend rReverse rClear rClearD rPopAt rCat tRev tAnd tOr tNot tAndV tOrV tNotV tIf List.map_cons List.map_nil List.cons_append List.nil_append List.append_nil List.length_cons List.length_nil List.replicate List.getElem?_cons_zero List.getElem?_cons_succ List.set_cons_zero List.set_cons_succ Nat.reduceAdd Nat.reduceSub Nat.reduceLeDiff Option.some.injEq V.int.injEq V.ref.injEq V.str.injEq V.bl.injEq V.ty.injEq List.cons.injEq HO.lst.injEq HO.tup.injEq HO.dK.injEq exists_eq_left exists_eq_left' exists_and_left and_true true_and and_assoc exists_const reduceCtorEq upd_same upd_upd decide_eq_true_eq List.length_map ite_true ite_false Bool.false_eq_true Bool.true_and Bool.and_true atI_0 atI_1 atI_2 atI_3 atI_4 atI_5 ixN6_1 ixN6_2 ixN6_3 ixN6_4 ixN6_5 cmul1 cmul2 cmul3 cmul4 cmul5a cmul5b cmul5c cmul5d cpow18 subS Option.join_some Option.join_none tComp_eq tFor_eq iRng1 iRng2 iRng3 qCatT tDNewT tSortK qAnyB qEqTI qEqSL rInsert qIsB rPopAt qSetI qSetIT qSortSetI iList iRev iTup tyV_str tYes Int.zero_add Int.reduceMul Int.reduceAdd Int.reduceSub Int.reduceLT Int.reduceLE Int.reducePow Int.reduceToNat Int.reduceNeg gt_iff_lt ge_iff_le spNext hv tFld sFld tMeth tMake".splitOn " ").toArray.map fun x => Lean.mkIdent x.toName
  `(tactic| simp only [$[$ids:ident],*])
section
variable {P:Program} {w:World} {K:PySem.W.Frag} {mg:Str->Option Value} {base:Heap} {t:Adr}
theorem ok_order_of (T:Txt K mg t):FnOk P w K mg base CX0 1 t.a_order_of t.d_order_of ["one"] spOrd:=by
 refine T.F_order_of.okZ sc_order_of (fun vs H Q E h=>?_) (fun cdv A outer s H vs Q E hr h hc hf=>?_)
 ·obtain ⟨a,rfl,_⟩:=h;rfl
 obtain ⟨a,rfl,xs,ha,q⟩:=h
 refine ⟨_,(by exact zqss_one (zps_ret (zpe_tup (zpa_cons (zpe_callB call_lenT (glk hc (by decide +kernel)) T.z_len b_len (zpa_cons (zpvk hc 0 (by decide +kernel)) zpa_nil)) (zpa_cons (zpvk hc 0 (by decide +kernel)) zpa_nil))))),?_⟩
 repeat (first | walk_at "rd" | simp only [ha])
 exact ⟨by decide,q⟩
theorem ok_once (T:Txt K mg t):FnOk P w K mg base CX0 4 t.a_each_once_in_order t.d_each_once_in_order ["tuples"] spOnce:=by
 have G_order_of:=ok_order_of (P:=P) (w:=w) (base:=base) T
 refine T.F_each_once_in_order.okZ sc_each_once_in_order (fun vs H Q E h=>?_) (fun cdv A outer s H vs Q E hr h hc hf=>?_)
 ·obtain ⟨a,rfl,_⟩:=h;rfl
 obtain ⟨L,rfl,as,ss,hL,sat,l900,q⟩:=h
 have hu:=hu_of hr
 have hu0:=hr.units0
 refine ⟨_,(by apply zqss_cons;exact (zpsk_set hc sc_each_once_in_order.nd hf 1 (by decide +kernel) zpe_dnewT);apply zqss_cons;exact (zqs_for PassesOwn.never rfl (zpi_list (zpvk hc 0 (by decide +kernel))) (zpgk hc sc_each_once_in_order.nd hf 2 (by decide +kernel)) (by exact zqss_one (zps_dput hu (zpvk hc 1 (by decide +kernel)) (zpvk hc 2 (by decide +kernel)) zpe_bl rfl)));exact zqss_one (zps_ret (zpe_sortK G_order_of (hr.mono (by omega)) (glk hc (by decide +kernel)) T.z_sorted b_sorted (glk hc (by decide +kernel)) T.m_order_of T.b_order_of (zpvk hc 1 (by decide +kernel))))),?_⟩
 repeat (walk_at "rd")
 intro p hp
 have sp:=same_new hp (.dT [])
 have hpL:L≠p:=ne_of_none hL hp
 refine ⟨⟨_,sqL_of (sp _ _ hL)⟩,?_⟩
 obtain ⟨Pv,hPv⟩:∃Pv:Nat->St->Hp->Prop,∀i σ' H',Pv i σ' H'↔∃(x:Option V) (kvs:List (List Key×V)) (vs:List (List Int)),σ'=[some (.ref L),some (.ref p),x]/\H'=upd H p (.dT kvs)/\kvs.map (·.1)=vs.map (List.map Sum.inl)/\vs.Nodup/\∀z,z∈vs↔z∈ss.take i:=⟨_,fun _ _ _=>Iff.rfl⟩
 refine forAll_list (xs:=List.map V.ref as) Pv ((hPv _ _ _).mpr ⟨none,[],[],rfl,rfl,rfl,List.nodup_nil,fun z=>by simp⟩) (fun i σ' H1 _ pv=>?_) (fun i x σ' H1 hx pv=>?_) (fun σ' H1 pv=>?_)
 ·obtain ⟨_,_,_,_,rfl,_⟩:=(hPv _ _ _).mp pv
  rw [upd_ne hpL];exact hL
 ·obtain ⟨y,kvs,vs,rfl,rfl,ek,nd,mem⟩:=(hPv _ _ _).mp pv
  obtain ⟨a,ea,rfl⟩:=ref_at hx
  have hi:i < as.length:=(List.getElem?_eq_some_iff.mp ea).1
  have hi2:i < ss.length:=by have:=sat.1;omega
  have es:ss[i]? = some ss[i]:=List.getElem?_eq_getElem hi2
  have ha:=sat.2 i a _ ea es
  have hap:a≠p:=ne_of_none ha hp
  have lk:kvs.length<=90000:=by
   have h1:=congrArg List.length ek
   rw [List.length_map,List.length_map] at h1
   have h2:=nodup_le nd fun x hx=>List.mem_of_mem_take ((mem x).mp hx)
   have:=sat.1
   omega
  simp only [gName,sDPut,tVar,tC,List.getElem?_cons_zero,List.getElem?_cons_succ,Option.some.injEq,exists_eq_left',List.set_cons_zero,List.set_cons_succ]
  refine ⟨p,_,rfl,DPut.t (k:=ss[i].map Sum.inl) upd_same (by rw [upd_ne hap,map_kV];exact ha) (smallB1 (by omega)),?_⟩
  rw [upd_upd]
  have et:ss.take (i+1)=ss.take i++[ss[i]]:=by rw [List.take_add_one,es];rfl
  by_cases hin:ss[i]∈vs
  ·refine (hPv _ _ _).mpr ⟨_,_,vs,rfl,rfl,?_,nd,fun z=>?_⟩
   ·rw [keys_putK,if_pos (by rw [ek];exact List.mem_map_of_mem hin)];exact ek
   ·rw [et,List.mem_append,<-mem z,List.mem_singleton]
    exact ⟨.inl,fun h=>h.elim id fun e=>by rw [e];exact hin⟩
  ·refine (hPv _ _ _).mpr ⟨_,_,vs++[ss[i]],rfl,rfl,?_,?_,fun z=>?_⟩
   ·rw [keys_putK,if_neg (by rw [ek];intro z;obtain ⟨v,hv,e⟩:=List.mem_map.mp z;exact hin (by rw [<-inl_inj e];exact hv)),ek,List.map_append];rfl
   ·rw [List.nodup_append]
    exact ⟨nd,List.nodup_cons.mpr ⟨by simp,List.nodup_nil⟩,fun x hx y hy=>by rw [List.mem_singleton.mp hy];exact fun e=>hin (by rw [<-e];exact hx)⟩
   ·rw [et,List.mem_append,List.mem_append,mem z]
 ·obtain ⟨y,kvs,vs,rfl,rfl,ek,nd,mem⟩:=(hPv _ _ _).mp pv
  rw [List.length_map,sat.1,List.take_length] at mem
  have lv:vs.length < 100000:=by
   have:=nodup_le nd fun x hx=>(mem x).mp hx
   have:=sat.1
   omega
  repeat (walk_at "rd")
  refine ⟨p,rfl,kvs,vs,upd_same,ek,lv,fun D H' bs ts s1 hD hD' st pm pw=>?_⟩
  have sH:Same H (upd H p (.dT kvs)):=fun b u e=>by rw [upd_ne (ne_of_none e hp)];exact e
  exact q D H' bs ts (sH.trans s1) (sH.free hD) hD' st (pm.nodup_iff.mpr nd) (fun x=>(pm.mem_iff).trans (mem x)) pw
end
section
variable {P:Program} {w:World} {K:PySem.W.Frag} {mg:Str->Option Value} {base:Heap} {t:Adr}
theorem ok_is_part (T:Txt K mg t):FnOk P w K mg base CX0 1 t.a_is_part t.d_is_part ["one","other"] spPart:=by
 refine T.F_is_part.okZ sc_is_part (fun vs H Q E h=>?_) (fun cdv A outer s H vs Q E hr h hc hf=>?_)
 ·obtain ⟨a,b,rfl,_⟩:=h;rfl
 obtain ⟨a,b,rfl,x,y,ha,hb,q⟩:=h
 have hu:=hu_of hr
 have hu0:=hr.units0
 refine ⟨_,(by apply zqss_cons;exact (zqs_for PassesOwn.never rfl (zpi_tup (zpvk hc 0 (by decide +kernel))) (zpgk hc sc_is_part.nd hf 2 (by decide +kernel)) (by exact zqss_one (zqs_if (zpt_cmpR op_notInT (zpvk hc 2 (by decide +kernel)) (zpvk hc 1 (by decide +kernel)) (by with_unfolding_all rfl)) (by exact zqss_one (zps_ret zpe_bl)) zqss_nil)));exact zqss_one (zps_ret zpe_bl)),?_⟩
 repeat (walk_at "rd")
 refine ⟨⟨_,sqT_of ha⟩,?_⟩
 obtain ⟨Pv,hPv⟩:∃Pv:Nat->St->Hp->Prop,∀i σ' H',Pv i σ' H'↔∃z:Option V,σ'=[some (.ref a),some (.ref b),z]/\H'=H/\(x.take i).all (fun m=>decide (m∈y))=true:=⟨_,fun _ _ _=>Iff.rfl⟩
 refine forAll_tup (xs:=List.map V.int x) Pv ((hPv _ _ _).mpr ⟨none,rfl,rfl,rfl⟩) (fun i σ' H1 _ pv=>?_) (fun i z σ' H1 hz pv=>?_) (fun σ' H1 pv=>?_)
 ·obtain ⟨_,_,rfl,_⟩:=(hPv _ _ _).mp pv
  exact ha
 ·obtain ⟨z',rfl,rfl,al⟩:=(hPv _ _ _).mp pv
  obtain ⟨n,en,rfl⟩:=int_at hz
  repeat (first | walk_at "rd" | simp only [hb])
  refine ⟨rfl,flat_ints y,?_⟩
  rw [inV_ints]
  by_cases hm:n∈y
  ·rw [if_neg (by simp [hm])]
   refine (hPv _ _ _).mpr ⟨_,rfl,rfl,?_⟩
   rw [List.take_add_one,en,List.all_append,al]
   simp [hm]
  ·rw [if_pos (by simp [hm])]
   have e:isPart x y=false:=by
    unfold isPart
    rw [List.all_eq_false]
    exact ⟨n,List.mem_of_getElem? en,by simp [hm]⟩
   rw [<-e]
   exact q
 ·obtain ⟨z',rfl,rfl,al⟩:=(hPv _ _ _).mp pv
  rw [List.length_map,List.take_length] at al
  repeat (walk_at "rd")
  have e:isPart x y=true:=al
  rw [<-e]
  exact q
end
section
variable {P:Program} {w:World} {K:PySem.W.Frag} {mg:Str->Option Value} {base:Heap} {t:Adr}
theorem ok_holds_one (T:Txt K mg t):FnOk P w K mg base CX0 2 t.a_holds_one_of t.d_holds_one_of ["part","family"] (spAnyPart false):=by
 have G_is_part:=ok_is_part (P:=P) (w:=w) (base:=base) T
 refine T.F_holds_one_of.okZ sc_holds_one_of (fun vs H Q E h=>?_) (fun cdv A outer s H vs Q E hr h hc hf=>?_)
 ·obtain ⟨a,L,rfl,_⟩:=h;rfl
 obtain ⟨a,L,rfl,x,bs,ts,ha,hL,st,q⟩:=h
 refine ⟨_,(by apply zqss_cons;exact (zqs_for PassesOwn.never rfl (zpi_list (zpvk hc 1 (by decide +kernel))) (zpgk hc sc_holds_one_of.nd hf 2 (by decide +kernel)) (by exact zqss_one (zqs_if (zpt_val (zpe_call G_is_part (hr.mono (by omega)) (glk hc (by decide +kernel)) T.m_is_part T.F_is_part.kp T.b_is_part .nil pass0 (zpa_cons (zpvk hc 2 (by decide +kernel)) (zpa_cons (zpvk hc 0 (by decide +kernel)) zpa_nil)))) (by exact zqss_one (zps_ret zpe_bl)) zqss_nil)));exact zqss_one (zps_ret zpe_bl)),?_⟩
 repeat (walk_at "rd")
 refine ⟨⟨_,sqL_of hL⟩,?_⟩
 obtain ⟨Pv,hPv⟩:∃Pv:Nat->St->Hp->Prop,∀i σ' H',Pv i σ' H'↔∃z:Option V,σ'=[some (.ref a),some (.ref L),z]/\H'=H/\(ts.take i).any (fun t=>isPart t x)=false:=⟨_,fun _ _ _=>Iff.rfl⟩
 refine forAll_list (xs:=List.map V.ref bs) Pv ((hPv _ _ _).mpr ⟨none,rfl,rfl,rfl⟩) (fun i σ' H1 _ pv=>?_) (fun i z σ' H1 hz pv=>?_) (fun σ' H1 pv=>?_)
 ·obtain ⟨_,_,rfl,_⟩:=(hPv _ _ _).mp pv
  exact hL
 ·obtain ⟨z',rfl,rfl,al⟩:=(hPv _ _ _).mp pv
  obtain ⟨b,eb,rfl⟩:=ref_at hz
  have hi:i < bs.length:=(List.getElem?_eq_some_iff.mp eb).1
  have hi2:i < ts.length:=by have:=st.1;omega
  have et:ts[i]? = some ts[i]:=List.getElem?_eq_getElem hi2
  repeat (walk_at "rd")
  refine ⟨b,a,rfl,_,x,st.2 i b _ eb et,ha,?_⟩
  repeat (walk_at "rd")
  by_cases hp:isPart ts[i] x=true
  ·rw [if_pos hp]
   have e:ts.any (fun t=>if false then isPart x t else isPart t x)=true:=List.any_eq_true.mpr ⟨ts[i],List.getElem_mem hi2,hp⟩
   rw [<-e]
   exact q
  ·rw [if_neg hp]
   refine (hPv _ _ _).mpr ⟨_,rfl,rfl,?_⟩
   rw [List.take_add_one,et,List.any_append,al]
   simp [hp]
 ·obtain ⟨z',rfl,rfl,al⟩:=(hPv _ _ _).mp pv
  rw [List.length_map,st.1,List.take_length] at al
  repeat (walk_at "rd")
  have e:ts.any (fun t=>if false then isPart x t else isPart t x)=false:=al
  rw [<-e]
  exact q
end
section
variable {P:Program} {w:World} {K:PySem.W.Frag} {mg:Str->Option Value} {base:Heap} {t:Adr}
theorem ok_lies_one (T:Txt K mg t):FnOk P w K mg base CX0 2 t.a_lies_in_one_of t.d_lies_in_one_of ["part","family"] (spAnyPart true):=by
 have G_is_part:=ok_is_part (P:=P) (w:=w) (base:=base) T
 refine T.F_lies_in_one_of.okZ sc_lies_in_one_of (fun vs H Q E h=>?_) (fun cdv A outer s H vs Q E hr h hc hf=>?_)
 ·obtain ⟨a,L,rfl,_⟩:=h;rfl
 obtain ⟨a,L,rfl,x,bs,ts,ha,hL,st,q⟩:=h
 refine ⟨_,(by apply zqss_cons;exact (zqs_for PassesOwn.never rfl (zpi_list (zpvk hc 1 (by decide +kernel))) (zpgk hc sc_lies_in_one_of.nd hf 2 (by decide +kernel)) (by exact zqss_one (zqs_if (zpt_val (zpe_call G_is_part (hr.mono (by omega)) (glk hc (by decide +kernel)) T.m_is_part T.F_is_part.kp T.b_is_part .nil pass0 (zpa_cons (zpvk hc 0 (by decide +kernel)) (zpa_cons (zpvk hc 2 (by decide +kernel)) zpa_nil)))) (by exact zqss_one (zps_ret zpe_bl)) zqss_nil)));exact zqss_one (zps_ret zpe_bl)),?_⟩
 repeat (walk_at "rd")
 refine ⟨⟨_,sqL_of hL⟩,?_⟩
 obtain ⟨Pv,hPv⟩:∃Pv:Nat->St->Hp->Prop,∀i σ' H',Pv i σ' H'↔∃z:Option V,σ'=[some (.ref a),some (.ref L),z]/\H'=H/\(ts.take i).any (fun t=>isPart x t)=false:=⟨_,fun _ _ _=>Iff.rfl⟩
 refine forAll_list (xs:=List.map V.ref bs) Pv ((hPv _ _ _).mpr ⟨none,rfl,rfl,rfl⟩) (fun i σ' H1 _ pv=>?_) (fun i z σ' H1 hz pv=>?_) (fun σ' H1 pv=>?_)
 ·obtain ⟨_,_,rfl,_⟩:=(hPv _ _ _).mp pv
  exact hL
 ·obtain ⟨z',rfl,rfl,al⟩:=(hPv _ _ _).mp pv
  obtain ⟨b,eb,rfl⟩:=ref_at hz
  have hi:i < bs.length:=(List.getElem?_eq_some_iff.mp eb).1
  have hi2:i < ts.length:=by have:=st.1;omega
  have et:ts[i]? = some ts[i]:=List.getElem?_eq_getElem hi2
  repeat (walk_at "rd")
  refine ⟨a,b,rfl,x,_,ha,st.2 i b _ eb et,?_⟩
  repeat (walk_at "rd")
  by_cases hp:isPart x ts[i]=true
  ·rw [if_pos hp]
   have e:ts.any (fun t=>if true then isPart x t else isPart t x)=true:=List.any_eq_true.mpr ⟨ts[i],List.getElem_mem hi2,hp⟩
   rw [<-e]
   exact q
  ·rw [if_neg hp]
   refine (hPv _ _ _).mpr ⟨_,rfl,rfl,?_⟩
   rw [List.take_add_one,et,List.any_append,al]
   simp [hp]
 ·obtain ⟨z',rfl,rfl,al⟩:=(hPv _ _ _).mp pv
  rw [List.length_map,st.1,List.take_length] at al
  repeat (walk_at "rd")
  have e:ts.any (fun t=>if true then isPart x t else isPart t x)=false:=al
  rw [<-e]
  exact q
end
section
variable {P:Program} {w:World} {K:PySem.W.Frag} {mg:Str->Option Value} {base:Heap} {t:Adr}
theorem ok_in_order (T:Txt K mg t):FnOk P w K mg base CX0 5 t.a_in_order t.d_in_order ["family"] spOnce:=by
 have G_each_once_in_order:=ok_once (P:=P) (w:=w) (base:=base) T
 refine T.F_in_order.okZ sc_in_order (fun vs H Q E h=>?_) (fun cdv A outer s H vs Q E hr h hc hf=>?_)
 ·obtain ⟨a,rfl,_⟩:=h;rfl
 have h':=h
 obtain ⟨L,rfl,_⟩:=h
 refine ⟨_,(by exact zqss_one (zps_ret (zpe_call G_each_once_in_order (hr.mono (by omega)) (glk hc (by decide +kernel)) T.m_each_once_in_order T.F_each_once_in_order.kp T.b_each_once_in_order .nil pass0 (zpa_cons (zpvk hc 0 (by decide +kernel)) zpa_nil)))),?_⟩
 repeat (walk_at "rd")
 exact h'
end
local macro_rules | `(tactic| walk_at "rd") => `(tactic| walk_at "rc")
local macro_rules | `(tactic| walk_at "rl") => `(tactic| first | (refine seq_op fun R hR => ?_) | walk_at "ry" | (refine Nx.to (by assumption) _ _ ?_))
section
variable {P:Program} {w:World} {K:PySem.W.Frag} {mg:Str->Option Value} {base:Heap} {t:Adr}
theorem ok_rest (T:Txt K mg t):FnOk P w K mg base CX0 1 t.a_rest_of t.d_rest_of ["whole","part"] spRest:=by
 refine T.F_rest_of.okZ sc_rest_of (fun vs H Q E h=>?_) (fun cdv A outer s H vs Q E hr h hc hf=>?_)
 ·obtain ⟨a,b,rfl,_⟩:=h;rfl
 obtain ⟨a,b,rfl,x,y,ha,hb,lx,q⟩:=h
 have hu:=hu_of hr
 have hu0:=hr.units0
 refine ⟨_,(by exact zqss_one (zps_ret (zpe_callTy call_tupleL (glk hc (by decide +kernel)) T.z_tuple b_tuple (zpa_cons (zpek_comp hc ["member"] [1] rfl (by decide +kernel) (zpi_tup (zpvk hc 0 (by decide +kernel))) (fun _ hc=>zpgb hc (by decide +kernel) 0 (by decide +kernel)) (fun _ hc=>zpifs_one (zpt_cmpR op_notInT (zpvk hc 0 (by decide +kernel)) (zpvk hc 1 (by decide +kernel)) (by with_unfolding_all rfl))) (fun _ hc=>(zpvk hc 0 (by decide +kernel)))) zpa_nil)))),?_⟩
 repeat (walk_at "rd")
 refine ⟨⟨_,sqT_of ha⟩,?_⟩
 obtain ⟨Pc,hPc⟩:∃Pc:Addr->Nat->List V->Hp->Prop,∀Z i ys H',Pc Z i ys H'↔ys=List.map V.int (restF (x.take i) y)/\Same H H'/\H' Z=some (.lst ys):=⟨_,fun _ _ _ _=>Iff.rfl⟩
 refine compAll_tup (zs:=List.map V.int x) Pc (fun Z hZ=>(hPc _ _ _ _).mpr ⟨rfl,same_new hZ _,upd_same⟩) (fun Z hZ i ys H' _ pv=>?_) (fun Z hZ i z ys H' hz pv cb=>?_) (fun Z hZ ys H' pv=>?_)
 ·obtain ⟨_,s,_⟩:=(hPc _ _ _ _).mp pv
  exact s _ _ ha
 ·obtain ⟨rfl,s1,hZ1⟩:=(hPc _ _ _ _).mp pv
  obtain ⟨n,en,rfl⟩:=int_at hz
  have hi:i < x.length:=(List.getElem?_eq_some_iff.mp en).1
  have hb1:=s1 _ _ hb
  have ef:restF (x.take (i+1)) y=restF (x.take i) y++(if n∈y then [] else [n]):=by
   unfold restF
   rw [List.take_add_one,en,List.filter_append]
   by_cases hm:n∈y <;> simp [hm]
  walk_at "rc"
  repeat (first | walk_at "rd" | simp only [hb1])
  refine ⟨rfl,flat_ints y,?_⟩
  rw [inV_ints]
  by_cases hm:n∈y
  ·rw [if_neg (by simp [hm])]
   refine (hPc _ _ _ _).mpr ⟨?_,s1,hZ1⟩
   rw [ef,if_pos hm,List.append_nil]
  ·rw [if_pos (by simp [hm])]
   have ll:(restF (x.take i) y).length<=900:=Nat.le_trans (List.length_filter_le _ _) (by rw [List.length_take];omega)
   refine ⟨hZ1,small1000 (by omega),(hPc _ _ _ _).mpr ⟨?_,same_put' s1 hZ,upd_same⟩⟩
   rw [ef,if_neg hm,List.map_append]
   rfl
 ·obtain ⟨rfl,s1,hZ1⟩:=(hPc _ _ _ _).mp pv
  rw [List.length_map,List.take_length] at hZ1
  refine ⟨Z,rfl,_,hZ1,fun p hp=>q p _ (s1.trans (same_new hp _)) (s1.free hp) ?_⟩
  exact upd_same
end
def spParts:Sp:=fun vs H Q _=>∃W,vs=[.ref W]/\∃x:List Int,H W=some (.tup (List.map V.int x))/\x.length<=10/\
 ∀D H' bs ts,Same H H'->H D=none->H' D=some (.lst (List.map V.ref bs))->SetsAt H' bs ts->ts.Nodup->(∀t,t∈ts↔t∈subsF x)->ts.Pairwise (fun a b=>setLt a b=true)->Q (.ref D) H'
section
variable {P:Program} {w:World} {K:PySem.W.Frag} {mg:Str->Option Value} {base:Heap} {t:Adr}
theorem ok_parts (T:Txt K mg t):FnOk P w K mg base CX0 6 t.a_parts_of t.d_parts_of ["whole"] spParts:=by
 have G_in_order:=ok_in_order (P:=P) (w:=w) (base:=base) T
 refine T.F_parts_of.okZ sc_parts_of (fun vs H Q E h=>?_) (fun cdv A outer s H vs Q E hr h hc hf=>?_)
 ·obtain ⟨a,rfl,_⟩:=h;rfl
 obtain ⟨W,rfl,x,hW,lx,q⟩:=h
 refine ⟨_,(by apply zqss_cons;exact (zpsk_set hc sc_parts_of.nd hf 1 (by decide +kernel) (zpe_lst (zpa_cons (zpe_tup zpa_nil) zpa_nil)));apply zqss_cons;exact (zqs_for PassesOwn.never rfl (zpi_tup (zpvk hc 0 (by decide +kernel))) (zpgk hc sc_parts_of.nd hf 2 (by decide +kernel)) (by exact zqss_one (zpsk_set hc sc_parts_of.nd hf 1 (by decide +kernel) (zpe_op op_cat (zpvk hc 1 (by decide +kernel)) (zpek_comp hc ["part"] [2] rfl (by decide +kernel) (zpi_list (zpvk hc 1 (by decide +kernel))) (fun _ hc=>zpgb hc (by decide +kernel) 0 (by decide +kernel)) (fun _ _=>zpifs_nil) (fun _ hc=>(zpe_op op_catTQ (zpvk hc 0 (by decide +kernel)) (zpe_tup (zpa_cons (zpvk hc 1 (by decide +kernel)) zpa_nil)))))))));exact zqss_one (zps_ret (zpe_call G_in_order (hr.mono (by omega)) (glk hc (by decide +kernel)) T.m_in_order T.F_in_order.kp T.b_in_order .nil pass0 (zpa_cons (zpvk hc 1 (by decide +kernel)) zpa_nil)))),?_⟩
 repeat (walk_at "rd")
 refine ⟨by decide,fun p hp=>⟨by decide,fun L0 hL0=>?_⟩⟩
 have s0:=(same_new hp (.tup [])).trans (same_new hL0 (.lst [V.ref p]))
 have hp0:upd (upd H p (.tup [])) L0 (.lst [V.ref p]) p=some (.tup []):=(same_new hL0 _) _ _ upd_same
 have hl0:upd (upd H p (.tup [])) L0 (.lst [V.ref p]) L0=some (.lst [V.ref p]):=upd_same
 generalize upd (upd H p (.tup [])) L0 (.lst [V.ref p])=H0 at s0 hp0 hl0 ⊢
 refine ⟨⟨_,sqT_of (s0 _ _ hW)⟩,?_⟩
 obtain ⟨Pv,hPv⟩:∃Pv:Nat->St->Hp->Prop,∀i σ' H',Pv i σ' H'↔∃(L:Addr) (z:Option V) (bs:List Addr),σ'=[some (.ref W),some (.ref L),z]/\Same H H'/\H' L=some (.lst (List.map V.ref bs))/\SetsAt H' bs (subsF (x.take i)):=⟨_,fun _ _ _=>Iff.rfl⟩
 refine forAll_tup (xs:=List.map V.int x) Pv ((hPv _ _ _).mpr ⟨L0,none,[p],rfl,s0,hl0,rfl,fun i b t h1 h2=>?_⟩) (fun i σ' H1 _ pv=>?_) (fun i z σ' H1 hz pv=>?_) (fun σ' H1 pv=>?_)
 ·have h2':([[]]:List (List Int))[i]? = some t:=h2
  cases i with
  | zero=>cases h1;cases h2';exact hp0
  | succ n=>simp at h1
 ·obtain ⟨_,_,_,_,s1,_⟩:=(hPv _ _ _).mp pv
  exact s1 _ _ hW
 ·obtain ⟨L,z',bs,rfl,s1,hL,sa⟩:=(hPv _ _ _).mp pv
  obtain ⟨m,em,rfl⟩:=int_at hz
  have hi:i < x.length:=(List.getElem?_eq_some_iff.mp em).1
  have et:x.take (i+1)=x.take i++[m]:=by rw [List.take_add_one,em];rfl
  have lb:bs.length<=1024:=by
   rw [sa.1,subsF_len,List.length_take];exact pow_le10 (by omega)
  have ls:=sa.1
  repeat (walk_at "rd")
  refine ⟨⟨_,sqL_of hL⟩,?_⟩
  refine compS_list (zs:=List.map V.ref bs) (fun j=>(subsF (x.take i))[j]?.map (· ++ [m])) (fun _=>RSet) RSet.same RSet.puts hL (by rw [List.length_map];omega) (fun DD c H2 j z yes no hj s2 hDD hDx hyes hno=>?_) (fun D H2 vs s2 hD hD2 rl=>?_)
  ·obtain ⟨b,eb,rfl⟩:=ref_at hj
   have hj1:j < bs.length:=(List.getElem?_eq_some_iff.mp eb).1
   have es:(subsF (x.take i))[j]? = some ((subsF (x.take i))[j]'(by omega)):=List.getElem?_eq_getElem _
   have hb:=s2 _ _ (sa.2 j b _ eb es)
   have hyes':=hyes ((subsF (x.take i))[j]'(by omega)++[m]) (by rw [es];rfl)
   have ly:=subsF_mem_len (List.getElem_mem (l:=subsF (x.take i)) (n:=j) (by omega))
   rw [List.length_take] at ly
   generalize (subsF (x.take i))[j]'(by omega)=y at hb hyes' ly
   walk_at "rc"
   repeat (walk_at "rd")
   refine ⟨by decide,fun p1 hp1=>⟨_,(same_new hp1 _) _ _ hb,by rw [List.length_map];exact smallB (by omega),fun p2 H3 s3 _ hp2=>hyes' _ _ ((same_new hp1 _).trans s3) ⟨p2,rfl,by rw [hp2,List.map_append];rfl⟩⟩⟩
  ·obtain ⟨cs,rfl,sc⟩:=sets_of rl
   rw [List.length_map,ls,fm_map (l:=subsF (x.take i)) (g:=(· ++ [m])) fun k hk=>by rw [List.getElem?_eq_getElem hk];rfl] at sc
   have hL2:=s2 _ _ hL
   repeat (first | walk_at "rd" | simp only [hL2,hD2])
   have lc:=sc.1
   rw [List.length_map] at lc
   refine ⟨smallB (by omega),fun p1 hp1=>(hPv _ _ _).mpr ⟨p1,_,bs++cs,rfl,(s1.trans s2).trans (same_new hp1 _),by rw [upd_same,List.map_append],?_⟩⟩
   rw [et,subsF_snoc]
   exact ((sa.mono fun b xs e=>s2 _ _ e).app sc).mono fun b xs e=>(same_new hp1 _) _ _ e
 ·obtain ⟨L,z',bs,rfl,s1,hL,sa⟩:=(hPv _ _ _).mp pv
  rw [List.length_map,List.take_length] at sa
  repeat (walk_at "rd")
  refine ⟨L,rfl,bs,_,hL,sa,?_,fun D H2 cs ts s2 hD hD2 sc nd mem pw=>q D H2 cs ts (s1.trans s2) (s1.free hD) hD2 sc nd mem pw⟩
  rw [sa.1,subsF_len]
  have:=pow_le10 lx
  omega
end
local macro_rules | `(tactic| walk_at "rd") => `(tactic| walk_at "rc")
local macro_rules | `(tactic| walk_at "rc") => do
  let ids := ("L2.start tSeq tNext tIfS tTest tB tOp tUn tVar tC tAsg gName gSub tRet tRetN tDrop tCall tCons tNil tCB tTxtsL tDNewK tLst tTup rI0 rI rU rEq rNe scal tAugS ipI qIxL qIxT qIxS qSlL qSlT qSlT2 qLenL qLenT qListL qListT qTupleL qListD qDictD qSorted qSetS qSortSet qAllB qEqD rUpdateD tNever qJoin qInL qInT qInS qEqL qIsi qSet tSl tPart tNoPart rSlS tBM tBM0 rAppend rExtend rReverse rClear rClearD rPopAt rCat tRev tAnd tOr tNot tAndV tOrV tNotV tIf List.map_cons List.map_nil List.cons_append List.nil_append List.append_nil List.length_cons List.length_nil List.replicate List.getElem?_cons_zero List.getElem?_cons_succ List.set_cons_zero List.set_cons_succ Nat.reduceAdd Nat.reduceSub Nat.reduceLeDiff Option.some.injEq V.int.injEq V.ref.injEq V.str.injEq V.bl.injEq V.ty.injEq List.cons.injEq HO.lst.injEq HO.tup.injEq HO.dK.injEq exists_eq_left exists_eq_left' exists_and_left and_true true_and and_assoc exists_const reduceCtorEq upd_same upd_upd decide_eq_true_eq List.length_map ite_true ite_false Bool.false_eq_true Bool.true_and Bool.and_true atI_0 atI_1 atI_2 atI_3 atI_4 atI_5 ixN6_1 ixN6_2 ixN6_3 ixN6_4 ixN6_5 cmul1 cmul2 cmul3 cmul4 cmul5a cmul5b cmul5c cmul5d cpow18 subS Option.join_some Option.join_none tComp_eq tFor_eq iRng1 iRng2 iRng3 qCatT tDNewT tSortK qAnyB qEqTI qEqSL rInsert qIsB rPopAt qSetI qSetIT qSortSetI iList iRev iTup tyV_str tYes Int.zero_add Int.reduceMul Int.reduceAdd Int.reduceSub Int.reduceLT Int.reduceLE Int.reducePow Int.reduceToNat Int.reduceNeg gt_iff_lt ge_iff_le spNext hv".splitOn " ").toArray.map fun x => Lean.mkIdent x.toName
  `(tactic| simp only [$[$ids:ident],*])
section
variable {P:Program} {w:World} {K:PySem.W.Frag} {mg:Str->Option Value} {base:Heap} {t:Adr}
theorem ok_next (T:Txt K mg t):FnOk P w K mg base CX0 1 t.a__law_next t.d__law_next ["_law_hand_here"] spNext:=by
 refine T.F__law_next.okZ sc__law_next (fun vs H Q E h=>?_) (fun cdv A outer s H vs Q E hr h hc hf=>?_)
 ·obtain ⟨h,rfl,_⟩:=h;rfl
 obtain ⟨h,rfl,l,a,b,c,d,e,hh,q⟩:=h
 refine ⟨_,(by apply zqss_cons;exact (zps_asg (zpe_op op_mod (zpe_op op_mul (zpe_ix ix_l (zpvk hc 0 (by decide +kernel)) zpe_int (fun _ _=>rfl)) zpe_int) zpe_int) (zpg_sub (zpvk hc 0 (by decide +kernel)) zpe_int set_l));apply zqss_cons;exact (zps_asg (zpe_op op_mod (zpe_op op_mul (zpe_ix ix_l (zpvk hc 0 (by decide +kernel)) zpe_int (fun _ _=>rfl)) zpe_int) zpe_int) (zpg_sub (zpvk hc 0 (by decide +kernel)) zpe_int set_l));exact zqss_one (zps_ret (zpe_op op_add (zpe_ix ix_l (zpvk hc 0 (by decide +kernel)) zpe_int (fun _ _=>rfl)) (zpe_ix ix_l (zpvk hc 0 (by decide +kernel)) zpe_int (fun _ _=>rfl))))),?_⟩
 unfold hv at *
 walk_at "rd"
 simp only [hh]
 walk_at "rd"
 exact q
theorem ok_take (T:Txt K mg t):FnOk P w K mg base CX0 2 t.a__law_take t.d__law_take ["_law_hand_here"] spTake:=by
 have G__law_next:=ok_next (P:=P) (w:=w) (base:=base) T
 refine T.F__law_take.okZ sc__law_take (fun vs H Q E h=>?_) (fun cdv A outer s H vs Q E hr h hc hf=>?_)
 ·obtain ⟨h,rfl,_⟩:=h;rfl
 obtain ⟨h,rfl,l,ns,o,hh,⟨a,b,c,d,e,rfl,ha⟩,hl,q⟩:=h
 refine ⟨_,(by apply zqss_cons;exact (zpsk_set hc sc__law_take.nd hf 1 (by decide +kernel) zpe_int);apply zqss_cut;exact (zqs_if (zpt_cmpR op_lt (zpe_ix ix_l (zpvk hc 0 (by decide +kernel)) zpe_int (fun _ _=>rfl)) (zpe_callB call_lenL (glk hc (by decide +kernel)) T.z_len b_len (zpa_cons (zpe_ix ix_l (zpvk hc 0 (by decide +kernel)) zpe_int (fun _ _=>rfl)) zpa_nil)) (nomark _)) (by exact zqss_one (zpsk_set hc sc__law_take.nd hf 1 (by decide +kernel) (zpe_callB call_abs (glk hc (by decide +kernel)) T.z_abs b_abs (zpa_cons (zpe_ix ix_l (zpe_ix ix_l (zpvk hc 0 (by decide +kernel)) zpe_int (fun _ _=>rfl)) (zpe_ix ix_l (zpvk hc 0 (by decide +kernel)) zpe_int (fun _ _=>rfl)) (fun _ _=>rfl)) zpa_nil)))) zqss_nil);apply zqss_cons;exact (zps_augS (zpvk hc 0 (by decide +kernel)) zpe_int get_l zpe_int ip_add set_l);apply zqss_cut;exact (zqs_if (zpt_cmpR op_ge (zpvk hc 1 (by decide +kernel)) (zpe_op op_pow zpe_int zpe_int) (nomark _)) (by exact zqss_one (zps_asg (zpvk hc 1 (by decide +kernel)) (zpg_sub (zpvk hc 0 (by decide +kernel)) zpe_int set_l))) (by exact zqss_one (zps_asg zpe_int (zpg_sub (zpvk hc 0 (by decide +kernel)) zpe_int set_l))));apply zqss_cons;exact (zps_asg (zpe_op op_add (zpe_op op_mod (zpe_op op_add (zpe_ix ix_l (zpvk hc 0 (by decide +kernel)) zpe_int (fun _ _=>rfl)) (zpe_op op_mod (zpvk hc 1 (by decide +kernel)) zpe_int)) zpe_int) zpe_int) (zpg_sub (zpvk hc 0 (by decide +kernel)) zpe_int set_l));apply zqss_cons;exact (zps_asg (zpe_op op_add (zpe_op op_mod (zpe_op op_add (zpe_op op_mul (zpe_ix ix_l (zpvk hc 0 (by decide +kernel)) zpe_int (fun _ _=>rfl)) zpe_int) (zpe_op op_mod (zpvk hc 1 (by decide +kernel)) zpe_int)) zpe_int) zpe_int) (zpg_sub (zpvk hc 0 (by decide +kernel)) zpe_int set_l));apply zqss_cons;exact (zps_expr (zpe_call G__law_next (hr.mono (by omega)) (glk hc (by decide +kernel)) T.m__law_next T.F__law_next.kp T.b__law_next .nil pass0 (zpa_cons (zpvk hc 0 (by decide +kernel)) zpa_nil)));exact zqss_one (zps_expr (zpe_call G__law_next (hr.mono (by omega)) (glk hc (by decide +kernel)) T.m__law_next T.F__law_next.kp T.b__law_next .nil pass0 (zpa_cons (zpvk hc 0 (by decide +kernel)) zpa_nil)))),?_⟩
 unfold hv at *
 walk_at "rd"
 refine ⟨fun σ' H'=>∃z,σ'=[some (.ref h),some (.int z)]/\H'=H,?_,?_⟩
 ·repeat (first | walk_at "rd" | simp only [hh,hl])
  split
  ·rename_i hlt
   obtain ⟨v,hv'⟩:=atI_ints ha hlt
   rw [hv']
   walk_at "rd"
   exact ⟨_,rfl⟩
  ·exact ⟨_,rfl⟩
 ·rintro σ' H' ⟨z,e1,e2⟩
  subst e1 e2
  repeat (first | walk_at "rd" | simp only [hh,hl])
  refine ⟨fun σ' H''=>∃b' c',σ'=[some (.ref h),some (.int z)]/\H''=upd H' h (.lst [.ref l,.int (a+1),.int b',.int c',.int d,.int e]),?_,?_⟩
  ·repeat (first | walk_at "rd" | simp only [hh,hl])
   split
   ·exact ⟨_,_,rfl⟩
   ·exact ⟨_,_,rfl⟩
  ·rintro σ' H'' ⟨b',c',e1,e2⟩
   subst e1 e2
   repeat (first | walk_at "rd" | simp only [hh,hl])
   exact q _ ⟨_,_,_,_,_,rfl,by omega⟩
theorem ok_draw (T:Txt K mg t):FnOk P w K mg base CX0 3 t.a__law_draw t.d__law_draw ["_law_hand_here","_law_many"] spDraw:=by
 have G__law_next:=ok_next (P:=P) (w:=w) (base:=base) T
 have G__law_take:=ok_take (P:=P) (w:=w) (base:=base) T
 refine T.F__law_draw.okZ sc__law_draw (fun vs H Q E h=>?_) (fun cdv A outer s H vs Q E hr h hc hf=>?_)
 ·obtain ⟨h,m,rfl,_⟩:=h;rfl
 obtain ⟨h,m,rfl,hm,hm2,l,ns,o,hh,⟨a,b,c,d,e,rfl,ha⟩,hl,q⟩:=h
 refine ⟨_,(by apply zqss_cut;exact (zqs_if (zPWpt (zpw_and (zpt_cmpR op_eq (zpe_ix ix_l (zpvk hc 0 (by decide +kernel)) zpe_int (fun _ _=>rfl)) zpe_int (nomark _)) (zpw_and1 (zpt_cmpR op_eq (zpe_ix ix_l (zpvk hc 0 (by decide +kernel)) zpe_int (fun _ _=>rfl)) zpe_int (nomark _))))) (by exact zqss_one (zps_expr (zpe_call G__law_take (hr.mono (by omega)) (glk hc (by decide +kernel)) T.m__law_take T.F__law_take.kp T.b__law_take .nil pass0 (zpa_cons (zpvk hc 0 (by decide +kernel)) zpa_nil)))) zqss_nil);apply zqss_cons;exact (zqs_if (zpt_cmpR op_gt (zpe_ix ix_l (zpvk hc 0 (by decide +kernel)) zpe_int (fun _ _=>rfl)) zpe_int (nomark _)) (by apply zqss_cons;exact (zpsk_set hc sc__law_draw.nd hf 2 (by decide +kernel) (zpe_op op_mod (zpe_ix ix_l (zpvk hc 0 (by decide +kernel)) zpe_int (fun _ _=>rfl)) (zpvk hc 1 (by decide +kernel))));apply zqss_cons;exact (zps_asg (zpe_op op_fdivB (zpe_ix ix_l (zpvk hc 0 (by decide +kernel)) zpe_int (fun _ _=>rfl)) (zpvk hc 1 (by decide +kernel))) (zpg_sub (zpvk hc 0 (by decide +kernel)) zpe_int set_l));exact zqss_one (zps_ret (zpvk hc 2 (by decide +kernel)))) zqss_nil);apply zqss_cons;exact (zps_augS (zpvk hc 0 (by decide +kernel)) zpe_int get_l zpe_int ip_sub set_l);apply zqss_cons;exact (zpsk_set hc sc__law_draw.nd hf 3 (by decide +kernel) (zpe_call G__law_next (hr.mono (by omega)) (glk hc (by decide +kernel)) T.m__law_next T.F__law_next.kp T.b__law_next .nil pass0 (zpa_cons (zpvk hc 0 (by decide +kernel)) zpa_nil)));apply zqss_cons;exact (zpsk_set hc sc__law_draw.nd hf 4 (by decide +kernel) zpe_int);apply zqss_cons;exact (zqs_while PassesOwn.never (zpt_cmpR op_lt (zpvk hc 4 (by decide +kernel)) (zpvk hc 1 (by decide +kernel)) (nomark _)) (by apply zqss_cons;exact (zpsk_set hc sc__law_draw.nd hf 3 (by decide +kernel) (zpe_op op_add (zpe_op op_mul (zpvk hc 3 (by decide +kernel)) zpe_int) (zpe_call G__law_next (hr.mono (by omega)) (glk hc (by decide +kernel)) T.m__law_next T.F__law_next.kp T.b__law_next .nil pass0 (zpa_cons (zpvk hc 0 (by decide +kernel)) zpa_nil))));exact zqss_one (zpsk_set hc sc__law_draw.nd hf 4 (by decide +kernel) (zpe_op op_mul (zpvk hc 4 (by decide +kernel)) zpe_int))));exact zqss_one (zps_ret (zpe_op op_mod (zpvk hc 3 (by decide +kernel)) (zpvk hc 1 (by decide +kernel))))),?_⟩
 unfold hv at *
 walk_at "rd"
 refine ⟨fun σ' H'=>∃a b c d e,σ'=[some (.ref h),some (.int m),none,none,none]/\H'=upd H h (hv l a b c d e)/\0<=a,?_,?_⟩
 ·have same:H=upd H h (hv l a b c d e):=by
   funext x;unfold upd;split
   ·rename_i e;rw [e,hh];rfl
   ·rfl
  repeat (first | walk_at "rd" | simp only [hh,hl])
  by_cases hb:b=0
  ·by_cases hc:c=0
   ·simp only [hb,hc,if_true]
    repeat (first | walk_at "rd" | simp only [hh,hl])
    refine ⟨h,rfl,l,ns,_,hh,⟨a,b,c,d,e,by rw [hb,hc];rfl,ha⟩,hl,?_⟩
    rintro o' ⟨a',b',c',d',e',rfl,ha'⟩
    exact ⟨a',b',c',d',e',rfl,ha'⟩
   ·simp only [hb,hc,if_true,if_false,Bool.false_eq_true]
    exact ⟨a,b,c,d,e,same,ha⟩
  ·simp only [hb,if_false,Bool.false_eq_true]
   exact ⟨a,b,c,d,e,same,ha⟩
 ·rintro σ' H' ⟨a,b,c,d,e,e1,e2,ha⟩
  subst e1 e2
  repeat (first | walk_at "rd" | simp only [hh,hl])
  split
  ·rename_i hb
   refine ⟨by omega,⟨by omega,hm2⟩,q _ _ (Int.emod_nonneg _ (by omega)) (Int.emod_lt_of_pos _ (by omega)) ⟨_,_,_,_,_,rfl,ha⟩⟩
  ·rename_i hb
   obtain ⟨W,hW⟩:∃W:Nat->St->Hp->Prop,∀μ σ' H',W μ σ' H'↔∃v z a b c d e:Int,μ=(m - z).toNat/\σ'=[some (.ref h),some (.int m),none,some (.int v),some (.int z)]/\H'=upd H h (hv l a b c d e)/\0<=a/\1<=z:=⟨_,fun _ _ _=>Iff.rfl⟩
   refine ⟨W,⟨_,(hW _ _ _).mpr ⟨_,_,_,_,_,_,_,rfl,rfl,rfl,ha,by omega⟩⟩,?_⟩
   intro μ σ' H' hw'
   obtain ⟨v,z,a,b,c,d,e,rfl,e1,e2,ha,hz⟩:=(hW _ _ _).mp hw'
   subst e1 e2
   walk_at "rd"
   split
   ·rename_i hlt
    obtain ⟨N,hN⟩:∃N:St->Hp->Prop,∀σ' H',N σ' H'↔∃v z' a b c d e:Int,σ'=[some (.ref h),some (.int m),none,some (.int v),some (.int z')]/\H'=upd H h (hv l a b c d e)/\0<=a/\z'=z * 4294967296:=⟨_,fun _ _=>Iff.rfl⟩
    refine ⟨N,fun σ' H' hn=>?_,?_⟩
    ·obtain ⟨v,z',a,b,c,d,e,e1,e2,ha,e3⟩:=(hN _ _).mp hn
     exact ⟨(m - z').toNat,by omega,(hW _ _ _).mpr ⟨v,z',a,b,c,d,e,rfl,e1,e2,ha,by omega⟩⟩
    ·repeat (first | walk_at "rd" | simp only [hh,hl])
     exact (hN _ _).mpr ⟨_,_,_,_,_,_,_,rfl,rfl,ha,rfl⟩
   ·refine ⟨by omega,q _ _ (Int.emod_nonneg _ (by omega)) (Int.emod_lt_of_pos _ (by omega)) ⟨_,_,_,_,_,rfl,ha⟩⟩
end
section
variable {P:Program} {w:World} {K:PySem.W.Frag} {mg:Str->Option Value} {base:Heap} {t:Adr}
theorem ok_hand (T:Txt K mg t):FnOk P w K mg base CX0 1 t.a__law_hand t.d__law_hand ["_law_script"] (spHand K):=by
 refine T.F__law_hand.okZ sc__law_hand (fun vs H Q E h=>?_) (fun cdv A outer s H vs Q E hr h hc hf=>?_)
 ·obtain ⟨a,ns,rfl,_⟩:=h;rfl
 obtain ⟨a,ns,rfl,hS,q⟩:=h
 refine ⟨_,(by exact zqss_one (zps_ret (zpe_lst (zpa_cons (zpe_callTy call_listL (glk hc (by decide +kernel)) T.z_list b_list (zpa_cons (zpe_slice sl_list (zpvk hc 0 (by decide +kernel)) zpo_none (zpo_some zpe_int)) zpa_nil)) (zpa_cons zpe_int (zpa_cons zpe_int (zpa_cons zpe_int (zpa_cons zpe_int (zpa_cons zpe_int zpa_nil))))))))),?_⟩
 walk_at "rd"
 refine ⟨a,List.map V.int ns,rfl,hS,fun p hp=>?_⟩
 rw [cutV_map]
 walk_at "rd"
 refine fun l hl=>⟨by decide,fun h hh=>?_⟩
 have s1:=same_new hp (.lst (List.map V.int ((ns.drop (HT.sIx ns.length 0 none)).take (HT.sIx ns.length ns.length (some 63) - HT.sIx ns.length 0 none))))
 have s2:=same_new hl (.lst (List.map V.int ((ns.drop (HT.sIx ns.length 0 none)).take (HT.sIx ns.length ns.length (some 63) - HT.sIx ns.length 0 none))))
 have s3:=same_new hh (hv l 0 0 0 20011 40009)
 exact q h _ (s1.trans (s2.trans s3)) ((s1.trans s2).free hh) ⟨l,_,_,upd_same,⟨_,_,_,_,_,rfl,Int.le_refl 0⟩,s3 _ _ upd_same⟩
end
local macro_rules | `(tactic| walk_at "rd") => `(tactic| walk_at "rc")
local macro_rules | `(tactic| walk_at "rl") => `(tactic| first | (refine seq_op fun R hR => ?_) | walk_at "ry" | (refine Nx.to (by assumption) _ _ ?_))
section
variable {P:Program} {w:World} {K:PySem.W.Frag} {mg:Str->Option Value} {base:Heap} {t:Adr}
theorem ok_by (T:Txt K mg t):FnOk P w K mg base CX0 1 t.a__law_by t.d__law_by ["_law_members_here","_law_mask"] spBy:=by
 refine T.F__law_by.okZ sc__law_by (fun vs H Q E h=>?_) (fun cdv A outer s H vs Q E hr h hc hf=>?_)
 ·obtain ⟨a,b,rfl,_⟩:=h;rfl
 obtain ⟨M,k,rfl,ms,m,rfl,hM,lm,q⟩:=h
 refine ⟨_,(by exact zqss_one (zps_ret (zpe_callTy call_tupleL (glk hc (by decide +kernel)) T.z_tuple b_tuple (zpa_cons (zpek_comp hc ["_law_k"] [0,1] rfl (by decide +kernel) (zpi_range1 (glk hc (by decide +kernel)) T.z_range (zpa_cons (zpe_callB call_lenL (glk hc (by decide +kernel)) T.z_len b_len (zpa_cons (zpvk hc 0 (by decide +kernel)) zpa_nil)) zpa_nil)) (fun _ hc=>zpgb hc (by decide +kernel) 0 (by decide +kernel)) (fun _ hc=>zpifs_one (zpt_cmpR op_eq (zpe_op op_and (zpe_op op_shr (zpvk hc 2 (by decide +kernel)) (zpvk hc 0 (by decide +kernel))) zpe_int) zpe_int (nomark _))) (fun _ hc=>(zpe_ix ix_l (zpvk hc 1 (by decide +kernel)) (zpvk hc 0 (by decide +kernel)) (fun _ _=>rfl)))) zpa_nil)))),?_⟩
 repeat (first | walk_at "rd" | simp only [hM])
 refine ⟨by omega,by omega,?_⟩
 obtain ⟨Pd,hPd⟩:∃Pd:Addr->Nat->List V->Hp->Prop,∀Z2 i ys H'',Pd Z2 i ys H''↔ys=List.map V.int (byN ms m i)/\Same H H''/\H'' Z2=some (.lst ys):=⟨_,fun _ _ _ _=>Iff.rfl⟩
 refine compAll_rng Pd (fun Z2 hZ2=>(hPd _ _ _ _).mpr ⟨rfl,same_new hZ2 _,upd_same⟩) (fun Z2 hZ2 i ys H2 hi pv cb=>?_) (fun Z2 hZ2 ys H2 pv=>?_)
 ·obtain ⟨rfl,s2,hZ3⟩:=(hPd _ _ _ _).mp pv
  have hM2:=s2 _ _ hM
  have j1:i < ms.length:=by omega
  have e1:atI (List.map V.int ms) (i:Int)=some (.int (ms.getD i 0)):=atI_nat (by rw [List.getElem?_map,List.getElem?_eq_getElem j1,List.getD_eq_getElem?_getD,List.getElem?_eq_getElem j1];rfl)
  walk_at "rc"
  repeat (first | walk_at "rd" | simp only [hM2,e1])
  refine ⟨by omega,?_⟩
  rw [bit_at]
  have l:=byN_len (ms:=ms) (k:=m) (n:=i)
  by_cases c:m.testBit i=true
  ·rw [if_pos (by simp [c])]
   refine ⟨hZ3,small1000 (by omega),(hPd _ _ _ _).mpr ⟨?_,same_put' s2 hZ2,upd_same⟩⟩
   rw [byN,if_pos c,List.map_append];rfl
  ·rw [if_neg (by simp [c])]
   refine (hPd _ _ _ _).mpr ⟨?_,s2,hZ3⟩
   rw [byN,if_neg c,List.append_nil]
 ·obtain ⟨rfl,s2,hZ3⟩:=(hPd _ _ _ _).mp pv
  have e0:((ms.length:Int)).toNat=ms.length:=by simp
  rw [e0] at hZ3
  refine ⟨Z2,rfl,_,hZ3,fun p hp=>q p _ (s2.trans (same_new hp _)) (s2.free hp) ?_⟩
  exact upd_same
end
def spMembers:Sp:=fun vs H Q _=>∃h many,vs=[.ref h,.int many]/\∃n:Nat,many=(n:Int)/\n<=11/\HandAt H h/\∀R ms H',Dr h H H'->H R=none->H' R=some (.lst (List.map V.int ms))->ms.length=n->Rise ms->Q (.ref R) H'
section
variable {P:Program} {w:World} {K:PySem.W.Frag} {mg:Str->Option Value} {base:Heap} {t:Adr}
theorem ok_members (T:Txt K mg t):FnOk P w K mg base CX0 4 t.a__law_members t.d__law_members ["_law_hand_here","_law_many"] spMembers:=by
 have G__law_draw:=ok_draw (P:=P) (w:=w) (base:=base) T
 refine T.F__law_members.okZ sc__law_members (fun vs H Q E h=>?_) (fun cdv A outer s H vs Q E hr h hc hf=>?_)
 ·obtain ⟨h,m,rfl,_⟩:=h;rfl
 obtain ⟨h,_,rfl,n,rfl,hn,hd,q⟩:=h
 refine ⟨_,(by apply zqss_cons;exact (zpsk_set hc sc__law_members.nd hf 2 (by decide +kernel) (zpe_ix ix_l (zpe_lst (zpa_cons zpe_int (zpa_cons zpe_int (zpa_cons (zpe_op op_pow zpe_int zpe_int) (zpa_cons (zpe_op op_pow zpe_int zpe_int) zpa_nil))))) (zpe_call G__law_draw (hr.mono (by omega)) (glk hc (by decide +kernel)) T.m__law_draw T.F__law_draw.kp T.b__law_draw .nil pass0 (zpa_cons (zpvk hc 0 (by decide +kernel)) (zpa_cons zpe_int zpa_nil))) (fun _ _=>rfl)));apply zqss_cons;exact (zpsk_set hc sc__law_members.nd hf 3 (by decide +kernel) (zpe_ix ix_l (zpe_lst (zpa_cons zpe_int (zpa_cons zpe_int (zpa_cons (zpe_op op_pow zpe_int zpe_int) (zpa_cons (zpe_op op_pow zpe_int zpe_int) zpa_nil))))) (zpe_call G__law_draw (hr.mono (by omega)) (glk hc (by decide +kernel)) T.m__law_draw T.F__law_draw.kp T.b__law_draw .nil pass0 (zpa_cons (zpvk hc 0 (by decide +kernel)) (zpa_cons zpe_int zpa_nil))) (fun _ _=>rfl)));apply zqss_cons;exact (zpsk_set hc sc__law_members.nd hf 4 (by decide +kernel) (zpe_op op_sub (zpe_call G__law_draw (hr.mono (by omega)) (glk hc (by decide +kernel)) T.m__law_draw T.F__law_draw.kp T.b__law_draw .nil pass0 (zpa_cons (zpvk hc 0 (by decide +kernel)) (zpa_cons (zpe_op op_add (zpe_op op_mul zpe_int (zpvk hc 2 (by decide +kernel))) zpe_int) zpa_nil))) (zpvk hc 2 (by decide +kernel))));apply zqss_cons;exact (zpsk_set hc sc__law_members.nd hf 5 (by decide +kernel) (zpe_lst zpa_nil));apply zqss_cons;exact (zqs_for PassesOwn.never rfl (zpi_range1 (glk hc (by decide +kernel)) T.z_range (zpa_cons (zpvk hc 1 (by decide +kernel)) zpa_nil)) (zpgk hc sc__law_members.nd hf 6 (by decide +kernel)) (by apply zqss_cons;exact (zps_expr (zpe_bm PySem.F.plainAttrs_list PySem.F.slot_list_append PySem.F.type_list_append mt_append (zpvk hc 5 (by decide +kernel)) (zpa_cons (zpvk hc 4 (by decide +kernel)) zpa_nil)));exact zqss_one (zpsk_aug hc sc__law_members.nd hf 4 (by decide +kernel) (zpe_op op_add zpe_int (zpe_call G__law_draw (hr.mono (by omega)) (glk hc (by decide +kernel)) T.m__law_draw T.F__law_draw.kp T.b__law_draw .nil pass0 (zpa_cons (zpvk hc 0 (by decide +kernel)) (zpa_cons (zpvk hc 3 (by decide +kernel)) zpa_nil)))) ip_add)));exact zqss_one (zps_ret (zpvk hc 5 (by decide +kernel)))),?_⟩
 repeat (walk_at "rd")
 refine ⟨⟨by decide,by decide,by decide⟩,by decide,fun p hp=>?_⟩
 have d0:=(Dr.refl (h:=h) (H:=H)).new (o:=.lst [V.int 1,V.int 12,V.int 1000000000000000000,V.int 1000000000000000000000000000000000000000000000000000000000000]) hp
 have hph:p≠h:=hd.ne hp
 refine draw_by hd d0 (by decide) (by decide) fun r H1 r0 r1 d1 k1=>?_
 obtain ⟨z,ez,hz⟩:=four_at (a:=1) (b:=12) (c:=1000000000000000000) (d:=1000000000000000000000000000000000000000000000000000000000000) r0 r1
 refine ⟨_,rfl,_,by rw [k1 p hph];exact upd_same,_,ez,⟨by decide,by decide,by decide⟩,⟨by decide,by decide,by decide⟩,by decide,fun p2 hp2=>?_⟩
 have d2:=d1.new (o:=.lst [V.int 1,V.int 3,V.int 1000000000,V.int 10000000000000000000000000000000000000000000000000000000000]) hp2
 have hph2:p2≠h:=(d1.handAt hd).ne hp2
 refine draw_by hd d2 (by decide) (by decide) fun r' H2 r0' r1' d3 k3=>?_
 obtain ⟨st,es,hs⟩:=four_at (a:=1) (b:=3) (c:=1000000000) (d:=10000000000000000000000000000000000000000000000000000000000) r0' r1'
 have hz1:1<=z/\z<=1000000000000000000000000000000000000000000000000000000000000:=by omega
 have hs1:1<=st/\st<=10000000000000000000000000000000000000000000000000000000000:=by omega
 refine ⟨_,rfl,_,by rw [k3 p2 hph2];exact upd_same,_,es,?_⟩
 repeat (walk_at "rd")
 refine ⟨.inl (by decide),draw_by hd d3 (by omega) (by omega) fun at0 H3 a0 a1 d4 k4=>⟨_,rfl,by decide,fun R hR3=>?_⟩⟩
 have hR:H R=none:=d4.free hd hR3
 have hRh:R≠h:=hd.ne hR
 refine ⟨by omega,by omega,?_⟩
 obtain ⟨Pv,hPv⟩:∃Pv:Nat->St->Hp->Prop,∀i σ' H',Pv i σ' H'↔∃(v:Int) (y:Option V) (ms:List Int),σ'=[some (.ref h),some (.int (n:Int)),some (.int z),some (.int st),some (.int v),some (.ref R),y]/\Dr h H H'/\H' R=some (.lst (List.map V.int ms))/\ms.length=i/\Rise ms/\∀m∈ms,m < v:=⟨_,fun _ _ _=>Iff.rfl⟩
 refine forAll_rng Pv ((hPv _ _ _).mpr ⟨_,none,[],rfl,d4.new hR3,upd_same,rfl,List.Pairwise.nil,fun k hk=>by cases hk⟩) (fun i σ' H4 hi pv=>?_) (fun σ' H4 pv=>?_)
 ·obtain ⟨v,y,ms,rfl,d5,hR5,lm,rise,below⟩:=(hPv _ _ _).mp pv
  repeat (first | walk_at "rd" | simp only [hR5])
  refine ⟨.inl ⟨rfl,_,sqL_of hR5⟩,small1000 (by omega),?_⟩
  simp only [tAug,ipI]
  repeat (walk_at "rd")
  refine draw_by hd (d5.put hR) (by omega) (by omega) fun r H6 r0 r1 d6 k6=>?_
  refine ⟨_,rfl,(hPv _ _ _).mpr ⟨_,_,ms++[v],rfl,d6,by rw [k6 R hRh,upd_same,List.map_append];rfl,by rw [List.length_append];simp;omega,?_,fun m hm=>?_⟩⟩
  ·unfold Rise
   rw [List.pairwise_append]
   exact ⟨rise,by simp,fun a ha b hb=>by rw [show b=v by simpa using hb];exact below a ha⟩
  ·rcases List.mem_append.mp hm with u | u
   ·have:=below m u;omega
   ·have:m=v:=by simpa using u
    omega
 ·obtain ⟨v,y,ms,rfl,d5,hR5,lm,rise,below⟩:=(hPv _ _ _).mp pv
  repeat (walk_at "rd")
  exact q R ms H4 d5 hR hR5 (by omega) rise
end
def spMasks:Sp:=fun vs H Q _=>∃h many most,vs=[.ref h,.int many,.int most]/\∃n mo:Nat,many=(n:Int)/\most=(mo:Int)/\n<=10/\mo<=20/\HandAt H h/\∀R ks H',Dr h H H'->H R=none->H' R=some (.lst (List.map natV ks))->ks.length<=mo->(∀k∈ks,k < 2 ^ n)->Q (.ref R) H'
section
variable {P:Program} {w:World} {K:PySem.W.Frag} {mg:Str->Option Value} {base:Heap} {t:Adr}
theorem ok_masks (T:Txt K mg t):FnOk P w K mg base CX0 4 t.a__law_masks t.d__law_masks ["_law_hand_here","_law_many","_law_most"] spMasks:=by
 have G__law_draw:=ok_draw (P:=P) (w:=w) (base:=base) T
 refine T.F__law_masks.okZ sc__law_masks (fun vs H Q E h=>?_) (fun cdv A outer s H vs Q E hr h hc hf=>?_)
 ·obtain ⟨h,m,mo,rfl,_⟩:=h;rfl
 obtain ⟨h,_,_,rfl,n,mo,rfl,rfl,hn,hmo,hd,q⟩:=h
 have p8:=pow_le10 hn
 refine ⟨_,(by apply zqss_cons;exact (zpsk_set hc sc__law_masks.nd hf 3 (by decide +kernel) (zpe_lst zpa_nil));apply zqss_cons;exact (zqs_for PassesOwn.never rfl (zpi_range1 (glk hc (by decide +kernel)) T.z_range (zpa_cons (zpe_call G__law_draw (hr.mono (by omega)) (glk hc (by decide +kernel)) T.m__law_draw T.F__law_draw.kp T.b__law_draw .nil pass0 (zpa_cons (zpvk hc 0 (by decide +kernel)) (zpa_cons (zpe_op op_add (zpvk hc 2 (by decide +kernel)) zpe_int) zpa_nil))) zpa_nil)) (zpgk hc sc__law_masks.nd hf 4 (by decide +kernel)) (by apply zqss_cons;exact (zpsk_set hc sc__law_masks.nd hf 5 (by decide +kernel) (zpe_call G__law_draw (hr.mono (by omega)) (glk hc (by decide +kernel)) T.m__law_draw T.F__law_draw.kp T.b__law_draw .nil pass0 (zpa_cons (zpvk hc 0 (by decide +kernel)) (zpa_cons zpe_int zpa_nil))));apply zqss_cons;exact (zpsk_set hc sc__law_masks.nd hf 6 (by decide +kernel) (zpe_call G__law_draw (hr.mono (by omega)) (glk hc (by decide +kernel)) T.m__law_draw T.F__law_draw.kp T.b__law_draw .nil pass0 (zpa_cons (zpvk hc 0 (by decide +kernel)) (zpa_cons (zpe_op op_shl zpe_int (zpvk hc 1 (by decide +kernel))) zpa_nil))));apply zqss_cut;exact (zqs_if (zpt_cmpR op_lt (zpvk hc 5 (by decide +kernel)) zpe_int (nomark _)) (by exact zqss_one (zpsk_set hc sc__law_masks.nd hf 6 (by decide +kernel) (zpe_op op_and (zpvk hc 6 (by decide +kernel)) (zpe_call G__law_draw (hr.mono (by omega)) (glk hc (by decide +kernel)) T.m__law_draw T.F__law_draw.kp T.b__law_draw .nil pass0 (zpa_cons (zpvk hc 0 (by decide +kernel)) (zpa_cons (zpe_op op_shl zpe_int (zpvk hc 1 (by decide +kernel))) zpa_nil)))))) zqss_nil);apply zqss_cut;exact (zqs_if (zPWpt (zpw_and (zpt_cmpR op_eq (zpvk hc 5 (by decide +kernel)) zpe_int (nomark _)) (zpw_and1 (zpt_cmpR op_gt (zpe_callB call_lenL (glk hc (by decide +kernel)) T.z_len b_len (zpa_cons (zpvk hc 3 (by decide +kernel)) zpa_nil)) zpe_int (nomark _))))) (by exact zqss_one (zpsk_set hc sc__law_masks.nd hf 6 (by decide +kernel) (zpe_op op_or (zpvk hc 6 (by decide +kernel)) (zpe_ix ix_l (zpvk hc 3 (by decide +kernel)) (zpe_call G__law_draw (hr.mono (by omega)) (glk hc (by decide +kernel)) T.m__law_draw T.F__law_draw.kp T.b__law_draw .nil pass0 (zpa_cons (zpvk hc 0 (by decide +kernel)) (zpa_cons (zpe_callB call_lenL (glk hc (by decide +kernel)) T.z_len b_len (zpa_cons (zpvk hc 3 (by decide +kernel)) zpa_nil)) zpa_nil))) (fun _ _=>rfl))))) zqss_nil);apply zqss_cut;exact (zqs_if (zPWpt (zpw_and (zpt_cmpR op_eq (zpvk hc 5 (by decide +kernel)) zpe_int (nomark _)) (zpw_and1 (zpt_cmpR op_gt (zpe_callB call_lenL (glk hc (by decide +kernel)) T.z_len b_len (zpa_cons (zpvk hc 3 (by decide +kernel)) zpa_nil)) zpe_int (nomark _))))) (by exact zqss_one (zpsk_set hc sc__law_masks.nd hf 6 (by decide +kernel) (zpe_ix ix_l (zpvk hc 3 (by decide +kernel)) (zpe_call G__law_draw (hr.mono (by omega)) (glk hc (by decide +kernel)) T.m__law_draw T.F__law_draw.kp T.b__law_draw .nil pass0 (zpa_cons (zpvk hc 0 (by decide +kernel)) (zpa_cons (zpe_callB call_lenL (glk hc (by decide +kernel)) T.z_len b_len (zpa_cons (zpvk hc 3 (by decide +kernel)) zpa_nil)) zpa_nil))) (fun _ _=>rfl)))) zqss_nil);exact zqss_one (zps_expr (zpe_bm PySem.F.plainAttrs_list PySem.F.slot_list_append PySem.F.type_list_append mt_append (zpvk hc 3 (by decide +kernel)) (zpa_cons (zpvk hc 6 (by decide +kernel)) zpa_nil)))));exact zqss_one (zps_ret (zpvk hc 3 (by decide +kernel)))),?_⟩
 repeat (walk_at "rd")
 refine ⟨by decide,fun R hR=>?_⟩
 have d0:Dr h H (upd H R (.lst [])):=Dr.refl.new hR
 have hRh:R≠h:=hd.ne hR
 refine draw_by hd d0 (by omega) (by omega) fun c H1 c0 c1 d1 k1=>?_
 have hR1:H1 R=some (.lst []):=by rw [k1 R hRh];exact upd_same
 repeat (walk_at "rd")
 refine ⟨by omega,by omega,?_⟩
 obtain ⟨Pv,hPv⟩:∃Pv:Nat->St->Hp->Prop,∀i σ' H',Pv i σ' H'↔∃(x y z:Option V) (ks:List Nat),σ'=[some (.ref h),some (.int (n:Int)),some (.int (mo:Int)),some (.ref R),x,y,z]/\Dr h H H'/\H' R=some (.lst (List.map natV ks))/\ks.length=i/\∀k∈ks,k < 2 ^ n:=⟨_,fun _ _ _=>Iff.rfl⟩
 refine forAll_rng Pv ((hPv _ _ _).mpr ⟨none,none,none,[],rfl,d1,hR1,rfl,fun k hk=>by cases hk⟩) (fun i σ' H2 hi pv=>?_) (fun σ' H2 pv=>?_)
 ·obtain ⟨x,y,z,ks,rfl,d2,hR2,lk,bk⟩:=(hPv _ _ _).mp pv
  repeat (walk_at "rd")
  refine draw_by hd d2 (by decide) (by decide) fun way H3 w0 w1 d3 k3=>?_
  have hR3:H3 R=some (.lst (List.map natV ks)):=by rw [k3 R hRh];exact hR2
  repeat (walk_at "rd")
  have pw1:((1:Int) * 2 ^ ((n:Int)).toNat)=((2 ^ n:Nat):Int):=by rw [Int.toNat_natCast,Int.one_mul,Int.natCast_pow];rfl
  have pp:1<=2 ^ n:=Nat.one_le_two_pow
  have cp:CPow 1 (n:Int):=⟨by omega,by omega,by decide⟩
  refine ⟨cp,?_⟩
  rw [pw1]
  refine draw_by hd d3 (by omega) (by omega) fun r H4 r0 r1 d4 k4=>?_
  have hR4:H4 R=some (.lst (List.map natV ks)):=by rw [k4 R hRh];exact hR3
  obtain ⟨m,rfl,hm⟩:=nat_of r0 r1
  obtain ⟨Mid,hMid⟩:∃Mid:St->Hp->Prop,∀σ' H',Mid σ' H'↔∃m:Nat,σ'=[some (.ref h),some (.int (n:Int)),some (.int (mo:Int)),some (.ref R),some (.int (i:Int)),some (.int way),some (.int (m:Int))]/\Dr h H H'/\H' R=some (.lst (List.map natV ks))/\m < 2 ^ n:=⟨_,fun _ _=>Iff.rfl⟩
  have pick:∀(H5:Hp) (r:Int),0<=r->r < (ks.length:Int)->∃m:Nat,atI (List.map natV ks) r=some (.int (m:Int))/\m < 2 ^ n:=fun H5 r r0 r1=>by
   obtain ⟨j,rfl,hj⟩:=nat_of r0 r1
   exact ⟨ks[j],atI_nat (by rw [List.getElem?_map,List.getElem?_eq_getElem hj];rfl),bk _ (List.getElem_mem hj)⟩
  refine ⟨Mid,?_,fun σ' H5 hm5=>?_⟩
  ·repeat (walk_at "rd")
   split
   ·refine ⟨cp,?_⟩
    rw [pw1]
    refine draw_by hd d4 (by omega) (by omega) fun r H5 r0 r1 d5 k5=>?_
    obtain ⟨m',rfl,hm'⟩:=nat_of r0 r1
    repeat (walk_at "rd")
    rw [bitAnd_nat]
    exact (hMid _ _).mpr ⟨_,rfl,d5,by rw [k5 R hRh];exact hR4,Nat.lt_of_le_of_lt Nat.and_le_left hm⟩
   ·exact (hMid _ _).mpr ⟨m,rfl,d4,hR4,hm⟩
  ·obtain ⟨m,rfl,d5,hR5,hm⟩:=(hMid _ _).mp hm5
   refine ⟨Mid,?_,fun σ' H6 hm6=>?_⟩
   ·repeat (first | walk_at "rd" | simp only [hR5])
    have no:Mid [some (.ref h),some (.int (n:Int)),some (.int (mo:Int)),some (.ref R),some (.int (i:Int)),some (.int way),some (.int (m:Int))] H5:=(hMid _ _).mpr ⟨m,rfl,d5,hR5,hm⟩
    split
    ·split
     ·rename_i hl
      refine draw_by hd d5 (by omega) (by omega) fun r H6 r0 r1 d6 k6=>?_
      have hR6:H6 R=some (.lst (List.map natV ks)):=by rw [k6 R hRh];exact hR5
      obtain ⟨m',e',hm'⟩:=pick H6 r r0 r1
      refine ⟨_,rfl,_,hR6,_,e',_,rfl,?_⟩
      rw [bitOr_nat]
      exact (hMid _ _).mpr ⟨_,rfl,d6,hR6,Nat.or_lt_two_pow hm hm'⟩
     ·exact no
    ·exact no
   ·obtain ⟨m,rfl,d6,hR6,hm⟩:=(hMid _ _).mp hm6
    refine ⟨Mid,?_,fun σ' H7 hm7=>?_⟩
    ·repeat (first | walk_at "rd" | simp only [hR6])
     have no:Mid [some (.ref h),some (.int (n:Int)),some (.int (mo:Int)),some (.ref R),some (.int (i:Int)),some (.int way),some (.int (m:Int))] H6:=(hMid _ _).mpr ⟨m,rfl,d6,hR6,hm⟩
     split
     ·split
      ·rename_i hl
       refine draw_by hd d6 (by omega) (by omega) fun r H7 r0 r1 d7 k7=>?_
       have hR7:H7 R=some (.lst (List.map natV ks)):=by rw [k7 R hRh];exact hR6
       obtain ⟨m',e',hm'⟩:=pick H7 r r0 r1
       exact ⟨_,rfl,_,hR7,_,e',(hMid _ _).mpr ⟨m',rfl,d7,hR7,hm'⟩⟩
      ·exact no
     ·exact no
    ·obtain ⟨m,rfl,d7,hR7,hm⟩:=(hMid _ _).mp hm7
     repeat (first | walk_at "rd" | simp only [hR7])
     refine ⟨.inl ⟨rfl,_,sqL_of hR7⟩,small1000 (by omega),(hPv _ _ _).mpr ⟨_,_,_,ks++[m],rfl,d7.put hR,by rw [upd_same,List.map_append];rfl,by rw [List.length_append];simp;omega,fun k hk=>?_⟩⟩
     rcases List.mem_append.mp hk with z | z
     ·exact bk k z
     ·rw [show k=m by simpa using z];exact hm
 ·obtain ⟨x,y,z,ks,rfl,d2,hR2,lk,bk⟩:=(hPv _ _ _).mp pv
  repeat (walk_at "rd")
  exact q R ks H2 d2 hR hR2 (by omega) bk
end
local macro_rules | `(tactic| walk_at "rd") => `(tactic| walk_at "rc")
local macro_rules | `(tactic| walk_at "rl") => `(tactic| first | (refine seq_op fun R hR => ?_) | walk_at "ry" | (refine Nx.to (by assumption) _ _ ?_))
inductive Tr where
 | clash (s:List Int) | peace (s:List Int) | ask (m:Int) (a b:Tr)
def TrAt (H:Hp):Tr->Addr->Prop
 | .clash s,p=>∃q,H p=some (.tup [.str (Str.ofString "clash"),.ref q])/\H q=some (.tup (List.map V.int s))
 | .peace s,p=>∃q,H p=some (.tup [.str (Str.ofString "peace"),.ref q])/\H q=some (.tup (List.map V.int s))
 | .ask m a b,p=>∃q r,H p=some (.tup [.str (Str.ofString "ask"),.int m,.ref q,.ref r])/\TrAt H a q/\TrAt H b r
def TupsI (H H':Hp):Prop:=∀q xs,H q=some (.tup xs)->H' q=some (.tup xs)
theorem TrAt.mono {H H':Hp} (k:TupsI H H'):∀{r:Tr} {p:Addr},TrAt H r p->TrAt H' r p
 | .clash _,_,⟨q,e,f⟩=>⟨q,k _ _ e,k _ _ f⟩
 | .peace _,_,⟨q,e,f⟩=>⟨q,k _ _ e,k _ _ f⟩
 | .ask _ _ _,_,⟨q,r,e,a,b⟩=>⟨q,r,k _ _ e,TrAt.mono k a,TrAt.mono k b⟩
def Tr.deep:Tr->Nat
 | .ask _ a b=>max a.deep b.deep+1
 | _=>1
def Good (W:List Int) (cs ps:List (List Int)):Tr->List Int->List Int->Prop
 | .clash s,hd,_=>s∈cs/\∀m∈s,m∈hd
 | .peace s,_,la=>s∈ps/\∀m∈W,m∉s->m∈la
 | .ask m a b,hd,la=>m∈W/\m∉hd/\m∉la/\Good W cs ps a (hd++[m]) la/\Good W cs ps b hd (la++[m])
structure Node (W:List Int) (cs ps:List (List Int)) (u hd la:List Int) (c p:List (List Int)):Prop where
 whole:∀m,m∈W↔m∈u\/m∈hd\/m∈la
 nd:u.Nodup
 nh:∀m∈u,m∉hd/\m∉la
 hl:∀m∈hd,m∉la
 mc:∀s,s∈c↔s∈cs/\∀m∈s,m∉la
 mp:∀s,s∈p↔s∈ps/\∀m∈hd,m∈s
 sub:∀s∈cs,∀m∈s,m∈W
 cover:∀S:List Int,(∀m∈S,m∈W)->(∃s∈cs,∀m∈s,m∈S)\/∃s∈ps,∀m∈S,m∈s
theorem rest_same {s u:List Int}:restF s u=s↔∀m∈s,m∉u:=by
 unfold restF
 rw [List.filter_eq_self]
 simp
theorem Node.none {W:List Int} {cs ps:List (List Int)} {hd la:List Int} {c p:List (List Int)} (n:Node W cs ps [] hd la c p) (h1:∀s∈c,restF s []≠s) (h2:∀s∈p,isPart [] s≠true):False:=by
 rcases n.cover hd fun m hm=>(n.whole m).mpr (.inr (.inl hm)) with ⟨s,hs,h⟩ | ⟨s,hs,h⟩
 ·exact h1 s ((n.mc s).mpr ⟨hs,fun m hm=>n.hl m (h m hm)⟩) (rest_same.mpr fun _ _ z=>nomatch z)
 ·exact h2 s ((n.mp s).mpr ⟨hs,h⟩) rfl
theorem Node.one {W:List Int} {cs ps:List (List Int)} {m:Int} {u hd la:List Int} {c p:List (List Int)} (n:Node W cs ps (m::u) hd la c p):Node W cs ps u (hd++[m]) la c (p.filter fun s=>decide (m∈s)):=by
 have nd:=List.nodup_cons.mp n.nd
 refine ⟨fun x=>?_,nd.2,fun x hx=>⟨fun z=>?_,(n.nh x (List.mem_cons_of_mem _ hx)).2⟩,fun x hx=>?_,n.mc,fun s=>?_,n.sub,n.cover⟩
 ·rw [n.whole,List.mem_cons,List.mem_append,List.mem_singleton]
  constructor
  ·rintro ((h | h) | h | h)
   ·exact .inr (.inl (.inr h))
   ·exact .inl h
   ·exact .inr (.inl (.inl h))
   ·exact .inr (.inr h)
  ·rintro (h | (h | h) | h)
   ·exact .inl (.inr h)
   ·exact .inr (.inl h)
   ·exact .inl (.inl h)
   ·exact .inr (.inr h)
 ·rcases List.mem_append.mp z with z | z
  ·exact (n.nh x (List.mem_cons_of_mem _ hx)).1 z
  ·rw [List.mem_singleton.mp z] at hx;exact nd.1 hx
 ·rcases List.mem_append.mp hx with z | z
  ·exact n.hl x z
  ·rw [List.mem_singleton.mp z];exact (n.nh m List.mem_cons_self).2
 ·rw [List.mem_filter,n.mp,decide_eq_true_eq,and_assoc]
  refine and_congr Iff.rfl ⟨fun ⟨h1,h2⟩ x hx=>?_,fun h=>⟨fun x hx=>h x (List.mem_append_left _ hx),h m (by simp)⟩⟩
  rcases List.mem_append.mp hx with z | z
  ·exact h1 x z
  ·rw [List.mem_singleton.mp z];exact h2
theorem Node.other {W:List Int} {cs ps:List (List Int)} {m:Int} {u hd la:List Int} {c p:List (List Int)} (n:Node W cs ps (m::u) hd la c p):Node W cs ps u hd (la++[m]) (c.filter fun s=>decide (m∉s)) p:=by
 have nd:=List.nodup_cons.mp n.nd
 refine ⟨fun x=>?_,nd.2,fun x hx=>⟨(n.nh x (List.mem_cons_of_mem _ hx)).1,fun z=>?_⟩,fun x hx z=>?_,fun s=>?_,n.mp,n.sub,n.cover⟩
 ·rw [n.whole,List.mem_cons,List.mem_append,List.mem_singleton]
  constructor
  ·rintro ((h | h) | h | h)
   ·exact .inr (.inr (.inr h))
   ·exact .inl h
   ·exact .inr (.inl h)
   ·exact .inr (.inr (.inl h))
  ·rintro (h | h | h | h)
   ·exact .inl (.inr h)
   ·exact .inr (.inl h)
   ·exact .inr (.inr h)
   ·exact .inl (.inl h)
 ·rcases List.mem_append.mp z with z | z
  ·exact (n.nh x (List.mem_cons_of_mem _ hx)).2 z
  ·rw [List.mem_singleton.mp z] at hx;exact nd.1 hx
 ·rcases List.mem_append.mp z with z | z
  ·exact n.hl x hx z
  ·rw [List.mem_singleton.mp z] at hx;exact (n.nh m List.mem_cons_self).1 hx
 ·rw [List.mem_filter,n.mc,decide_eq_true_eq,and_assoc]
  refine and_congr Iff.rfl ⟨fun ⟨h1,h2⟩ x hx z=>?_,fun h=>⟨fun x hx z=>h x hx (List.mem_append_left _ z),fun z=>h m z (by simp)⟩⟩
  rcases List.mem_append.mp z with z | z
  ·exact h1 x hx z
  ·rw [List.mem_singleton.mp z] at hx;exact h2 hx
def spFrom (n:Nat):Sp:=fun vs H Q _=>∃U C Pc,vs=[.ref U,.ref C,.ref Pc]/\∃(u:List Int) (bc bp:List Addr) (c p:List (List Int)) (W:List Int) (cs ps:List (List Int)) (hd la:List Int),H U=some (.tup (List.map V.int u))/\H C=some (.lst (List.map V.ref bc))/\SetsAt H bc c/\H Pc=some (.lst (List.map V.ref bp))/\SetsAt H bp p/\
 u.length < n/\u.length<=100/\c.length<=900/\p.length<=900/\(∀s∈cs,s.length<=100)/\Node W cs ps u hd la c p/\
 ∀r tr H',Same H H'->TrAt H' tr r->Good W cs ps tr hd la->tr.deep<=u.length+1->Q (.ref r) H'
section
variable {P:Program} {w:World} {K:PySem.W.Frag} {mg:Str->Option Value} {base:Heap} {t:Adr}
theorem ok_from (T:Txt K mg t):∀n:Nat,FnOk P w K mg base CX0 (n+2) t.a_tree_from t.d_tree_from ["unasked","clashes","peaces"] (spFrom n)
 | 0=>T.F_tree_from.okZ (k:=1) sc_tree_from (fun vs H Q E h=>by obtain ⟨U,C,Pc,rfl,_⟩:=h;rfl) (fun cdv A outer s H vs Q E hr h hc hf=>by obtain ⟨U,C,Pc,rfl,u,bc,bp,c,p,W,cs,ps,hd,la,_,_,_,_,_,h1,_⟩:=h;omega)
 | n+1=>by
  have G_rest_of:=ok_rest (P:=P) (w:=w) (base:=base) T
  have G_is_part:=ok_is_part (P:=P) (w:=w) (base:=base) T
  have G_tree_from:=ok_from T n
  refine T.F_tree_from.okZ (k:=n+2) sc_tree_from (fun vs H Q E h=>?_) (fun cdv A outer s H vs Q E hr h hc hf=>?_)
  ·obtain ⟨U,C,Pc,rfl,_⟩:=h;rfl
  obtain ⟨U,C,Pc,rfl,u,bc,bp,c,p,W,cs,ps,hd,la,hU,hC,sc,hP,sp,hn,lu,lc,lp,ls,nod,q⟩:=h
  have hu:=hu_of hr
  have hu0:=hr.units0
  refine ⟨_,(by apply zqss_cons;exact (zqs_for PassesOwn.never rfl (zpi_list (zpvk hc 1 (by decide +kernel))) (zpgk hc sc_tree_from.nd hf 3 (by decide +kernel)) (by exact zqss_one (zqs_if (zpt_cmpR (op_eqTI hu) (zpe_call G_rest_of (hr.mono (by omega)) (glk hc (by decide +kernel)) T.m_rest_of T.F_rest_of.kp T.b_rest_of .nil pass0 (zpa_cons (zpvk hc 3 (by decide +kernel)) (zpa_cons (zpvk hc 0 (by decide +kernel)) zpa_nil))) (zpvk hc 3 (by decide +kernel)) (nomark _)) (by exact zqss_one (zps_ret (zpe_tup (zpa_cons zpe_str (zpa_cons (zpvk hc 3 (by decide +kernel)) zpa_nil))))) zqss_nil)));apply zqss_cons;exact (zqs_for PassesOwn.never rfl (zpi_list (zpvk hc 2 (by decide +kernel))) (zpgk hc sc_tree_from.nd hf 4 (by decide +kernel)) (by exact zqss_one (zqs_if (zpt_val (zpe_call G_is_part (hr.mono (by omega)) (glk hc (by decide +kernel)) T.m_is_part T.F_is_part.kp T.b_is_part .nil pass0 (zpa_cons (zpvk hc 0 (by decide +kernel)) (zpa_cons (zpvk hc 4 (by decide +kernel)) zpa_nil)))) (by exact zqss_one (zps_ret (zpe_tup (zpa_cons zpe_str (zpa_cons (zpvk hc 4 (by decide +kernel)) zpa_nil))))) zqss_nil)));apply zqss_cons;exact (zpsk_set hc sc_tree_from.nd hf 5 (by decide +kernel) (zpe_ix ix_t (zpvk hc 0 (by decide +kernel)) zpe_int (fun _ _=>rfl)));apply zqss_cons;exact (zpsk_set hc sc_tree_from.nd hf 6 (by decide +kernel) (zpe_call G_tree_from (hr.mono (by omega)) (glk hc (by decide +kernel)) T.m_tree_from T.F_tree_from.kp T.b_tree_from .nil pass0 (zpa_cons (zpe_slice sl_t (zpvk hc 0 (by decide +kernel)) (zpo_some zpe_int) zpo_none) (zpa_cons (zpvk hc 1 (by decide +kernel)) (zpa_cons (zpek_comp hc ["peace"] [5] rfl (by decide +kernel) (zpi_list (zpvk hc 2 (by decide +kernel))) (fun _ hc=>zpgb hc (by decide +kernel) 0 (by decide +kernel)) (fun _ hc=>zpifs_one (zpt_cmpR op_inT (zpvk hc 1 (by decide +kernel)) (zpvk hc 0 (by decide +kernel)) (by with_unfolding_all rfl))) (fun _ hc=>(zpvk hc 0 (by decide +kernel)))) zpa_nil)))));apply zqss_cons;exact (zpsk_set hc sc_tree_from.nd hf 7 (by decide +kernel) (zpe_call G_tree_from (hr.mono (by omega)) (glk hc (by decide +kernel)) T.m_tree_from T.F_tree_from.kp T.b_tree_from .nil pass0 (zpa_cons (zpe_slice sl_t (zpvk hc 0 (by decide +kernel)) (zpo_some zpe_int) zpo_none) (zpa_cons (zpek_comp hc ["clash"] [5] rfl (by decide +kernel) (zpi_list (zpvk hc 1 (by decide +kernel))) (fun _ hc=>zpgb hc (by decide +kernel) 0 (by decide +kernel)) (fun _ hc=>zpifs_one (zpt_cmpR op_notInT (zpvk hc 1 (by decide +kernel)) (zpvk hc 0 (by decide +kernel)) (by with_unfolding_all rfl))) (fun _ hc=>(zpvk hc 0 (by decide +kernel)))) (zpa_cons (zpvk hc 2 (by decide +kernel)) zpa_nil)))));exact zqss_one (zps_ret (zpe_tup (zpa_cons zpe_str (zpa_cons (zpvk hc 5 (by decide +kernel)) (zpa_cons (zpvk hc 6 (by decide +kernel)) (zpa_cons (zpvk hc 7 (by decide +kernel)) zpa_nil))))))),?_⟩
  repeat (walk_at "rl")
  refine ⟨⟨_,sqL_of hC⟩,?_⟩
  obtain ⟨Pv,hPv⟩:∃Pv:Nat->St->Hp->Prop,∀i σ' H',Pv i σ' H'↔∃(x:Option V),σ'=[some (.ref U),some (.ref C),some (.ref Pc),x,none,none,none,none]/\Same H H'/\∀s∈c.take i,restF s u≠s:=⟨_,fun _ _ _=>Iff.rfl⟩
  refine forAll_list (xs:=List.map V.ref bc) Pv ((hPv _ _ _).mpr ⟨none,rfl,fun _ _ z=>z,fun s hs=>by simp at hs⟩) (fun i σ' H' _ pv=>?_) (fun i z σ' H1 hz pv=>?_) (fun σ' H1 pv=>?_)
  ·obtain ⟨_,_,s,_⟩:=(hPv _ _ _).mp pv
   exact s _ _ hC
  ·obtain ⟨x,rfl,s1,no⟩:=(hPv _ _ _).mp pv
   obtain ⟨b,eb,rfl⟩:=ref_at hz
   have hi:i < bc.length:=(List.getElem?_eq_some_iff.mp eb).1
   have ec:c[i]? = some (c[i]'(by have:=sc.1;omega)):=List.getElem?_eq_getElem _
   have hb:=s1 _ _ (sc.2 i b _ eb ec)
   have hcs:=(nod.mc _).mp (List.mem_of_getElem? ec)
   generalize c[i]'(by have:=sc.1;omega)=s at ec hb hcs
   repeat (walk_at "rl")
   refine ⟨b,U,rfl,s,u,hb,s1 _ _ hU,Nat.le_trans (ls s hcs.1) (by decide),fun r H2 s2 hr2 er=>?_⟩
   refine ⟨r,rfl,_,er,_,s2 _ _ hb,?_⟩
   by_cases e:restF s u=s
   ·rw [if_pos e]
    refine ⟨by decide,fun p hp=>q p (.clash s) _ ((s1.trans s2).trans (same_new hp _)) ⟨b,upd_same,same_new hp _ _ _ (s2 _ _ hb)⟩ ⟨hcs.1,fun m hm=>?_⟩ (by show 1<=_;omega)⟩
    rcases (nod.whole m).mp (nod.sub s hcs.1 m hm) with z | z | z
    ·exact absurd z (rest_same.mp e m hm)
    ·exact z
    ·exact absurd z (hcs.2 m hm)
   ·rw [if_neg e]
    refine (hPv _ _ _).mpr ⟨_,rfl,s1.trans s2,fun s' hs'=>?_⟩
    rw [List.take_add_one,ec] at hs'
    rcases List.mem_append.mp hs' with z | z
    ·exact no s' z
    ·rw [show s'=s by simpa using z];exact e
  obtain ⟨x,rfl,s1,no⟩:=(hPv _ _ _).mp pv
  rw [List.length_map,sc.1,List.take_length] at no
  clear hPv pv Pv
  repeat (walk_at "rl")
  refine ⟨⟨_,sqL_of (s1 _ _ hP)⟩,?_⟩
  obtain ⟨Pv,hPv⟩:∃Pv:Nat->St->Hp->Prop,∀i σ' H',Pv i σ' H'↔∃(y:Option V),σ'=[some (.ref U),some (.ref C),some (.ref Pc),x,y,none,none,none]/\Same H1 H'/\∀s∈p.take i,isPart u s≠true:=⟨_,fun _ _ _=>Iff.rfl⟩
  refine forAll_list (xs:=List.map V.ref bp) Pv ((hPv _ _ _).mpr ⟨none,rfl,fun _ _ z=>z,fun s hs=>by simp at hs⟩) (fun i σ' H' _ pv=>?_) (fun i z σ' H2 hz pv=>?_) (fun σ' H2 pv=>?_)
  ·obtain ⟨_,_,s,_⟩:=(hPv _ _ _).mp pv
   exact s _ _ (s1 _ _ hP)
  ·obtain ⟨y,rfl,s2,no2⟩:=(hPv _ _ _).mp pv
   obtain ⟨b,eb,rfl⟩:=ref_at hz
   have hi:i < bp.length:=(List.getElem?_eq_some_iff.mp eb).1
   have ec:p[i]? = some (p[i]'(by have:=sp.1;omega)):=List.getElem?_eq_getElem _
   have s12:=s1.trans s2
   have hb:=s12 _ _ (sp.2 i b _ eb ec)
   have hps:=(nod.mp _).mp (List.mem_of_getElem? ec)
   generalize p[i]'(by have:=sp.1;omega)=s at ec hb hps
   repeat (walk_at "rl")
   refine ⟨U,b,rfl,u,s,s12 _ _ hU,hb,?_⟩
   repeat (walk_at "rl")
   by_cases e:isPart u s=true
   ·rw [if_pos e]
    refine ⟨by decide,fun p hp=>q p (.peace s) _ (s12.trans (same_new hp _)) ⟨b,upd_same,same_new hp _ _ _ hb⟩ ⟨hps.1,fun m hm hs=>?_⟩ (by show 1<=_;omega)⟩
    rcases (nod.whole m).mp hm with z | z | z
    ·exact absurd (of_decide_eq_true (List.all_eq_true.mp e m z)) hs
    ·exact absurd (hps.2 m z) hs
    ·exact z
   ·rw [if_neg e]
    refine (hPv _ _ _).mpr ⟨_,rfl,s2,fun s' hs'=>?_⟩
    rw [List.take_add_one,ec] at hs'
    rcases List.mem_append.mp hs' with z | z
    ·exact no2 s' z
    ·rw [show s'=s by simpa using z];exact e
  obtain ⟨y,rfl,s2,no2⟩:=(hPv _ _ _).mp pv
  rw [List.length_map,sp.1,List.take_length] at no2
  clear hPv pv Pv
  have s12:=s1.trans s2
  cases u with
  | nil=>exact (nod.none no no2).elim
  | cons m u=>
   have hU2:=s12 _ _ hU
   have hC2:=s12 _ _ hC
   have hP2:=s12 _ _ hP
   have lu':u.length < n:=by simp at hn;omega
   repeat (first | walk_at "rl" | simp only [hU2])
   have ecut:cutV (V.int m::List.map V.int u) (some 1) none=List.map V.int u:=by
    have:=cutV_map V.int (m::u) (some 1) none
    rw [List.map_cons] at this
    rw [this]
    have e1:HT.sIx (m::u).length 0 (some 1)=1:=by simp [HT.sIx]
    have e2:HT.sIx (m::u).length (m::u).length none=(m::u).length:=rfl
    rw [e1,e2]
    simp
   have hw:¬(HT.sIx (u.length+1) 0 (some 1)=0/\HT.sIx (u.length+1) (u.length+1) none=u.length+1):=by
    simp [HT.sIx]
   refine ⟨hw,fun U1 hU1=>?_⟩
   rw [ecut]
   have t1:=same_new hU1 (.tup (List.map V.int u))
   have hU1':upd H2 U1 (HO.tup (List.map V.int u)) U1=some (.tup (List.map V.int u)):=upd_same
   generalize upd H2 U1 (HO.tup (List.map V.int u))=H3 at t1 hU1'
   have hP3:=t1 _ _ hP2
   have sp3:SetsAt H3 bp p:=sp.mono fun _ _ e=>(s12.trans t1) _ _ e
   refine ⟨⟨_,sqL_of hP3⟩,?_⟩
   refine compS_list (zs:=List.map V.ref bp) (fun k=>if (p[k]?.any fun s=>decide (m∈s)) then p[k]? else none) (fun _=>RSet) RSet.same RSet.puts hP3 (by rw [List.length_map,sp.1];omega) (fun D3 c3 H4 k z3 yes3 no3 hk s3 hD3 hDx3 hyes3 hno3=>?_) (fun D3 H4 ws s3 hD3 hD33 rw3=>?_)
   ·obtain ⟨b,eb,rfl⟩:=ref_at hk
    have hk1:k < bp.length:=(List.getElem?_eq_some_iff.mp eb).1
    have es:p[k]? = some (p[k]'(by have:=sp.1;omega)):=List.getElem?_eq_getElem _
    rw [es] at hyes3 hno3
    have hb:=s3 _ _ (sp3.2 k b _ eb es)
    walk_at "rc"
    repeat (first | walk_at "rl" | simp only [hb])
    refine ⟨rfl,flat_ints _,?_⟩
    rw [inV_ints]
    by_cases hm:m∈p[k]'(by have:=sp.1;omega)
    ·rw [if_pos (by simpa using hm)]
     exact hyes3 _ (if_pos (by simpa using hm)) _ _ (fun _ _ e=>e) ⟨b,rfl,hb⟩
    ·rw [if_neg (by simpa using hm)]
     exact hno3 (if_neg (by simpa using hm)) _ fun _ _ e=>e
   obtain ⟨bp1,rfl,sp4⟩:=sets_of rw3
   rw [List.length_map,sp.1,fm_filter (l:=p) (p:=fun s=>decide (m∈s)) fun k hk=>by rw [List.getElem?_eq_getElem hk];rfl] at sp4
   have lp4:=List.length_filter_le (fun s=>decide (m∈s)) p
   have s4:=t1.trans s3
   refine ⟨U1,C,D3,rfl,u,bc,bp1,c,_,W,cs,ps,_,la,s3 _ _ hU1',s4 _ _ hC2,sc.mono (fun _ _ e=>(s12.trans s4) _ _ e),hD33,sp4,lu',by simp at lu;omega,lc,by omega,ls,nod.one,fun r1 tr1 H5 s5 ra5 go5 de5=>?_⟩
   have s5':=s4.trans s5
   have hU5:=s5' _ _ hU2
   have hC5:=s5' _ _ hC2
   have hP5:=s5' _ _ hP2
   repeat (first | walk_at "rl" | simp only [hU5])
   refine ⟨hw,fun U3 hU3=>?_⟩
   rw [ecut]
   have t6:=same_new hU3 (.tup (List.map V.int u))
   have hU6:upd H5 U3 (HO.tup (List.map V.int u)) U3=some (.tup (List.map V.int u)):=upd_same
   generalize upd H5 U3 (HO.tup (List.map V.int u))=H6 at t6 hU6
   have hC6:=t6 _ _ hC5
   have sc6:SetsAt H6 bc c:=sc.mono fun _ _ e=>t6 _ _ (s5' _ _ (s12 _ _ e))
   refine ⟨⟨_,sqL_of hC6⟩,?_⟩
   refine compS_list (zs:=List.map V.ref bc) (fun k=>if (c[k]?.any fun s=>decide (m∉s)) then c[k]? else none) (fun _=>RSet) RSet.same RSet.puts hC6 (by rw [List.length_map,sc.1];omega) (fun D7 c3 H7 k z3 yes3 no3 hk s7 hD7 hDx3 hyes3 hno3=>?_) (fun D7 H7 ws s7 hD7 hD77 rw7=>?_)
   ·obtain ⟨b,eb,rfl⟩:=ref_at hk
    have hk1:k < bc.length:=(List.getElem?_eq_some_iff.mp eb).1
    have es:c[k]? = some (c[k]'(by have:=sc.1;omega)):=List.getElem?_eq_getElem _
    rw [es] at hyes3 hno3
    have hb:=s7 _ _ (sc6.2 k b _ eb es)
    walk_at "rc"
    repeat (first | walk_at "rl" | simp only [hb])
    refine ⟨rfl,flat_ints _,?_⟩
    rw [inV_ints]
    by_cases hm:m∈c[k]'(by have:=sc.1;omega)
    ·rw [if_neg (by simpa using hm)]
     exact hno3 (if_neg (by simpa using hm)) _ fun _ _ e=>e
    ·rw [if_pos (by simpa using hm)]
     exact hyes3 _ (if_pos (by simpa using hm)) _ _ (fun _ _ e=>e) ⟨b,rfl,hb⟩
   obtain ⟨bc7,rfl,sc7⟩:=sets_of rw7
   rw [List.length_map,sc.1,fm_filter (l:=c) (p:=fun s=>decide (m∉s)) fun k hk=>by rw [List.getElem?_eq_getElem hk];rfl] at sc7
   have lc7:=List.length_filter_le (fun s=>decide (m∉s)) c
   have s57:=t6.trans s7
   refine ⟨U3,D7,Pc,rfl,u,bc7,bp,_,p,W,cs,ps,hd,_,s7 _ _ hU6,hD77,sc7,s57 _ _ hP5,sp.mono (fun _ _ e=>s57 _ _ (s5' _ _ (s12 _ _ e))),lu',by simp at lu;omega,by omega,lp,ls,nod.other,fun r2 tr2 H8 s8 ra8 go8 de8=>?_⟩
   have s58:=s57.trans s8
   repeat (walk_at "rl")
   refine ⟨by decide,fun p0 hp0=>q p0 (.ask m tr1 tr2) _ (((s12.trans s5').trans s58).trans (same_new hp0 _)) ⟨r1,r2,upd_same,ra5.mono fun _ _ e=>same_new hp0 _ _ _ (s58 _ _ e),ra8.mono fun _ _ e=>same_new hp0 _ _ _ e⟩ ⟨(nod.whole m).mpr (.inl List.mem_cons_self),(nod.nh m List.mem_cons_self).1,(nod.nh m List.mem_cons_self).2,go5,go8⟩ ?_⟩
   show max tr1.deep tr2.deep+1<=u.length+1+1
   omega
end
local macro_rules | `(tactic| walk_at "rd") => `(tactic| walk_at "rc")
local macro_rules | `(tactic| walk_at "rl") => `(tactic| first | (refine seq_op fun R hR => ?_) | walk_at "ry" | (refine Nx.to (by assumption) _ _ ?_))
theorem subsF_sub {x t:List Int} (h:t∈subsF x):∀m∈t,m∈x:=by
 have:∀(x:List Int) (y:List Int) (ps:List (List Int)),(∀p∈ps,∀m∈p,m∈y)->∀t∈x.foldl stepF ps,∀m∈t,m∈y\/m∈x:=fun x=>by
  induction x with
  | nil=>intro y ps h t ht m hm;exact .inl (h t ht m hm)
  | cons k x ih=>
   intro y ps h t ht m hm
   rw [List.foldl_cons] at ht
   have st:∀p∈stepF ps k,∀z∈p,z∈y++[k]:=fun p hp z hz=>by
    unfold stepF at hp
    rcases List.mem_append.mp hp with hp | hp
    ·exact List.mem_append_left _ (h p hp z hz)
    ·obtain ⟨c,hc,rfl⟩:=List.mem_map.mp hp
     rcases List.mem_append.mp hz with hz | hz
     ·exact List.mem_append_left _ (h c hc z hz)
     ·exact List.mem_append_right _ hz
   rcases ih (y++[k]) _ st t ht m hm with a | a
   ·rcases List.mem_append.mp a with a | a
    ·exact .inl a
    ·rw [List.mem_singleton.mp a];exact .inr List.mem_cons_self
   ·exact .inr (List.mem_cons_of_mem _ a)
 intro m hm
 exact (this x [] [[]] (by simp) t h m hm).elim (fun z=>nomatch z) id
theorem Node.start {W:List Int} {cs ps:List (List Int)} (nd:W.Nodup) (sub:∀s∈cs,∀m∈s,m∈W) (cover:∀S:List Int,(∀m∈S,m∈W)->(∃s∈cs,∀m∈s,m∈S)\/∃s∈ps,∀m∈S,m∈s):Node W cs ps W [] [] cs ps:=
 ⟨fun m=>by simp,nd,fun _ _=>by simp,fun _ z=>(nomatch z),fun s=>by simp,fun s=>by simp,sub,cover⟩
def openB (cs ps:List (List Int)) (S:List Int):Bool:=!(cs.any fun t=>isPart t S) && !(ps.any fun t=>isPart S t)
theorem cover_of {W:List Int} {cs ps:List (List Int)} (rW:Rise W) (h:∀S∈subsF W,openB cs ps S=false) :
  ∀S:List Int,(∀m∈S,m∈W)->(∃s∈cs,∀m∈s,m∈S)\/∃s∈ps,∀m∈S,m∈s:=fun S sub=>by
 have hf:(W.filter fun m=>decide (m∈S))∈subsF W:=mem_subsF_of _ rfl rW (List.Pairwise.filter _ rW) fun m hm=>(List.mem_filter.mp hm).1
 have e:=h _ hf
 unfold openB at e
 rw [Bool.and_eq_false_iff,Bool.not_eq_false',Bool.not_eq_false',List.any_eq_true,List.any_eq_true] at e
 rcases e with ⟨s,hs,e⟩ | ⟨s,hs,e⟩
 ·exact .inl ⟨s,hs,fun m hm=>of_decide_eq_true (List.mem_filter.mp (isPart_iff.mp e m hm)).2⟩
 ·exact .inr ⟨s,hs,fun m hm=>isPart_iff.mp e m (List.mem_filter.mpr ⟨sub m hm,decide_eq_true hm⟩)⟩
def spTreeOf:Sp:=fun vs H Q _=>∃U C Pc,vs=[.ref U,.ref C,.ref Pc]/\∃(bc bp:List Addr) (W:List Int) (cs ps:List (List Int)),H U=some (.tup (List.map V.int W))/\H C=some (.lst (List.map V.ref bc))/\SetsAt H bc cs/\H Pc=some (.lst (List.map V.ref bp))/\SetsAt H bp ps/\
 W.length<=7/\Rise W/\cs.length<=900/\ps.length<=900/\(∀s∈cs,s.length<=100)/\(∀s∈cs,∀m∈s,m∈W)/\
 (∀p b S H',Same H H'->H' p=some (.tup [.str (Str.ofString "open"),.ref b])->H' b=some (.tup (List.map V.int S))->S∈subsF W->openB cs ps S=true->(∀S'∈subsF W,openB cs ps S'=true->S'=S\/setLt S S'=true)->Q (.ref p) H')/\
 ((∀S∈subsF W,openB cs ps S=false)->∀p r tr H',Same H H'->H' p=some (.tup [.str (Str.ofString "tree"),.ref r])->TrAt H' tr r->Good W cs ps tr [] []->tr.deep<=8->Q (.ref p) H')
section
variable {P:Program} {w:World} {K:PySem.W.Frag} {mg:Str->Option Value} {base:Heap} {t:Adr}
theorem ok_tree_of (T:Txt K mg t):FnOk P w K mg base CX0 11 t.a_tree_of t.d_tree_of ["whole","clashes","peaces"] spTreeOf:=by
 have G_parts_of:=ok_parts (P:=P) (w:=w) (base:=base) T
 have G_holds_one_of:=ok_holds_one (P:=P) (w:=w) (base:=base) T
 have G_lies_in_one_of:=ok_lies_one (P:=P) (w:=w) (base:=base) T
 have G_tree_from:=ok_from (P:=P) (w:=w) (base:=base) T 8
 refine T.F_tree_of.okZ sc_tree_of (fun vs H Q E h=>?_) (fun cdv A outer s H vs Q E hr h hc hf=>?_)
 ·obtain ⟨U,C,Pc,rfl,_⟩:=h;rfl
 obtain ⟨U,C,Pc,rfl,bc,bp,W,cs,ps,hU,hC,sc,hP,sp,lW,rW,lc,lp,ls,sub,qo,q⟩:=h
 have hu:=hu_of hr
 have hu0:=hr.units0
 refine ⟨_,(by apply zqss_cons;exact (zqs_for PassesOwn.never rfl (zpi_list (zpe_call G_parts_of (hr.mono (by omega)) (glk hc (by decide +kernel)) T.m_parts_of T.F_parts_of.kp T.b_parts_of .nil pass0 (zpa_cons (zpvk hc 0 (by decide +kernel)) zpa_nil))) (zpgk hc sc_tree_of.nd hf 3 (by decide +kernel)) (by exact zqss_one (zqs_if (zPWpt (zpw_and (zpt_not (zpt_val (zpe_call G_holds_one_of (hr.mono (by omega)) (glk hc (by decide +kernel)) T.m_holds_one_of T.F_holds_one_of.kp T.b_holds_one_of .nil pass0 (zpa_cons (zpvk hc 3 (by decide +kernel)) (zpa_cons (zpvk hc 1 (by decide +kernel)) zpa_nil))))) (zpw_and1 (zpt_not (zpt_val (zpe_call G_lies_in_one_of (hr.mono (by omega)) (glk hc (by decide +kernel)) T.m_lies_in_one_of T.F_lies_in_one_of.kp T.b_lies_in_one_of .nil pass0 (zpa_cons (zpvk hc 3 (by decide +kernel)) (zpa_cons (zpvk hc 2 (by decide +kernel)) zpa_nil)))))))) (by exact zqss_one (zps_ret (zpe_tup (zpa_cons zpe_str (zpa_cons (zpvk hc 3 (by decide +kernel)) zpa_nil))))) zqss_nil)));exact zqss_one (zps_ret (zpe_tup (zpa_cons zpe_str (zpa_cons (zpe_call G_tree_from (hr.mono (by omega)) (glk hc (by decide +kernel)) T.m_tree_from T.F_tree_from.kp T.b_tree_from .nil pass0 (zpa_cons (zpvk hc 0 (by decide +kernel)) (zpa_cons (zpvk hc 1 (by decide +kernel)) (zpa_cons (zpvk hc 2 (by decide +kernel)) zpa_nil)))) zpa_nil))))),?_⟩
 repeat (walk_at "rl")
 refine ⟨U,rfl,W,hU,by omega,fun D H1 bs ts s1 hD hD1 st ndt mt pw=>?_⟩
 repeat (walk_at "rl")
 refine ⟨⟨_,sqL_of hD1⟩,?_⟩
 obtain ⟨Pv,hPv⟩:∃Pv:Nat->St->Hp->Prop,∀i σ' H',Pv i σ' H'↔∃(x:Option V),σ'=[some (.ref U),some (.ref C),some (.ref Pc),x]/\H'=H1/\∀S∈ts.take i,openB cs ps S=false:=⟨_,fun _ _ _=>Iff.rfl⟩
 refine forAll_list (xs:=List.map V.ref bs) Pv ((hPv _ _ _).mpr ⟨none,rfl,rfl,fun _ h=>by simp at h⟩) (fun i σ' H' _ pv=>?_) (fun i z σ' H2 hz pv=>?_) (fun σ' H2 pv=>?_)
 ·obtain ⟨_,_,rfl,_⟩:=(hPv _ _ _).mp pv
  exact hD1
 ·obtain ⟨x,rfl,rfl,no⟩:=(hPv _ _ _).mp pv
  obtain ⟨b,eb,rfl⟩:=ref_at hz
  have hi:i < bs.length:=(List.getElem?_eq_some_iff.mp eb).1
  have hi':i < ts.length:=by have:=st.1;omega
  have ec:ts[i]? = some (ts[i]'hi'):=List.getElem?_eq_getElem _
  have hb:=st.2 i b _ eb ec
  have hmem:=(mt _).mp (List.mem_of_getElem? ec)
  have first:openB cs ps ts[i]=true->∀S'∈subsF W,openB cs ps S'=true->S'=ts[i]\/setLt ts[i] S'=true:=fun _ S' hS' e'=>by
   obtain ⟨j,hj,rfl⟩:=List.mem_iff_getElem.mp ((mt S').mpr hS')
   rcases Nat.lt_trichotomy j i with h | h | h
   ·rw [no _ (List.mem_take_iff_getElem.mpr ⟨j,by omega,rfl⟩)] at e';cases e'
   ·subst h;exact .inl rfl
   ·exact .inr ((List.pairwise_iff_getElem.mp pw) i j hi' hj h)
  have tk:ts.take (i+1)=ts.take i++[ts[i]]:=by rw [List.take_add_one,ec];rfl
  generalize ts[i]'hi'=S at ec hb hmem first tk
  repeat (walk_at "rl")
  refine ⟨b,C,rfl,S,bc,cs,hb,s1 _ _ hC,sc.mono (fun _ _ e=>s1 _ _ e),?_⟩
  repeat (walk_at "rl")
  have nx:openB cs ps S=false->Pv (i+1) [some (V.ref U),some (V.ref C),some (V.ref Pc),some (V.ref b)] H2:=fun e=>(hPv _ _ _).mpr ⟨_,rfl,rfl,fun S' hS'=>by
   rw [tk] at hS'
   rcases List.mem_append.mp hS' with h | h
   ·exact no S' h
   ·rw [List.mem_singleton.mp h];exact e⟩
  by_cases e:(cs.any fun t=>isPart t S)=true
  ·rw [e];exact nx (by unfold openB;rw [e];rfl)
  rw [Bool.not_eq_true] at e
  rw [e]
  refine ⟨b,Pc,rfl,S,bp,ps,hb,s1 _ _ hP,sp.mono (fun _ _ e=>s1 _ _ e),_,rfl,?_⟩
  by_cases e2:(ps.any fun t=>isPart S t)=true
  ·rw [show (ps.any fun t=>if true=true then isPart S t else isPart t S)=true from e2]
   exact nx (by unfold openB;rw [e,e2];rfl)
  rw [Bool.not_eq_true] at e2
  rw [show (ps.any fun t=>if true=true then isPart S t else isPart t S)=false from e2]
  have op:openB cs ps S=true:=by unfold openB;rw [e,e2];rfl
  repeat (walk_at "rl")
  refine ⟨by decide,fun p hp=>qo p b S _ (s1.trans (same_new hp _)) upd_same (same_new hp _ _ _ hb) hmem op (first op)⟩
 obtain ⟨x,rfl,rfl,no⟩:=(hPv _ _ _).mp pv
 rw [List.length_map,st.1,List.take_length] at no
 clear hPv pv Pv
 have none:∀S∈subsF W,openB cs ps S=false:=fun S hS=>no S ((mt S).mpr hS)
 repeat (walk_at "rl")
 refine ⟨U,C,Pc,rfl,W,bc,bp,cs,ps,W,cs,ps,[],[],s1 _ _ hU,s1 _ _ hC,sc.mono (fun _ _ e=>s1 _ _ e),s1 _ _ hP,sp.mono (fun _ _ e=>s1 _ _ e),by omega,by omega,lc,lp,ls,Node.start (rW.imp fun h=>Int.ne_of_lt h) sub (cover_of rW none),fun r tr H3 s3 ra go de=>?_⟩
 repeat (walk_at "rl")
 refine ⟨by decide,fun p hp=>q none p r tr _ ((s1.trans s3).trans (same_new hp _)) upd_same (ra.mono fun _ _ e=>same_new hp _ _ _ e) go (by omega)⟩
end
local macro_rules | `(tactic| walk_at "rd") => `(tactic| walk_at "rc")
local macro_rules | `(tactic| walk_at "rl") => `(tactic| first | (refine seq_op fun R hR => ?_) | walk_at "ry" | (refine Nx.to (by assumption) _ _ ?_))
def spPick (g:Nat->Nat->Nat):Sp:=fun vs H Q _=>∃L,vs=[.ref L]/\∃ks:List Nat,H L=some (.lst (List.map natV ks))/\ks.length<=900/\∀p H',Same H H'->H p=none->H' p=some (.lst (List.map natV (pickM g ks)))->Q (.ref p) H'
section
variable {P:Program} {w:World} {K:PySem.W.Frag} {mg:Str->Option Value} {base:Heap} {t:Adr}
theorem ok_pickg (T:Txt K mg t):FnOk P w K mg base CX0 1 t.a__law_greatest t.d__law_greatest ["_law_masks_here"] (spPick fun _ a=>a):=by
 refine T.F__law_greatest.okZ sc__law_greatest (fun vs H Q E h=>?_) (fun cdv A outer s H vs Q E hr h hc hf=>?_)
 ·obtain ⟨a,rfl,_⟩:=h;rfl
 obtain ⟨L,rfl,ks,hL,lk,q⟩:=h
 refine ⟨_,(by exact zqss_one (zps_ret (zpek_compD hc ["_law_one"] ["_law_one"] [0] rfl (by decide +kernel) (zpi_list (zpvk hc 0 (by decide +kernel))) (fun _ hc=>zpgd hc (by decide +kernel) 0 (by decide +kernel) (by decide +kernel)) (fun _ hc=>zpifs_one (zpt_not (zpt_val (zpe_callB (call_anyB hr.hd) (glk hc (by decide +kernel)) T.z_any b_any (zpa_cons (zpek_comp hc ["_law_two"] [0] rfl (by decide +kernel) (zpi_list (zpvk hc 1 (by decide +kernel))) (fun _ hc=>zpgb hc (by decide +kernel) 0 (by decide +kernel)) (fun _ _=>zpifs_nil) (fun _ hc=>(zpe_and (zpe_cmpR op_ne (zpvk hc 0 (by decide +kernel)) (zpvk hc 1 (by decide +kernel)) (nomark _)) (zpe_one (zpe_cmpR op_eq (zpe_op op_and (zpvk hc 0 (by decide +kernel)) (zpvk hc 1 (by decide +kernel))) (zpvk hc 1 (by decide +kernel)) (nomark _)))))) zpa_nil))))) (fun _ hc=>(zpvk hc 0 (by decide +kernel)))))),?_⟩
 repeat (walk_at "rd")
 refine ⟨⟨_,sqL_of hL⟩,?_⟩
 obtain ⟨Pc,hPc⟩:∃Pc:Addr->Nat->List V->Hp->Prop,∀Z i ys H',Pc Z i ys H'↔ys=List.map natV ((ks.take i).filter (pickP (fun _ a=>a) ks))/\Same H H'/\H' Z=some (.lst ys):=⟨_,fun _ _ _ _=>Iff.rfl⟩
 refine compAll_list (zs:=List.map natV ks) Pc (fun Z hZ=>(hPc _ _ _ _).mpr ⟨rfl,same_new hZ _,upd_same⟩) (fun Z hZ i ys H' _ pv=>?_) (fun Z hZ i z ys H' hz pv cb=>?_) (fun Z hZ ys H' pv=>?_)
 ·obtain ⟨_,s,_⟩:=(hPc _ _ _ _).mp pv
  exact s _ _ hL
 ·obtain ⟨rfl,s1,hZ1⟩:=(hPc _ _ _ _).mp pv
  obtain ⟨k,ek,rfl⟩:=nat_at hz
  have hi:i < ks.length:=(List.getElem?_eq_some_iff.mp ek).1
  have hL1:=s1 _ _ hL
  have tf:=take_filter (p:=pickP (fun _ a=>a) ks) ek
  have ll:((ks.take i).filter (pickP (fun _ a=>a) ks)).length<=i:=Nat.le_trans (List.length_filter_le _ _) (by rw [List.length_take];omega)
  walk_at "rc"
  repeat (walk_at "rd")
  refine ⟨⟨_,sqL_of hL1⟩,?_⟩
  obtain ⟨Pd,hPd⟩:∃Pd:Addr->Nat->List V->Hp->Prop,∀Z2 j ys H'',Pd Z2 j ys H''↔ys=List.map V.bl ((ks.take j).map fun b=>decide (b≠k) && decide (b &&& k=k))/\Same H' H''/\H'' Z2=some (.lst ys):=⟨_,fun _ _ _ _=>Iff.rfl⟩
  refine compAll_list (zs:=List.map natV ks) Pd (fun Z2 hZ2=>(hPd _ _ _ _).mpr ⟨rfl,same_new hZ2 _,upd_same⟩) (fun Z2 hZ2 j ys H2 _ pv=>?_) (fun Z2 hZ2 j z ys H2 hz pv cb=>?_) (fun Z2 hZ2 ys H2 pv=>?_)
  ·obtain ⟨_,s,_⟩:=(hPd _ _ _ _).mp pv
   exact s _ _ hL1
  ·obtain ⟨rfl,s2,hZ3⟩:=(hPd _ _ _ _).mp pv
   obtain ⟨b,eb,rfl⟩:=nat_at hz
   have hj:j < ks.length:=(List.getElem?_eq_some_iff.mp eb).1
   have ls:((ks.take j).map fun b=>decide (b≠k) && decide (b &&& k=k)).length < 1000:=by rw [List.length_map,List.length_take];omega
   walk_at "rc"
   repeat (walk_at "rd")
   have lz:(ks.take j).length < sizeLine:=small1000 (by rw [List.length_take];omega)
   by_cases c:b=k
   ·rw [if_neg (by simp [c])]
    refine ⟨hZ3,lz,(hPd _ _ _ _).mpr ⟨?_,same_put' s2 hZ2,upd_same⟩⟩
    rw [List.take_add_one,eb,List.map_append,List.map_append]
    simp [c]
   ·rw [if_pos (by simp;omega),bitAnd_nat]
    have e:decide (((b &&& k:Nat):Int)=(k:Int))=(decide (b≠k) && decide (b &&& k=k)):=by
     rw [decide_eq_true (show b≠k from c),Bool.true_and];exact decide_eq_decide.mpr (by omega)
    rw [e]
    refine ⟨hZ3,lz,(hPd _ _ _ _).mpr ⟨?_,same_put' s2 hZ2,upd_same⟩⟩
    rw [List.take_add_one,eb,List.map_append,List.map_append]
    rfl
  ·obtain ⟨rfl,s2,hZ3⟩:=(hPd _ _ _ _).mp pv
   rw [List.length_map,List.take_length] at hZ3
   refine ⟨Z2,rfl,_,hZ3,?_⟩
   rw [any_ids]
   repeat (walk_at "rd")
   by_cases c:(!(ks.any fun b=>decide (b≠k) && decide (b &&& k=k)))=true
   ·rw [if_pos c]
    rw [if_pos (show pickP (fun _ a=>a) ks k=true from c)] at tf
    refine ⟨s2 _ _ hZ1,small1000 (by omega),(hPc _ _ _ _).mpr ⟨?_,same_put' (s1.trans s2) hZ,upd_same⟩⟩
    rw [tf,List.map_append];rfl
   ·rw [if_neg c]
    rw [if_neg (show ¬pickP (fun _ a=>a) ks k=true from c),List.append_nil] at tf
    refine (hPc _ _ _ _).mpr ⟨?_,s1.trans s2,s2 _ _ hZ1⟩
    rw [tf]
 ·obtain ⟨rfl,s1,hZ1⟩:=(hPc _ _ _ _).mp pv
  rw [List.length_map,List.take_length] at hZ1
  repeat (walk_at "rd")
  exact q Z H' s1 hZ hZ1
end
theorem pick_above {ks:List Nat} {N:Nat} (bk:∀k∈ks,k < N):∀(d a:Nat),a∈ks->N - a<=d->∃g∈pickM (fun _ a=>a) ks,a &&& g=a
 | 0,a,ha,h=>by have:=bk a ha;omega
 | d+1,a,ha,h=>by
  by_cases c:pickP (fun _ a=>a) ks a=true
  ·exact ⟨a,List.mem_filter.mpr ⟨ha,c⟩,Nat.and_self a⟩
  ·unfold pickP at c
   rw [Bool.not_eq_true,Bool.not_eq_false',List.any_eq_true] at c
   obtain ⟨b,hb,e⟩:=c
   rw [Bool.and_eq_true,decide_eq_true_eq,decide_eq_true_eq] at e
   have le:a<=b:=by have:=@Nat.and_le_left b a;rw [e.2] at this;exact this
   have hb':=bk b hb
   obtain ⟨g,hg,eg⟩:=pick_above bk d b hb (by have:=e.1;omega)
   refine ⟨g,hg,?_⟩
   have:a &&& b=a:=by rw [Nat.and_comm];exact e.2
   calc a &&& g=(a &&& b) &&& g:=by rw [this]
    _=a &&& (b &&& g):=Nat.and_assoc _ _ _
    _=a:=by rw [eg,this]
def CoverM (n:Nat) (cs ps:List Nat):Prop:=∀k,k < 2 ^ n->(∃c∈cs,c &&& k=c)\/∃p∈ps,k &&& p=k
def spPair:Sp:=fun vs H Q _=>∃h many,vs=[.ref h,.int many]/\∃n:Nat,many=(n:Int)/\n<=7/\HandAt H h/\∀p C Pc cs ps H',Dr h H H'->H' p=some (.tup [.ref C,.ref Pc])->H C=none->H Pc=none->C≠Pc->H' C=some (.lst (List.map natV cs))->H' Pc=some (.lst (List.map natV ps))->cs.length<=2 ^ n->ps.length<=6->(∀k∈cs,k < 2 ^ n)->(∀k∈ps,k < 2 ^ n)->CoverM n cs ps->Q (.ref p) H'
section
variable {P:Program} {w:World} {K:PySem.W.Frag} {mg:Str->Option Value} {base:Heap} {t:Adr}
theorem ok_pair (T:Txt K mg t):FnOk P w K mg base CX0 5 t.a__law_pair t.d__law_pair ["_law_hand_here","_law_many"] spPair:=by
 have G__law_masks:=ok_masks (P:=P) (w:=w) (base:=base) T
 have G__law_greatest:=ok_pickg (P:=P) (w:=w) (base:=base) T
 refine T.F__law_pair.okZ sc__law_pair (fun vs H Q E h=>?_) (fun cdv A outer s H vs Q E hr h hc hf=>?_)
 ·obtain ⟨h,m,rfl,_⟩:=h;rfl
 obtain ⟨h,_,rfl,n,rfl,hn,hd,q⟩:=h
 have p7:2 ^ n<=128:=Nat.le_trans (Nat.pow_le_pow_right (by decide) hn) (by decide)
 have hu:=hu_of hr
 have hu0:=hr.units0
 refine ⟨_,(by apply zqss_cons;exact (zpsk_set hc sc__law_pair.nd hf 2 (by decide +kernel) (zpe_call G__law_masks (hr.mono (by omega)) (glk hc (by decide +kernel)) T.m__law_masks T.F__law_masks.kp T.b__law_masks .nil pass0 (zpa_cons (zpvk hc 0 (by decide +kernel)) (zpa_cons (zpvk hc 1 (by decide +kernel)) (zpa_cons zpe_int zpa_nil)))));apply zqss_cons;exact (zpsk_set hc sc__law_pair.nd hf 3 (by decide +kernel) (zpe_call G__law_greatest (hr.mono (by omega)) (glk hc (by decide +kernel)) T.m__law_greatest T.F__law_greatest.kp T.b__law_greatest .nil pass0 (zpa_cons (zpvk hc 2 (by decide +kernel)) zpa_nil)));apply zqss_cons;exact (zpsk_set hc sc__law_pair.nd hf 4 (by decide +kernel) (zpe_lst zpa_nil));apply zqss_cons;exact (zqs_for PassesOwn.never rfl (zpi_range1 (glk hc (by decide +kernel)) T.z_range (zpa_cons (zpe_op op_shl zpe_int (zpvk hc 1 (by decide +kernel))) zpa_nil)) (zpgk hc sc__law_pair.nd hf 5 (by decide +kernel)) (by exact zqss_one (zqs_if (zpt_not (zpt_val (zpe_callB (call_anyB hr.hd) (glk hc (by decide +kernel)) T.z_any b_any (zpa_cons (zpek_comp hc ["_law_one"] [5] rfl (by decide +kernel) (zpi_list (zpvk hc 2 (by decide +kernel))) (fun _ hc=>zpgb hc (by decide +kernel) 0 (by decide +kernel)) (fun _ _=>zpifs_nil) (fun _ hc=>(zpe_cmpR op_eq (zpe_op op_and (zpvk hc 1 (by decide +kernel)) (zpvk hc 0 (by decide +kernel))) (zpvk hc 1 (by decide +kernel)) (nomark _)))) zpa_nil)))) (by exact zqss_one (zqs_if (zpt_not (zpt_val (zpe_callB (call_anyB hr.hd) (glk hc (by decide +kernel)) T.z_any b_any (zpa_cons (zpek_comp hc ["_law_one"] [5] rfl (by decide +kernel) (zpi_list (zpvk hc 4 (by decide +kernel))) (fun _ hc=>zpgb hc (by decide +kernel) 0 (by decide +kernel)) (fun _ _=>zpifs_nil) (fun _ hc=>(zpe_cmpR op_eq (zpe_op op_and (zpvk hc 0 (by decide +kernel)) (zpvk hc 1 (by decide +kernel))) (zpvk hc 0 (by decide +kernel)) (nomark _)))) zpa_nil)))) (by exact zqss_one (zps_expr (zpe_bm PySem.F.plainAttrs_list PySem.F.slot_list_append PySem.F.type_list_append mt_append (zpvk hc 4 (by decide +kernel)) (zpa_cons (zpvk hc 5 (by decide +kernel)) zpa_nil)))) zqss_nil)) zqss_nil)));exact zqss_one (zps_ret (zpe_tup (zpa_cons (zpvk hc 4 (by decide +kernel)) (zpa_cons (zpvk hc 3 (by decide +kernel)) zpa_nil))))),?_⟩
 repeat (walk_at "rl")
 refine ⟨h,_,_,rfl,n,6,rfl,rfl,by omega,by decide,hd,fun R ks H1 d1 hR hR1 lk bk=>?_⟩
 repeat (walk_at "rl")
 refine ⟨R,rfl,ks,hR1,by omega,fun G H2 s2 hG hG2=>?_⟩
 repeat (walk_at "rl")
 refine ⟨by decide,fun C hC=>?_⟩
 have d2:Dr h H H2:=d1.on s2
 have d3:Dr h H (upd H2 C (.lst [])):=d2.new hC
 have hCR:C≠R:=fun e=>by rw [e,s2 _ _ hR1] at hC;cases hC
 have hCG:C≠G:=fun e=>by rw [e,hG2] at hC;cases hC
 have hR3:upd H2 C (.lst []) R=some (.lst (List.map natV ks)):=by rw [upd_ne hCR.symm];exact s2 _ _ hR1
 have hG3:upd H2 C (.lst []) G=some (.lst (List.map natV (pickM (fun _ a=>a) ks))):=by rw [upd_ne hCG.symm];exact hG2
 have hC3:upd H2 C (.lst []) C=some (.lst []):=upd_same
 have hC0:H C=none:=d2.free hd hC
 generalize upd H2 C (.lst [])=H3 at d3 hR3 hG3 hC3 ⊢
 repeat (walk_at "rl")
 have pw1:((1:Int) * 2 ^ ((n:Int)).toNat)=((2 ^ n:Nat):Int):=by rw [Int.toNat_natCast,Int.one_mul,Int.natCast_pow];rfl
 have cp:CPow 1 (n:Int):=⟨by omega,by omega,by decide⟩
 refine ⟨cp,?_⟩
 rw [pw1]
 generalize hN:2 ^ n=N at p7 bk ⊢
 refine ⟨by omega,by omega,?_⟩
 obtain ⟨Pv,hPv⟩:∃Pv:Nat->St->Hp->Prop,∀i σ' H',Pv i σ' H'↔∃(x:Option V) (cs:List Nat),σ'=[some (.ref h),some (.int (n:Int)),some (.ref R),some (.ref G),some (.ref C),x]/\Dr h H H'/\H' R=some (.lst (List.map natV ks))/\H' G=some (.lst (List.map natV (pickM (fun _ a=>a) ks)))/\H' C=some (.lst (List.map natV cs))/\cs.length<=i/\(∀k∈cs,k < N)/\∀k,k < i->(∃c∈cs,c &&& k=c)\/∃p∈ks,k &&& p=k:=⟨_,fun _ _ _=>Iff.rfl⟩
 refine forAll_rng Pv ((hPv _ _ _).mpr ⟨none,[],rfl,d3,hR3,hG3,hC3,Nat.le_refl _,fun _ z=>(nomatch z),fun _ z=>absurd z (Nat.not_lt_zero _)⟩) (fun i σ' H4 hi pv=>?_) (fun σ' H4 pv=>?_)
 ·obtain ⟨x,cs,rfl,d4,hR4,hG4,hC4,lc,bc,cov⟩:=(hPv _ _ _).mp pv
  rw [Int.toNat_natCast] at hi
  repeat (walk_at "rl")
  refine ⟨⟨_,sqL_of hR4⟩,?_⟩
  refine compS_list (zs:=List.map natV ks) (fun j=>ks[j]?.map fun k=>V.bl (decide (i &&& k=i))) (fun _=>RVal) (fun _ _ _ _ _ _ r=>r) (fun _ _ _ _ _ _ _ r=>r) hR4 (by rw [List.length_map];omega) (fun DD c H5 j z yes no hj s5 hDD hDx hyes hno=>?_) (fun D H5 vs s5 hD hD5 rl=>?_)
  ·obtain ⟨k,ek,rfl⟩:=nat_at hj
   rw [ek] at hyes
   walk_at "rc"
   repeat (walk_at "rl")
   rw [bitAnd_nat,show decide (((i &&& k:Nat):Int)=(i:Int))=decide (i &&& k=i) from decide_eq_decide.mpr (by omega)]
   exact hyes _ rfl _ _ (fun _ _ e=>e) rfl
  ·have ev:=vals_is rl
   rw [List.length_map,fm_map (l:=ks) (g:=fun k=>V.bl (decide (i &&& k=i))) fun k hk=>by rw [List.getElem?_eq_getElem hk];rfl] at ev
   subst ev
   repeat (walk_at "rl")
   refine ⟨ks.map fun k=>decide (i &&& k=i),by rw [hD5,List.map_map];rfl,?_⟩
   have d5:=d4.on s5
   have hC5:=s5 _ _ hC4
   rw [List.any_map]
   by_cases e:(ks.any (id ∘ fun k=>decide (i &&& k=i)))=true
   ·rw [e]
    refine (hPv _ _ _).mpr ⟨_,cs,rfl,d5,s5 _ _ hR4,s5 _ _ hG4,hC5,by omega,bc,fun k hk=>?_⟩
    by_cases ki:k=i
    ·obtain ⟨b,hb,eb⟩:=List.any_eq_true.mp e
     rw [ki];exact .inr ⟨b,hb,of_decide_eq_true eb⟩
    ·exact cov k (by omega)
   rw [Bool.not_eq_true] at e
   rw [e]
   refine ⟨⟨_,sqL_of hC5⟩,?_⟩
   refine compS_list (zs:=List.map natV cs) (fun j=>cs[j]?.map fun k=>V.bl (decide (k &&& i=k))) (fun _=>RVal) (fun _ _ _ _ _ _ r=>r) (fun _ _ _ _ _ _ _ r=>r) hC5 (by rw [List.length_map];omega) (fun DD c H6 j z yes no hj s6 hDD hDx hyes hno=>?_) (fun D6 H6 vs s6 hD6 hD66 rl=>?_)
   ·obtain ⟨k,ek,rfl⟩:=nat_at hj
    rw [ek] at hyes
    walk_at "rc"
    repeat (walk_at "rl")
    rw [bitAnd_nat,show decide (((k &&& i:Nat):Int)=(k:Int))=decide (k &&& i=k) from decide_eq_decide.mpr (by omega)]
    exact hyes _ rfl _ _ (fun _ _ e=>e) rfl
   have ev:=vals_is rl
   rw [List.length_map,fm_map (l:=cs) (g:=fun k=>V.bl (decide (k &&& i=k))) fun k hk=>by rw [List.getElem?_eq_getElem hk];rfl] at ev
   subst ev
   refine ⟨D6,rfl,cs.map fun k=>decide (k &&& i=k),by rw [hD66,List.map_map];rfl,?_⟩
   have d6:=d5.on s6
   have hC6:=s6 _ _ hC5
   have s46:=s5.trans s6
   rw [List.any_map]
   by_cases e2:(cs.any (id ∘ fun k=>decide (k &&& i=k)))=true
   ·rw [e2]
    refine (hPv _ _ _).mpr ⟨_,cs,rfl,d6,s46 _ _ hR4,s46 _ _ hG4,hC6,by omega,bc,fun k hk=>?_⟩
    by_cases ki:k=i
    ·obtain ⟨b,hb,eb⟩:=List.any_eq_true.mp e2
     rw [ki];exact .inl ⟨b,hb,of_decide_eq_true eb⟩
    ·exact cov k (by omega)
   rw [Bool.not_eq_true] at e2
   rw [e2]
   refine ⟨.inl ⟨rfl,_,sqL_of hC6⟩,_,hC6,small1000 (by rw [List.length_map];omega),(hPv _ _ _).mpr ⟨_,cs++[i],rfl,d6.put hC0,by rw [upd_ne hCR.symm];exact s46 _ _ hR4,by rw [upd_ne hCG.symm];exact s46 _ _ hG4,by rw [upd_same,List.map_append];rfl,by simp;omega,fun k hk=>?_,fun k hk=>?_⟩⟩
   ·rcases List.mem_append.mp hk with z | z
    ·exact bc k z
    ·rw [List.mem_singleton.mp z];exact hi
   ·by_cases ki:k=i
    ·rw [ki];exact .inl ⟨i,by simp,Nat.and_self i⟩
    ·rcases cov k (by omega) with ⟨c,hc,ec⟩ | z
     ·exact .inl ⟨c,List.mem_append_left _ hc,ec⟩
     ·exact .inr z
 obtain ⟨x,cs,rfl,d4,hR4,hG4,hC4,lc,bc,cov⟩:=(hPv _ _ _).mp pv
 rw [Int.toNat_natCast] at lc cov
 clear hPv pv Pv
 repeat (walk_at "rl")
 subst hN
 have lg:(pickM (fun _ a=>a) ks).length<=6:=Nat.le_trans (List.length_filter_le _ _) lk
 refine ⟨by decide,fun p hp=>q p C G cs _ _ (d4.new hp) upd_same hC0 ?_ hCG (same_new hp _ _ _ hC4) (same_new hp _ _ _ hG4) (by omega) lg bc (fun k hk=>bk k (List.mem_filter.mp hk).1) fun k hk=>?_⟩
 ·exact d1.free hd hG
 ·rcases cov k hk with a | ⟨p,hp,e⟩
  ·exact .inl a
  ·obtain ⟨g,hg,eg⟩:=pick_above bk _ p hp (Nat.le_refl _)
   refine .inr ⟨g,hg,?_⟩
   calc k &&& g=(k &&& p) &&& g:=by rw [e]
    _=k &&& (p &&& g):=Nat.and_assoc _ _ _
    _=k:=by rw [eg,e]
end
local macro_rules | `(tactic| walk_at "rd") => `(tactic| walk_at "rc")
local macro_rules | `(tactic| walk_at "rl") => `(tactic| first | (refine seq_op fun R hR => ?_) | walk_at "ry" | (refine Nx.to (by assumption) _ _ ?_))
def PrAt (H:Hp) (zs:List (Addr×List Int)):Prop:=∀z∈zs,H z.1=some (.tup (List.map V.int z.2))
def refOf (z:Addr×List Int):V:=.ref z.1
theorem PrAt.sets {H:Hp} {zs:List (Addr×List Int)} (p:PrAt H zs):SetsAt H (zs.map Prod.fst) (zs.map Prod.snd):=by
 refine ⟨by simp,fun i b t hb ht=>?_⟩
 rw [List.getElem?_map] at hb ht
 cases e:zs[i]? with
 | none=>rw [e] at hb;cases hb
 | some z=>
  rw [e] at hb ht
  cases hb;cases ht
  exact p z (List.mem_of_getElem? e)
theorem pr_of {H:Hp} {bs:List Addr} {ts:List (List Int)} (s:SetsAt H bs ts):∃zs:List (Addr×List Int),bs=zs.map Prod.fst/\ts=zs.map Prod.snd/\PrAt H zs:=by
 refine ⟨bs.zip ts,(List.map_fst_zip (Nat.le_of_eq s.1)).symm,(List.map_snd_zip (Nat.le_of_eq s.1.symm)).symm,fun z hz=>?_⟩
 obtain ⟨i,hi,rfl⟩:=List.mem_iff_getElem.mp hz
 rw [List.length_zip] at hi
 rw [List.getElem_zip]
 exact s.2 i _ _ (List.getElem?_eq_getElem (by omega)) (List.getElem?_eq_getElem (by omega))
def spLists:Sp:=fun vs H Q _=>∃h M L,vs=[.ref h,.ref M,.ref L]/\HandAt H h/\M≠h/\L≠h/\∃(ms:List Int) (ks:List Nat),H M=some (.lst (List.map V.int ms))/\ms.length<=100/\H L=some (.lst (List.map natV ks))/\ks.length<=200/\
 ∀R bs ts H',Dr h H H'->H R=none->H' R=some (.lst (List.map V.ref bs))->SetsAt H' bs ts->ts.length<=ks.length->(∀x,x∈ts↔∃k∈ks,x=byF ms k)->Q (.ref R) H'
section
variable {P:Program} {w:World} {K:PySem.W.Frag} {mg:Str->Option Value} {base:Heap} {t:Adr}
theorem ok_lists (T:Txt K mg t):FnOk P w K mg base CX0 4 t.a__law_lists t.d__law_lists ["_law_hand_here","_law_members_here","_law_masks_here"] spLists:=by
 have G__law_draw:=ok_draw (P:=P) (w:=w) (base:=base) T
 have G__law_by:=ok_by (P:=P) (w:=w) (base:=base) T
 refine T.F__law_lists.okZ sc__law_lists (fun vs H Q E h=>?_) (fun cdv A outer s H vs Q E hr h hc hf=>?_)
 ·obtain ⟨h,m,l,rfl,_⟩:=h;rfl
 obtain ⟨h,M,L,rfl,hd,hMh,hLh,ms,ks,hM,lm,hL,lk,q⟩:=h
 have hu:=hu_of hr
 have hu0:=hr.units0
 refine ⟨_,(by apply zqss_cons;exact (zpsk_comp hc sc__law_lists.nd 3 (by decide +kernel) ["_law_mask"] [1] rfl (by decide +kernel) (zpi_list (zpvk hc 2 (by decide +kernel))) (fun _ hc=>zpgb hc (by decide +kernel) 0 (by decide +kernel)) (fun _ _=>zpifs_nil) (fun _ hc=>(zpe_call G__law_by (hr.mono (by omega)) (glk hc (by decide +kernel)) T.m__law_by T.F__law_by.kp T.b__law_by .nil pass0 (zpa_cons (zpvk hc 1 (by decide +kernel)) (zpa_cons (zpvk hc 0 (by decide +kernel)) zpa_nil)))) (by rfl));apply zqss_cons;exact (zpsk_set hc sc__law_lists.nd hf 4 (by decide +kernel) (zpe_lst zpa_nil));apply zqss_cons;exact (zqs_while PassesOwn.never (zpt_cmpR op_gt (zpe_callB call_lenL (glk hc (by decide +kernel)) T.z_len b_len (zpa_cons (zpvk hc 3 (by decide +kernel)) zpa_nil)) zpe_int (nomark _)) (by exact zqss_one (zps_expr (zpe_bm PySem.F.plainAttrs_list PySem.F.slot_list_append PySem.F.type_list_append mt_append (zpvk hc 4 (by decide +kernel)) (zpa_cons (zpe_bm PySem.F.plainAttrs_list PySem.F.slot_list_pop PySem.F.type_list_pop mt_popAt (zpvk hc 3 (by decide +kernel)) (zpa_cons (zpe_call G__law_draw (hr.mono (by omega)) (glk hc (by decide +kernel)) T.m__law_draw T.F__law_draw.kp T.b__law_draw .nil pass0 (zpa_cons (zpvk hc 0 (by decide +kernel)) (zpa_cons (zpe_callB call_lenL (glk hc (by decide +kernel)) T.z_len b_len (zpa_cons (zpvk hc 3 (by decide +kernel)) zpa_nil)) zpa_nil))) zpa_nil)) zpa_nil)))));exact zqss_one (zps_ret (zpvk hc 4 (by decide +kernel)))),?_⟩
 repeat (walk_at "rl")
 refine ⟨⟨_,sqL_of hL⟩,?_⟩
 refine compS_list (zs:=List.map natV ks) (fun j=>ks[j]?.map (byF ms)) (fun _=>RSet) RSet.same RSet.puts hL (by rw [List.length_map];omega) (fun DD c H6 j z yes no hj s6 hDD hDx hyes hno=>?_) (fun N H1 vs s1 hN hN1 rl=>?_)
 ·obtain ⟨k,ek,rfl⟩:=nat_at hj
  rw [ek] at hyes
  walk_at "rc"
  repeat (walk_at "rl")
  refine ⟨M,_,rfl,ms,k,rfl,s6 _ _ hM,by omega,fun p H7 s7 hp hp7=>?_⟩
  repeat (walk_at "rl")
  exact hyes _ rfl _ _ s7 ⟨p,rfl,hp7⟩
 obtain ⟨bs,rfl,sb⟩:=sets_of rl
 rw [List.length_map,fm_map (l:=ks) (g:=byF ms) fun k hk=>by rw [List.getElem?_eq_getElem hk];rfl] at sb
 obtain ⟨zs,rfl,ez,pz⟩:=pr_of sb
 have mz:∀x,x∈zs.map Prod.snd↔∃k∈ks,x=byF ms k:=fun x=>by
  rw [<-ez,List.mem_map]
  exact ⟨fun ⟨k,a,b⟩=>⟨k,a,b.symm⟩,fun ⟨k,a,b⟩=>⟨k,a,b.symm⟩⟩
 have lz:zs.length<=ks.length:=by
  have:=congrArg List.length ez
  rw [List.length_map,List.length_map] at this;omega
 rw [List.map_map] at hN1
 have d1:Dr h H H1:=Dr.refl.on s1
 have hNh:N≠h:=hd.ne hN
 repeat (walk_at "rl")
 refine ⟨by decide,fun R hR=>?_⟩
 have hRN:N≠R:=ne_of_none hN1 hR
 have hR0:H R=none:=d1.free hd hR
 have hRh:R≠h:=(d1.handAt hd).ne hR
 repeat (walk_at "rl")
 obtain ⟨W,hW⟩:∃W:Nat->St->Hp->Prop,∀μ σ' H',W μ σ' H'↔∃as bs:List (Addr×List Int),as.length=μ/\σ'=[some (.ref h),some (.ref M),some (.ref L),some (.ref N),some (.ref R)]/\Dr h H H'/\H' N=some (.lst (List.map refOf as))/\H' R=some (.lst (List.map refOf bs))/\as.length+bs.length<=ks.length/\PrAt H' as/\PrAt H' bs/\∀x,(x∈as\/x∈bs)↔x∈zs:=⟨_,fun _ _ _=>Iff.rfl⟩
 refine ⟨W,⟨_,(hW _ _ _).mpr ⟨zs,[],rfl,rfl,d1.new hR,by rw [upd_ne hRN];exact hN1,upd_same,by simp;omega,fun z hz=>by rw [upd_ne (ne_of_none (pz z hz) hR)];exact pz z hz,fun z hz=>(nomatch hz),fun x=>by simp⟩⟩,fun μ σ' H3 hw=>?_⟩
 obtain ⟨as,bs,rfl,rfl,d3,hN3,hR3,lab,pa,pb,mm⟩:=(hW _ _ _).mp hw
 repeat (first | walk_at "rl" | simp only [hN3])
 by_cases z:0 < as.length
 ·rw [if_pos (by omega)]
  refine ⟨W (as.length - 1),fun _ _ h=>⟨_,by omega,h⟩,?_⟩
  refine ⟨.inl ⟨rfl,_,sqL_of hR3⟩,.inl ⟨rfl,_,sqL_of hN3⟩,draw_by hd d3 (by omega) (by omega) fun r H4 r0 r1 d4 k4=>?_⟩
  have hN4:H4 N=some (.lst (List.map refOf as)):=by rw [k4 N hNh];exact hN3
  have hR4:H4 R=some (.lst (List.map refOf bs)):=by rw [k4 R hRh];exact hR3
  have hd3:=d3.handAt hd
  have kp:∀z:Addr×List Int,H3 z.1=some (.tup (List.map V.int z.2))->∀o o',upd (upd H4 N (.lst o)) R (.lst o') z.1=some (.tup (List.map V.int z.2)):=fun z hz o o'=>by
   have n1:z.1≠R:=fun e=>by rw [e,hR3] at hz;cases hz
   have n2:z.1≠N:=fun e=>by rw [e,hN3] at hz;cases hz
   rw [upd_ne n1,upd_ne n2,k4 _ (hd3.ntup hz)];exact hz
  have hr':r.toNat < as.length:=by omega
  have er:as[r.toNat]? = some as[r.toNat]:=List.getElem?_eq_getElem hr'
  refine ⟨List.map refOf as,r,rfl,hN4,by omega,by omega,r.toNat,seqIndex_of r0 (by rw [List.length_map];exact r1),refOf as[r.toNat],by rw [List.getElem?_map,er];rfl,List.map refOf bs,by rw [upd_ne hRN.symm];exact hR4,by rw [List.length_map];exact small1000 (by omega),(hW _ _ _).mpr ⟨as.eraseIdx r.toNat,bs++[as[r.toNat]],by rw [List.length_eraseIdx_of_lt hr'],rfl,(d4.put hN).put hR0,by rw [upd_ne hRN,upd_same,eraseIdx_map'],by rw [upd_same,List.map_append];rfl,by rw [List.length_eraseIdx_of_lt hr',List.length_append];simp;omega,fun z hz=>kp z (pa z (List.mem_of_mem_eraseIdx hz)) _ _,fun z hz=>kp z ?_ _ _,fun x=>?_⟩⟩
  ·rcases List.mem_append.mp hz with hz | hz
   ·exact pb z hz
   ·rw [List.mem_singleton.mp hz];exact pa _ (List.getElem_mem hr')
  rw [<-mm x,<-(erase_perm as r.toNat _ er).mem_iff,List.mem_append,List.mem_singleton,List.mem_cons]
  exact ⟨fun h=>h.elim (fun a=>.inl (.inr a)) fun b=>b.elim .inr fun c=>.inl (.inl c),fun h=>h.elim (fun a=>a.elim (fun c=>.inr (.inr c)) .inl) fun b=>.inr (.inl b)⟩
 ·rw [if_neg (by omega)]
  have e:as=[]:=List.eq_nil_of_length_eq_zero (by omega)
  subst e
  repeat (walk_at "rl")
  refine q R (bs.map Prod.fst) (bs.map Prod.snd) H3 d3 hR0 (by rw [List.map_map];exact hR3) pb.sets (by simpa using lab) fun x=>?_
  rw [<-mz x,List.mem_map,List.mem_map]
  exact ⟨fun ⟨z,a,b⟩=>⟨z,(mm z).mp (.inr a),b⟩,fun ⟨z,a,b⟩=>⟨z,((mm z).mpr a).elim (fun c=>(nomatch c)) id,b⟩⟩
end
local macro_rules | `(tactic| walk_at "rd") => `(tactic| walk_at "rc")
local macro_rules | `(tactic| walk_at "rl") => `(tactic| first | (refine seq_op fun R hR => ?_) | walk_at "ry" | (refine Nx.to (by assumption) _ _ ?_))
section
variable {P:Program} {w:World} {K:PySem.W.Frag} {mg:Str->Option Value} {base:Heap} {t:Adr}
theorem ok_whole (T:Txt K mg t):FnOk P w K mg base CX0 1 t.a__law_is_whole t.d__law_is_whole ["_law_thing"] spWhole:=by
 refine T.F__law_is_whole.okZ sc__law_is_whole (fun vs H Q E h=>?_) (fun cdv A outer s H vs Q E hr h hc hf=>?_)
 ·obtain ⟨i,rfl,_⟩:=h;rfl
 obtain ⟨i,rfl,q⟩:=h
 refine ⟨_,(by exact zqss_one (zps_ret (zpe_and (zpe_callB call_isiT (glk hc (by decide +kernel)) T.z_isinstance b_isinstance (zpa_cons (zpvk hc 0 (by decide +kernel)) (zpa_cons (zpe_bltn (v:=V.ty "int") (glk hc (by decide +kernel)) T.z_int b_int rfl) zpa_nil))) (zpe_one (zpe_not (zpe_callB call_isiT (glk hc (by decide +kernel)) T.z_isinstance b_isinstance (zpa_cons (zpvk hc 0 (by decide +kernel)) (zpa_cons (zpe_bltn (v:=V.ty "bool") (glk hc (by decide +kernel)) T.z_bool b_bool rfl) zpa_nil)))))))),?_⟩
 repeat (walk_at "rd")
 refine ⟨_,.int i,true,kit_same _ _,?_⟩
 repeat (walk_at "rd")
 refine ⟨_,.int i,false,kit_no (by decide) rfl,?_⟩
 repeat (walk_at "rd")
 exact q
theorem ok_isset (T:Txt K mg t):FnOk P w K mg base CX0 2 t.a__law_is_set t.d__law_is_set ["_law_thing"] spIsSet:=by
 have G__law_is_whole:=ok_whole (P:=P) (w:=w) (base:=base) T
 refine T.F__law_is_set.okZ sc__law_is_set (fun vs H Q E h=>?_) (fun cdv A outer s H vs Q E hr h hc hf=>?_)
 ·obtain ⟨a,rfl,_⟩:=h;rfl
 obtain ⟨a,rfl,x,ha,lx,rise,q⟩:=h
 refine ⟨_,(by apply zqss_cons;exact (zqs_if (zPWpt (zpw_or (zpt_not (zpt_val (zpe_callB call_isiT (glk hc (by decide +kernel)) T.z_isinstance b_isinstance (zpa_cons (zpvk hc 0 (by decide +kernel)) (zpa_cons (zpe_bltn (v:=V.ty "tuple") (glk hc (by decide +kernel)) T.z_tuple b_tuple rfl) zpa_nil))))) (zpw_or1 (zpt_not (zpt_val (zpe_callB (call_allB hr.hd) (glk hc (by decide +kernel)) T.z_all b_all (zpa_cons (zpek_comp hc ["_law_one"] [] rfl (by decide +kernel) (zpi_tup (zpvk hc 0 (by decide +kernel))) (fun _ hc=>zpgb hc (by decide +kernel) 0 (by decide +kernel)) (fun _ _=>zpifs_nil) (fun _ hc=>(zpe_call G__law_is_whole (hr.mono (by omega)) (glk hc (by decide +kernel)) T.m__law_is_whole T.F__law_is_whole.kp T.b__law_is_whole .nil pass0 (zpa_cons (zpvk hc 0 (by decide +kernel)) zpa_nil)))) zpa_nil))))))) (by exact zqss_one (zps_ret zpe_bl)) zqss_nil);exact zqss_one (zps_ret (zpe_callB (call_allB hr.hd) (glk hc (by decide +kernel)) T.z_all b_all (zpa_cons (zpek_comp hc ["_law_k"] [0] rfl (by decide +kernel) (zpi_range1 (glk hc (by decide +kernel)) T.z_range (zpa_cons (zpe_op op_sub (zpe_callB call_lenT (glk hc (by decide +kernel)) T.z_len b_len (zpa_cons (zpvk hc 0 (by decide +kernel)) zpa_nil)) zpe_int) zpa_nil)) (fun _ hc=>zpgb hc (by decide +kernel) 0 (by decide +kernel)) (fun _ _=>zpifs_nil) (fun _ hc=>(zpe_cmpR op_lt (zpe_ix ix_t (zpvk hc 1 (by decide +kernel)) (zpvk hc 0 (by decide +kernel)) (fun _ _=>rfl)) (zpe_ix ix_t (zpvk hc 1 (by decide +kernel)) (zpe_op op_add (zpvk hc 0 (by decide +kernel)) zpe_int) (fun _ _=>rfl)) (nomark _)))) zpa_nil)))),?_⟩
 repeat (walk_at "rd")
 refine ⟨_,.tup ha,true,kit_same _ _,?_⟩
 repeat (walk_at "rd")
 refine ⟨⟨_,sqT_of ha⟩,?_⟩
 obtain ⟨Pc,hPc⟩:∃Pc:Addr->Nat->List V->Hp->Prop,∀Z i ys H',Pc Z i ys H'↔ys=List.map V.bl (List.replicate i true)/\Same H H'/\H' Z=some (.lst ys):=⟨_,fun _ _ _ _=>Iff.rfl⟩
 refine compAll_tup (zs:=List.map V.int x) Pc (fun Z hZ=>(hPc _ _ _ _).mpr ⟨rfl,same_new hZ _,upd_same⟩) (fun Z hZ i ys H' _ pv=>?_) (fun Z hZ i z ys H' hz pv cb=>?_) (fun Z hZ ys H' pv=>?_)
 ·obtain ⟨_,s,_⟩:=(hPc _ _ _ _).mp pv
  exact s _ _ ha
 ·obtain ⟨rfl,s1,hZ1⟩:=(hPc _ _ _ _).mp pv
  obtain ⟨n,en,rfl⟩:=int_at hz
  have hi:i < x.length:=(List.getElem?_eq_some_iff.mp en).1
  walk_at "rc"
  repeat (walk_at "rd")
  refine ⟨n,rfl,hZ1,by rw [List.length_replicate];exact small1000 (by omega),(hPc _ _ _ _).mpr ⟨?_,same_put' s1 hZ,upd_same⟩⟩
  rw [List.replicate_succ',List.map_append];rfl
 ·obtain ⟨rfl,s1,hZ1⟩:=(hPc _ _ _ _).mp pv
  refine ⟨Z,rfl,_,hZ1,?_⟩
  rw [all_true]
  repeat (walk_at "rd")
  have ha1:=s1 _ _ ha
  repeat (first | walk_at "rd" | simp only [ha1])
  refine ⟨by omega,by omega,?_⟩
  obtain ⟨Pd,hPd⟩:∃Pd:Addr->Nat->List V->Hp->Prop,∀Z2 i ys H'',Pd Z2 i ys H''↔ys=List.map V.bl (List.replicate i true)/\Same H' H''/\H'' Z2=some (.lst ys):=⟨_,fun _ _ _ _=>Iff.rfl⟩
  refine compAll_rng Pd (fun Z2 hZ2=>(hPd _ _ _ _).mpr ⟨rfl,same_new hZ2 _,upd_same⟩) (fun Z2 hZ2 i ys H2 hi pv cb=>?_) (fun Z2 hZ2 ys H2 pv=>?_)
  ·obtain ⟨rfl,s2,hZ3⟩:=(hPd _ _ _ _).mp pv
   have ha2:=s2 _ _ ha1
   have j1:i < x.length:=by omega
   have j2:i+1 < x.length:=by omega
   have e1:atI (List.map V.int x) (i:Int)=some (.int x[i]):=atI_nat (by rw [List.getElem?_map,List.getElem?_eq_getElem j1];rfl)
   have e2:atI (List.map V.int x) ((i:Int)+1)=some (.int x[i+1]):=atI_nat (j:=i+1) (by rw [List.getElem?_map,List.getElem?_eq_getElem j2];rfl)
   walk_at "rc"
   repeat (first | walk_at "rd" | simp only [ha2,e1,e2])
   have lt:x[i] < x[i+1]:=(List.pairwise_iff_getElem.mp rise) i (i+1) j1 j2 (by omega)
   rw [decide_eq_true lt]
   refine ⟨hZ3,by rw [List.length_replicate];exact small1000 (by omega),(hPd _ _ _ _).mpr ⟨?_,same_put' s2 hZ2,upd_same⟩⟩
   rw [List.replicate_succ',List.map_append];rfl
  ·obtain ⟨rfl,s2,hZ3⟩:=(hPd _ _ _ _).mp pv
   refine ⟨Z2,rfl,_,hZ3,?_⟩
   rw [all_true]
   exact q _ (s1.trans s2)
end
section
variable {P:Program} {w:World} {K:PySem.W.Frag} {mg:Str->Option Value} {base:Heap} {t:Adr}
theorem ok_wholeN (T:Txt K mg t):FnOk P w K mg base CX0 1 t.a_is_whole_number t.d_is_whole_number ["thing"] spWhole:=by
 refine T.F_is_whole_number.okZ sc_is_whole_number (fun vs H Q E h=>?_) (fun cdv A outer s H vs Q E hr h hc hf=>?_)
 ·obtain ⟨i,rfl,_⟩:=h;rfl
 obtain ⟨i,rfl,q⟩:=h
 refine ⟨_,(by exact zqss_one (zps_ret (zpe_and (zpe_callB call_isiT (glk hc (by decide +kernel)) T.z_isinstance b_isinstance (zpa_cons (zpvk hc 0 (by decide +kernel)) (zpa_cons (zpe_bltn (v:=V.ty "int") (glk hc (by decide +kernel)) T.z_int b_int rfl) zpa_nil))) (zpe_one (zpe_not (zpe_callB call_isiT (glk hc (by decide +kernel)) T.z_isinstance b_isinstance (zpa_cons (zpvk hc 0 (by decide +kernel)) (zpa_cons (zpe_bltn (v:=V.ty "bool") (glk hc (by decide +kernel)) T.z_bool b_bool rfl) zpa_nil)))))))),?_⟩
 repeat (walk_at "rd")
 refine ⟨_,.int i,true,kit_same _ _,?_⟩
 repeat (walk_at "rd")
 refine ⟨_,.int i,false,kit_no (by decide) rfl,?_⟩
 repeat (walk_at "rd")
 exact q
theorem ok_setN (T:Txt K mg t):FnOk P w K mg base CX0 2 t.a_is_set t.d_is_set ["thing"] spIsSet:=by
 have G_is_whole_number:=ok_wholeN (P:=P) (w:=w) (base:=base) T
 refine T.F_is_set.okZ sc_is_set (fun vs H Q E h=>?_) (fun cdv A outer s H vs Q E hr h hc hf=>?_)
 ·obtain ⟨a,rfl,_⟩:=h;rfl
 obtain ⟨a,rfl,x,ha,lx,rise,q⟩:=h
 refine ⟨_,(by apply zqss_cons;exact (zqs_if (zPWpt (zpw_or (zpt_not (zpt_val (zpe_callB call_isiT (glk hc (by decide +kernel)) T.z_isinstance b_isinstance (zpa_cons (zpvk hc 0 (by decide +kernel)) (zpa_cons (zpe_bltn (v:=V.ty "tuple") (glk hc (by decide +kernel)) T.z_tuple b_tuple rfl) zpa_nil))))) (zpw_or1 (zpt_not (zpt_val (zpe_callB (call_allB hr.hd) (glk hc (by decide +kernel)) T.z_all b_all (zpa_cons (zpek_comp hc ["member"] [] rfl (by decide +kernel) (zpi_tup (zpvk hc 0 (by decide +kernel))) (fun _ hc=>zpgb hc (by decide +kernel) 0 (by decide +kernel)) (fun _ _=>zpifs_nil) (fun _ hc=>(zpe_call G_is_whole_number (hr.mono (by omega)) (glk hc (by decide +kernel)) T.m_is_whole_number T.F_is_whole_number.kp T.b_is_whole_number .nil pass0 (zpa_cons (zpvk hc 0 (by decide +kernel)) zpa_nil)))) zpa_nil))))))) (by exact zqss_one (zps_ret zpe_bl)) zqss_nil);exact zqss_one (zps_ret (zpe_callB (call_allB hr.hd) (glk hc (by decide +kernel)) T.z_all b_all (zpa_cons (zpek_comp hc ["place"] [0] rfl (by decide +kernel) (zpi_range2 (glk hc (by decide +kernel)) T.z_range (zpa_cons zpe_int (zpa_cons (zpe_callB call_lenT (glk hc (by decide +kernel)) T.z_len b_len (zpa_cons (zpvk hc 0 (by decide +kernel)) zpa_nil)) zpa_nil))) (fun _ hc=>zpgb hc (by decide +kernel) 0 (by decide +kernel)) (fun _ _=>zpifs_nil) (fun _ hc=>(zpe_cmpR op_lt (zpe_ix ix_t (zpvk hc 1 (by decide +kernel)) (zpe_op op_sub (zpvk hc 0 (by decide +kernel)) zpe_int) (fun _ _=>rfl)) (zpe_ix ix_t (zpvk hc 1 (by decide +kernel)) (zpvk hc 0 (by decide +kernel)) (fun _ _=>rfl)) (nomark _)))) zpa_nil)))),?_⟩
 repeat (walk_at "rd")
 refine ⟨_,.tup ha,true,kit_same _ _,?_⟩
 repeat (walk_at "rd")
 refine ⟨⟨_,sqT_of ha⟩,?_⟩
 obtain ⟨Pc,hPc⟩:∃Pc:Addr->Nat->List V->Hp->Prop,∀Z i ys H',Pc Z i ys H'↔ys=List.map V.bl (List.replicate i true)/\Same H H'/\H' Z=some (.lst ys):=⟨_,fun _ _ _ _=>Iff.rfl⟩
 refine compAll_tup (zs:=List.map V.int x) Pc (fun Z hZ=>(hPc _ _ _ _).mpr ⟨rfl,same_new hZ _,upd_same⟩) (fun Z hZ i ys H' _ pv=>?_) (fun Z hZ i z ys H' hz pv cb=>?_) (fun Z hZ ys H' pv=>?_)
 ·obtain ⟨_,s,_⟩:=(hPc _ _ _ _).mp pv
  exact s _ _ ha
 ·obtain ⟨rfl,s1,hZ1⟩:=(hPc _ _ _ _).mp pv
  obtain ⟨n,en,rfl⟩:=int_at hz
  have hi:i < x.length:=(List.getElem?_eq_some_iff.mp en).1
  walk_at "rc"
  repeat (walk_at "rd")
  refine ⟨n,rfl,hZ1,by rw [List.length_replicate];exact small1000 (by omega),(hPc _ _ _ _).mpr ⟨?_,same_put' s1 hZ,upd_same⟩⟩
  rw [List.replicate_succ',List.map_append];rfl
 ·obtain ⟨rfl,s1,hZ1⟩:=(hPc _ _ _ _).mp pv
  refine ⟨Z,rfl,_,hZ1,?_⟩
  rw [all_true]
  repeat (walk_at "rd")
  have ha1:=s1 _ _ ha
  repeat (first | walk_at "rd" | simp only [ha1])
  refine ⟨by omega,by omega,?_⟩
  obtain ⟨Pd,hPd⟩:∃Pd:Addr->Nat->List V->Hp->Prop,∀Z2 i ys H'',Pd Z2 i ys H''↔ys=List.map V.bl (List.replicate i true)/\Same H' H''/\H'' Z2=some (.lst ys):=⟨_,fun _ _ _ _=>Iff.rfl⟩
  refine compAll_rng Pd (fun Z2 hZ2=>(hPd _ _ _ _).mpr ⟨rfl,same_new hZ2 _,upd_same⟩) (fun Z2 hZ2 i ys H2 hi pv cb=>?_) (fun Z2 hZ2 ys H2 pv=>?_)
  ·obtain ⟨rfl,s2,hZ3⟩:=(hPd _ _ _ _).mp pv
   have ha2:=s2 _ _ ha1
   have j1:i < x.length:=by omega
   have j2:i+1 < x.length:=by omega
   have e1:atI (List.map V.int x) (1+(i:Int) - 1)=some (.int x[i]):=by rw [show 1+(i:Int) - 1=(i:Int) by omega];exact atI_nat (by rw [List.getElem?_map,List.getElem?_eq_getElem j1];rfl)
   have e2:atI (List.map V.int x) (1+(i:Int))=some (.int x[i+1]):=by rw [show 1+(i:Int)=((i+1:Nat):Int) by omega];exact atI_nat (by rw [List.getElem?_map,List.getElem?_eq_getElem j2];rfl)
   walk_at "rc"
   repeat (first | walk_at "rd" | simp only [ha2,e1,e2])
   have lt:x[i] < x[i+1]:=(List.pairwise_iff_getElem.mp rise) i (i+1) j1 j2 (by omega)
   rw [decide_eq_true lt]
   refine ⟨hZ3,by rw [List.length_replicate];exact small1000 (by omega),(hPd _ _ _ _).mpr ⟨?_,same_put' s2 hZ2,upd_same⟩⟩
   rw [List.replicate_succ',List.map_append];rfl
  ·obtain ⟨rfl,s2,hZ3⟩:=(hPd _ _ _ _).mp pv
   refine ⟨Z2,rfl,_,hZ3,?_⟩
   rw [all_true]
   exact q _ (s1.trans s2)
end
local macro_rules | `(tactic| walk_at "rd") => `(tactic| walk_at "rc")
local macro_rules | `(tactic| walk_at "rl") => `(tactic| first | (refine seq_op fun R hR => ?_) | walk_at "ry" | (refine Nx.to (by assumption) _ _ ?_))
def spWorded:Sp:=fun vs H Q _=>∃p wd n,vs=[.ref p,.str wd,.int n]/\∃(x:Str) (rest:List V),H p=some (.tup (.str x::rest))/\Q (.bl (decide (((rest.length+1:Nat):Int)=n) && decide (x=wd))) H
section
variable {P:Program} {w:World} {K:PySem.W.Frag} {mg:Str->Option Value} {base:Heap} {t:Adr}
theorem ok_worded (T:Txt K mg t):FnOk P w K mg base CX0 1 t.a_is_worded t.d_is_worded ["thing","word","many"] spWorded:=by
 refine T.F_is_worded.okZ sc_is_worded (fun vs H Q E h=>?_) (fun cdv A outer s H vs Q E hr h hc hf=>?_)
 ·obtain ⟨p,wd,n,rfl,_⟩:=h;rfl
 obtain ⟨p,wd,n,rfl,x,rest,hp,q⟩:=h
 have hu:=hu_of hr
 have hu0:=hr.units0
 refine ⟨_,(by exact zqss_one (zps_ret (zpe_and (zpe_callB call_isiT (glk hc (by decide +kernel)) T.z_isinstance b_isinstance (zpa_cons (zpvk hc 0 (by decide +kernel)) (zpa_cons (zpe_bltn (v:=V.ty "tuple") (glk hc (by decide +kernel)) T.z_tuple b_tuple rfl) zpa_nil))) (zpe_and (zpe_cmpR op_eq (zpe_callB call_lenT (glk hc (by decide +kernel)) T.z_len b_len (zpa_cons (zpvk hc 0 (by decide +kernel)) zpa_nil)) (zpvk hc 2 (by decide +kernel)) (nomark _)) (zpe_and (zpe_callB call_isiT (glk hc (by decide +kernel)) T.z_isinstance b_isinstance (zpa_cons (zpe_ix ix_t (zpvk hc 0 (by decide +kernel)) zpe_int (fun _ _=>rfl)) (zpa_cons (zpe_bltn (v:=V.ty "str") (glk hc (by decide +kernel)) T.z_str b_str rfl) zpa_nil))) (zpe_one (zpe_cmpR op_eq (zpe_ix ix_t (zpvk hc 0 (by decide +kernel)) zpe_int (fun _ _=>rfl)) (zpvk hc 1 (by decide +kernel)) (nomark _)))))))),?_⟩
 repeat (walk_at "rl")
 refine ⟨_,.tup hp,true,kit_same _ _,?_⟩
 repeat (first | walk_at "rl" | simp only [hp])
 by_cases e:((rest.length+1:Nat):Int)=n
 ·rw [if_pos e]
  rw [decide_eq_true e,Bool.true_and] at q
  exact ⟨_,.str x,true,kit_same _ _,q⟩
 ·rw [if_neg e]
  rw [decide_eq_false e,Bool.false_and] at q
  exact q
end
local macro_rules | `(tactic| walk_at "rd") => `(tactic| walk_at "rc")
local macro_rules | `(tactic| walk_at "rl") => `(tactic| first | (refine seq_op fun R hR => ?_) | walk_at "ry" | (refine Nx.to (by assumption) _ _ ?_))
def rdF (U C Pc:Addr):List (Str×V):=[("whole",.ref U),("clash_list",.ref C),("peace_list",.ref Pc)]
def spNewR (c:Addr):Sp:=fun vs H Q _=>∃x U C Pc,vs=[.ref x,.ref U,.ref C,.ref Pc]/\∃dx,H x=some (.ins c dx [])/\∀H',(∀a,a≠x->H' a=H a)->H' x=some (.ins c dx (rdF U C Pc))->Q .non H'
section
variable {P:Program} {w:World} {K:PySem.W.Frag} {mg:Str->Option Value} {base:Heap} {t:Adr}
theorem ok_newR (T:Txt K mg t):FnOk P w K mg base CX0 1 t.a_TreeReader___init__ t.d_TreeReader___init__ ["self","whole","clashes","peaces"] (spNewR t.c_TreeReader):=by
 refine T.F_TreeReader___init__.okZ sc_TreeReader___init__ (fun vs H Q E h=>?_) (fun cdv A outer s H vs Q E hr h hc hf=>?_)
 ·obtain ⟨p,wd,n,m,rfl,_⟩:=h;rfl
 obtain ⟨x,U,C,Pc,rfl,dx,hx,q⟩:=h
 have hu:=hu_of hr
 have hu0:=hr.units0
 refine ⟨_,(by apply zqss_cons;exact (zps_fld (zpvk hc 0 (by decide +kernel)) (zpvk hc 1 (by decide +kernel)) rfl);apply zqss_cons;exact (zps_fld (zpvk hc 0 (by decide +kernel)) (zpvk hc 2 (by decide +kernel)) rfl);exact zqss_one (zps_fld (zpvk hc 0 (by decide +kernel)) (zpvk hc 3 (by decide +kernel)) rfl)),?_⟩
 repeat (walk_at "rl")
 refine ⟨_,_,_,hx,T.cl_TreeReader,T.na_TreeReader_whole,by decide,?_⟩
 repeat (walk_at "rl")
 refine ⟨_,_,_,rfl,T.cl_TreeReader,T.na_TreeReader_clash_list,(by decide:1 < 1000),?_⟩
 repeat (walk_at "rl")
 refine ⟨_,_,_,rfl,T.cl_TreeReader,T.na_TreeReader_peace_list,(by decide:2 < 1000),?_⟩
 repeat (walk_at "rl")
 exact q _ (fun a h=>upd_ne h) upd_same
end
structure RdAt (c:Addr) (H:Hp) (x:Addr) (W:List Int) (cs ps:List (List Int)):Prop where
 at_:∃dx U C Pc bc bp,H x=some (.ins c dx (rdF U C Pc))/\H U=some (.tup (List.map V.int W))/\H C=some (.lst (List.map V.ref bc))/\SetsAt H bc cs/\H Pc=some (.lst (List.map V.ref bp))/\SetsAt H bp ps
 lw:W.length<=100
 lc:cs.length<=900
 lp:ps.length<=900
 gc:∀s∈cs,Rise s/\s.length<=100
 gp:∀s∈ps,Rise s/\s.length<=100
theorem RdAt.mono {c:Addr} {H H':Hp} {x:Addr} {W:List Int} {cs ps:List (List Int)} (s:Same H H') (r:RdAt c H x W cs ps):RdAt c H' x W cs ps:=by
 obtain ⟨dx,U,C,Pc,bc,bp,h1,h2,h3,h4,h5,h6⟩:=r.at_
 exact ⟨⟨dx,U,C,Pc,bc,bp,s _ _ h1,s _ _ h2,s _ _ h3,h4.mono (fun _ _ e=>s _ _ e),s _ _ h5,h6.mono (fun _ _ e=>s _ _ e)⟩,r.lw,r.lc,r.lp,r.gc,r.gp⟩
def spLets (c:Addr) (n:Nat):Sp:=fun vs H Q _=>∃x p hd la,vs=[.ref x,.ref p,.ref hd,.ref la]/\∃(W:List Int) (cs ps:List (List Int)) (tr:Tr) (hs ls:List Int),RdAt c H x W cs ps/\TrAt H tr p/\H hd=some (.tup (List.map V.int hs))/\H la=some (.tup (List.map V.int ls))/\Good W cs ps tr hs ls/\tr.deep < n/\hs.length+n<=100/\ls.length+n<=100/\
 ∀H',Same H H'->Q (.bl true) H'
theorem wd2 (b:Addr) (x y:Str):(decide (((([V.ref b]:List V).length+1:Nat):Int)=2) && decide (x=y))=decide (x=y):=rfl
theorem wd4 (m:Int) (a b:Addr) (x y:Str):(decide (((([V.int m,V.ref a,V.ref b]:List V).length+1:Nat):Int)=2) && decide (x=y))=false:=rfl
theorem wd44 (m:Int) (a b:Addr) (x y:Str):(decide (((([V.int m,V.ref a,V.ref b]:List V).length+1:Nat):Int)=4) && decide (x=y))=decide (x=y):=rfl
section
variable {P:Program} {w:World} {K:PySem.W.Frag} {mg:Str->Option Value} {base:Heap} {t:Adr}
theorem ok_lets (T:Txt K mg t):∀n:Nat,FnOk P w K mg base CX0 (n+3) t.a_TreeReader_lets_by t.d_TreeReader_lets_by ["self","thing","held","lacked"] (spLets t.c_TreeReader n)
 | 0=>T.F_TreeReader_lets_by.okZ (k:=2) sc_TreeReader_lets_by (fun vs H Q E h=>by obtain ⟨U,C,Pc,z,rfl,_⟩:=h;rfl) (fun cdv A outer s H vs Q E hr h hc hf=>by obtain ⟨x,p,hd,la,rfl,W,cs,ps,tr,hs,ls,_,_,_,_,_,h1,_⟩:=h;omega)
 | n+1=>by
  have G_is_worded:=ok_worded (P:=P) (w:=w) (base:=base) T
  have G_is_set:=ok_setN (P:=P) (w:=w) (base:=base) T
  have G_is_part:=ok_is_part (P:=P) (w:=w) (base:=base) T
  have G_rest_of:=ok_rest (P:=P) (w:=w) (base:=base) T
  have G_is_whole_number:=ok_wholeN (P:=P) (w:=w) (base:=base) T
  have G_TreeReader_lets_by:=ok_lets T n
  refine T.F_TreeReader_lets_by.okZ (k:=n+3) sc_TreeReader_lets_by (fun vs H Q E h=>?_) (fun cdv A outer s H vs Q E hr h hc hf=>?_)
  ·obtain ⟨U,C,Pc,z,rfl,_⟩:=h;rfl
  obtain ⟨x,p,hd,la,rfl,W,cs,ps,tr,hs,ls,rd,ra,hhd,hla,go,dn,lh,ll,q⟩:=h
  have hu:=hu_of hr
  have hu0:=hr.units0
  refine ⟨_,(by apply zqss_cons;exact (zqs_if (zpt_val (zpe_call G_is_worded (hr.mono (by omega)) (glk hc (by decide +kernel)) T.m_is_worded T.F_is_worded.kp T.b_is_worded .nil pass0 (zpa_cons (zpvk hc 1 (by decide +kernel)) (zpa_cons zpe_str (zpa_cons zpe_int zpa_nil))))) (by exact zqss_one (zps_ret (zpe_and (zpe_call G_is_set (hr.mono (by omega)) (glk hc (by decide +kernel)) T.m_is_set T.F_is_set.kp T.b_is_set .nil pass0 (zpa_cons (zpe_ix ix_t (zpvk hc 1 (by decide +kernel)) zpe_int (fun _ _=>rfl)) zpa_nil)) (zpe_and (zpe_cmpR (op_inS hu) (zpe_ix ix_t (zpvk hc 1 (by decide +kernel)) zpe_int (fun _ _=>rfl)) (zpe_fld (zpvk hc 0 (by decide +kernel)) rfl) (by with_unfolding_all rfl)) (zpe_one (zpe_call G_is_part (hr.mono (by omega)) (glk hc (by decide +kernel)) T.m_is_part T.F_is_part.kp T.b_is_part .nil pass0 (zpa_cons (zpe_ix ix_t (zpvk hc 1 (by decide +kernel)) zpe_int (fun _ _=>rfl)) (zpa_cons (zpvk hc 2 (by decide +kernel)) zpa_nil)))))))) zqss_nil);apply zqss_cons;exact (zqs_if (zpt_val (zpe_call G_is_worded (hr.mono (by omega)) (glk hc (by decide +kernel)) T.m_is_worded T.F_is_worded.kp T.b_is_worded .nil pass0 (zpa_cons (zpvk hc 1 (by decide +kernel)) (zpa_cons zpe_str (zpa_cons zpe_int zpa_nil))))) (by exact zqss_one (zps_ret (zpe_and (zpe_call G_is_set (hr.mono (by omega)) (glk hc (by decide +kernel)) T.m_is_set T.F_is_set.kp T.b_is_set .nil pass0 (zpa_cons (zpe_ix ix_t (zpvk hc 1 (by decide +kernel)) zpe_int (fun _ _=>rfl)) zpa_nil)) (zpe_and (zpe_cmpR (op_inS hu) (zpe_ix ix_t (zpvk hc 1 (by decide +kernel)) zpe_int (fun _ _=>rfl)) (zpe_fld (zpvk hc 0 (by decide +kernel)) rfl) (by with_unfolding_all rfl)) (zpe_one (zpe_call G_is_part (hr.mono (by omega)) (glk hc (by decide +kernel)) T.m_is_part T.F_is_part.kp T.b_is_part .nil pass0 (zpa_cons (zpe_call G_rest_of (hr.mono (by omega)) (glk hc (by decide +kernel)) T.m_rest_of T.F_rest_of.kp T.b_rest_of .nil pass0 (zpa_cons (zpe_fld (zpvk hc 0 (by decide +kernel)) rfl) (zpa_cons (zpe_ix ix_t (zpvk hc 1 (by decide +kernel)) zpe_int (fun _ _=>rfl)) zpa_nil))) (zpa_cons (zpvk hc 3 (by decide +kernel)) zpa_nil)))))))) zqss_nil);apply zqss_cons;exact (zqs_if (zPWpt (zpw_or (zpt_not (zpt_val (zpe_call G_is_worded (hr.mono (by omega)) (glk hc (by decide +kernel)) T.m_is_worded T.F_is_worded.kp T.b_is_worded .nil pass0 (zpa_cons (zpvk hc 1 (by decide +kernel)) (zpa_cons zpe_str (zpa_cons zpe_int zpa_nil)))))) (zpw_or1 (zpt_not (zpt_val (zpe_call G_is_whole_number (hr.mono (by omega)) (glk hc (by decide +kernel)) T.m_is_whole_number T.F_is_whole_number.kp T.b_is_whole_number .nil pass0 (zpa_cons (zpe_ix ix_t (zpvk hc 1 (by decide +kernel)) zpe_int (fun _ _=>rfl)) zpa_nil))))))) (by exact zqss_one (zps_ret zpe_bl)) zqss_nil);apply zqss_cons;exact (zpsk_set hc sc_TreeReader_lets_by.nd hf 4 (by decide +kernel) (zpe_ix ix_t (zpvk hc 1 (by decide +kernel)) zpe_int (fun _ _=>rfl)));apply zqss_cons;exact (zqs_if (zPWpt (zpw_or (zpt_cmpR op_notInT (zpvk hc 4 (by decide +kernel)) (zpe_fld (zpvk hc 0 (by decide +kernel)) rfl) (by with_unfolding_all rfl)) (zpw_or (zpt_cmpR op_inT (zpvk hc 4 (by decide +kernel)) (zpvk hc 2 (by decide +kernel)) (by with_unfolding_all rfl)) (zpw_or1 (zpt_cmpR op_inT (zpvk hc 4 (by decide +kernel)) (zpvk hc 3 (by decide +kernel)) (by with_unfolding_all rfl)))))) (by exact zqss_one (zps_ret zpe_bl)) zqss_nil);exact zqss_one (zps_ret (zpe_and (zpe_meth (zpvk hc 0 (by decide +kernel)) T.cl_TreeReader T.mt_TreeReader_lets_by G_TreeReader_lets_by (hr.mono (by omega)) T.b_TreeReader_lets_by .nil pass0 (zpa_cons (zpe_ix ix_t (zpvk hc 1 (by decide +kernel)) zpe_int (fun _ _=>rfl)) (zpa_cons (zpe_op op_catTQ (zpvk hc 2 (by decide +kernel)) (zpe_tup (zpa_cons (zpvk hc 4 (by decide +kernel)) zpa_nil))) (zpa_cons (zpvk hc 3 (by decide +kernel)) zpa_nil)))) (zpe_one (zpe_meth (zpvk hc 0 (by decide +kernel)) T.cl_TreeReader T.mt_TreeReader_lets_by G_TreeReader_lets_by (hr.mono (by omega)) T.b_TreeReader_lets_by .nil pass0 (zpa_cons (zpe_ix ix_t (zpvk hc 1 (by decide +kernel)) zpe_int (fun _ _=>rfl)) (zpa_cons (zpvk hc 2 (by decide +kernel)) (zpa_cons (zpe_op op_catTQ (zpvk hc 3 (by decide +kernel)) (zpe_tup (zpa_cons (zpvk hc 4 (by decide +kernel)) zpa_nil))) zpa_nil)))))))),?_⟩
  obtain ⟨dx,U,C,Pc,bc,bp,hx,hU,hC,sc,hP,sp⟩:=rd.at_
  cases tr with
  | clash s'=>
   obtain ⟨b,hp,hb⟩:=ra
   repeat (walk_at "rl")
   refine ⟨p,_,_,rfl,_,_,hp,_,rfl,?_⟩
   rw [wd2,if_pos (by decide)]
   refine ⟨_,hp,_,rfl,b,rfl,s',hb,by have:=(rd.gc _ go.1).2;omega,(rd.gc _ go.1).1,fun H1 s1=>⟨_,rfl,?_⟩⟩
   rw [if_pos rfl]
   refine ⟨_,s1 _ _ hp,_,rfl,_,_,_,s1 _ _ hx,T.cl_TreeReader,T.na_TreeReader_clash_list,.ref C,rfl,_,rfl,_,rfl,s',s1 _ _ hb,_,s1 _ _ hC,_,sc.mono (fun _ _ e=>s1 _ _ e),?_⟩
   rw [if_pos go.1]
   refine ⟨_,s1 _ _ hp,_,rfl,b,hd,rfl,s',hs,s1 _ _ hb,s1 _ _ hhd,?_⟩
   rw [isPart_iff.mpr go.2]
   exact q _ s1
  | peace s'=>
   obtain ⟨b,hp,hb⟩:=ra
   repeat (walk_at "rl")
   refine ⟨p,_,_,rfl,_,_,hp,_,rfl,?_⟩
   rw [wd2,if_neg (by decide)]
   repeat (walk_at "rl")
   refine ⟨p,_,_,rfl,_,_,hp,_,rfl,?_⟩
   rw [wd2,if_pos (by decide)]
   refine ⟨_,hp,_,rfl,b,rfl,s',hb,by have:=(rd.gp _ go.1).2;omega,(rd.gp _ go.1).1,fun H1 s1=>⟨_,rfl,?_⟩⟩
   rw [if_pos rfl]
   refine ⟨_,s1 _ _ hp,_,rfl,_,_,_,s1 _ _ hx,T.cl_TreeReader,T.na_TreeReader_peace_list,.ref Pc,rfl,_,rfl,_,rfl,s',s1 _ _ hb,_,s1 _ _ hP,_,sp.mono (fun _ _ e=>s1 _ _ e),?_⟩
   rw [if_pos go.1]
   refine ⟨_,_,_,s1 _ _ hx,T.cl_TreeReader,T.na_TreeReader_whole,.ref U,rfl,_,s1 _ _ hp,_,rfl,U,b,rfl,W,s',s1 _ _ hU,s1 _ _ hb,by have:=rd.lw;omega,fun r H2 s2 hr2 er=>?_⟩
   refine ⟨r,la,rfl,_,ls,er,s2 _ _ (s1 _ _ hla),?_⟩
   rw [isPart_iff.mpr fun m hm=>?_]
   ·exact q _ (s1.trans s2)
   ·unfold restF at hm
    have hm':=List.mem_filter.mp hm
    exact go.2 m hm'.1 (by simpa using hm'.2)
  | ask m a b=>
   obtain ⟨pa,pb,hp,ha,hb⟩:=ra
   repeat (walk_at "rl")
   refine ⟨p,_,_,rfl,_,_,hp,_,rfl,?_⟩
   rw [wd4,if_neg Bool.false_ne_true]
   repeat (walk_at "rl")
   refine ⟨p,_,_,rfl,_,_,hp,_,rfl,?_⟩
   rw [wd4,if_neg Bool.false_ne_true]
   repeat (walk_at "rl")
   refine ⟨p,_,_,rfl,_,_,hp,_,rfl,?_⟩
   rw [wd44,if_neg (by decide)]
   refine ⟨_,hp,_,rfl,m,rfl,_,rfl,?_⟩
   rw [if_neg (by decide)]
   repeat (walk_at "rl")
   refine ⟨_,hp,.int m,rfl,?_⟩
   repeat (walk_at "rl")
   refine ⟨_,_,_,hx,T.cl_TreeReader,T.na_TreeReader_whole,.ref U,rfl,?_⟩
   refine ⟨U,rfl,_,hU,rfl,flat_ints _,?_⟩
   rw [inV_ints,if_neg (by simp [go.1])]
   refine ⟨_,hhd,rfl,flat_ints _,?_⟩
   rw [inV_ints,if_neg (by simp [go.2.1])]
   refine ⟨_,hla,rfl,flat_ints _,?_⟩
   rw [inV_ints,if_neg (by simp [go.2.2.1])]
   repeat (walk_at "rl")
   have da:a.deep < n:=by have:max a.deep b.deep+1 < n+1:=dn;omega
   have db:b.deep < n:=by have:max a.deep b.deep+1 < n+1:=dn;omega
   refine ⟨_,_,hx,rfl,_,hp,.ref pa,rfl,by decide,fun p1 hp1=>?_⟩
   have s1:=same_new hp1 (.tup [V.int m])
   refine ⟨_,s1 _ _ hhd,by rw [List.length_map];exact small1000 (by omega),fun h1 H1 s2 _ eh1=>?_⟩
   have s12:=s1.trans s2
   refine ⟨x,pa,h1,la,rfl,W,cs,ps,a,hs++[m],ls,rd.mono s12,ha.mono fun _ _ e=>s12 _ _ e,by rw [eh1,List.map_append];rfl,s12 _ _ hla,go.2.2.2.1,da,by simp;omega,by omega,fun H2 s3=>⟨_,rfl,?_⟩⟩
   have s13:=s12.trans s3
   rw [if_pos rfl]
   refine ⟨_,_,s13 _ _ hx,rfl,_,s13 _ _ hp,.ref pb,rfl,by decide,fun p2 hp2=>?_⟩
   have s4:=s13.trans (same_new hp2 (.tup [V.int m]))
   refine ⟨_,s4 _ _ hla,by rw [List.length_map];exact small1000 (by omega),fun h2 H3 s5 _ eh2=>?_⟩
   have s6:=s4.trans s5
   refine ⟨x,pb,hd,h2,rfl,W,cs,ps,b,hs,ls++[m],rd.mono s6,hb.mono fun _ _ e=>s6 _ _ e,s6 _ _ hhd,by rw [eh2,List.map_append];rfl,go.2.2.2.2,db,by omega,by simp;omega,fun H4 s7=>q _ (s6.trans s7)⟩
end
local macro_rules | `(tactic| walk_at "rd") => `(tactic| walk_at "rc")
local macro_rules | `(tactic| walk_at "rl") => `(tactic| first | (refine seq_op fun R hR => ?_) | walk_at "ry" | (refine Nx.to (by assumption) _ _ ?_))
structure ByAt (H:Hp) (U C Pc:Addr) (W:List Int) (cs ps:List (List Int)):Prop where
 at_:∃bc bp,H U=some (.tup (List.map V.int W))/\H C=some (.lst (List.map V.ref bc))/\SetsAt H bc cs/\H Pc=some (.lst (List.map V.ref bp))/\SetsAt H bp ps
 lw:W.length<=100
 lc:cs.length<=900
 lp:ps.length<=900
 gc:∀s∈cs,Rise s/\s.length<=100
 gp:∀s∈ps,Rise s/\s.length<=100
def spIsTree:Sp:=fun vs H Q _=>∃U C Pc p,vs=[.ref U,.ref C,.ref Pc,.ref p]/\∃(W:List Int) (cs ps:List (List Int)) (tr:Tr),ByAt H U C Pc W cs ps/\TrAt H tr p/\Good W cs ps tr [] []/\tr.deep < 10/\
 ∀H',Same H H'->Q (.bl true) H'
section
variable {P:Program} {w:World} {K:PySem.W.Frag} {mg:Str->Option Value} {base:Heap} {t:Adr}
theorem ok_istree (T:Txt K mg t):FnOk P w K mg base CX0 14 t.a_is_tree t.d_is_tree ["whole","clashes","peaces","thing"] spIsTree:=by
 have G_TreeReader___init__:=ok_newR (P:=P) (w:=w) (base:=base) T
 have G_TreeReader_lets_by:=ok_lets (P:=P) (w:=w) (base:=base) T 10
 refine T.F_is_tree.okZ sc_is_tree (fun vs H Q E h=>?_) (fun cdv A outer s H vs Q E hr h hc hf=>?_)
 ·obtain ⟨U,C,Pc,p,rfl,_⟩:=h;rfl
 obtain ⟨U,C,Pc,p,rfl,W,cs,ps,tr,rd,ra,go,de,q⟩:=h
 have hu:=hu_of hr
 have hu0:=hr.units0
 refine ⟨_,(by exact zqss_one (zps_ret (zpe_meth (zpe_make T.mk_TreeReader G_TreeReader___init__ (hr.mono (by omega)) (glk hc (by decide +kernel)) T.m_TreeReader T.b_TreeReader___init__ .nil pass0 (zpa_cons (zpvk hc 0 (by decide +kernel)) (zpa_cons (zpvk hc 1 (by decide +kernel)) (zpa_cons (zpvk hc 2 (by decide +kernel)) zpa_nil)))) T.cl_TreeReader T.mt_TreeReader_lets_by G_TreeReader_lets_by (hr.mono (by omega)) T.b_TreeReader_lets_by .nil pass0 (zpa_cons (zpvk hc 3 (by decide +kernel)) (zpa_cons (zpe_tup zpa_nil) (zpa_cons (zpe_tup zpa_nil) zpa_nil)))))),?_⟩
 repeat (walk_at "rl")
 intro x dx hx hdx ne
 have k1:=same_new hdx (.own x)
 have k2:=same_new (show upd H dx (.own x) x=none by rw [upd_ne ne.symm];exact hx) (.ins t.c_TreeReader dx [])
 have k12:=k1.trans k2
 refine ⟨x,U,C,Pc,rfl,dx,upd_same,fun H1 k3 h1=>⟨rfl,_,_,h1,rfl,by decide,fun h0 hh0=>⟨by decide,fun l0 hl0=>?_⟩⟩⟩
 have s1:Same H H1:=fun a o e=>by
  have n:a≠x:=ne_of_none e hx
  rw [k3 a n];exact k12 _ _ e
 have t1:=same_new hh0 (.tup [])
 have t2:=same_new hl0 (.tup [])
 have s3:=(s1.trans t1).trans t2
 obtain ⟨bc,bp,hU,hC,sc,hP,sp⟩:=rd.at_
 refine ⟨x,p,h0,l0,rfl,W,cs,ps,tr,[],[],⟨⟨dx,U,C,Pc,bc,bp,t2 _ _ (t1 _ _ h1),s3 _ _ hU,s3 _ _ hC,sc.mono (fun _ _ e=>s3 _ _ e),s3 _ _ hP,sp.mono (fun _ _ e=>s3 _ _ e)⟩,rd.lw,rd.lc,rd.lp,rd.gc,rd.gp⟩,ra.mono fun _ _ e=>s3 _ _ e,t2 _ _ upd_same,upd_same,go,de,by decide,by decide,fun H4 s4=>q _ (s3.trans s4)⟩
end
local macro_rules | `(tactic| walk_at "rd") => `(tactic| walk_at "rc")
local macro_rules | `(tactic| walk_at "rl") => `(tactic| first | (refine seq_op fun R hR => ?_) | walk_at "ry" | (refine Nx.to (by assumption) _ _ ?_))
section
variable {P:Program} {w:World} {K:PySem.W.Frag} {mg:Str->Option Value} {base:Heap} {t:Adr}
theorem ok_ahead (T:Txt K mg t):FnOk P w K mg base CX0 1 t.a__law_ahead t.d__law_ahead ["_law_one","_law_other"] spAhead:=by
 refine T.F__law_ahead.okZ sc__law_ahead (fun vs H Q E h=>?_) (fun cdv A outer s H vs Q E hr h hc hf=>?_)
 ·obtain ⟨a,b,rfl,_⟩:=h;rfl
 obtain ⟨a,b,rfl,x,y,ha,hb,lx,q⟩:=h
 refine ⟨_,(by apply zqss_cons;exact (zqs_if (zpt_cmpR op_ne (zpe_callB call_lenT (glk hc (by decide +kernel)) T.z_len b_len (zpa_cons (zpvk hc 0 (by decide +kernel)) zpa_nil)) (zpe_callB call_lenT (glk hc (by decide +kernel)) T.z_len b_len (zpa_cons (zpvk hc 1 (by decide +kernel)) zpa_nil)) (nomark _)) (by exact zqss_one (zps_ret (zpe_cmpR op_lt (zpe_callB call_lenT (glk hc (by decide +kernel)) T.z_len b_len (zpa_cons (zpvk hc 0 (by decide +kernel)) zpa_nil)) (zpe_callB call_lenT (glk hc (by decide +kernel)) T.z_len b_len (zpa_cons (zpvk hc 1 (by decide +kernel)) zpa_nil)) (nomark _)))) zqss_nil);apply zqss_cons;exact (zqs_for PassesOwn.never rfl (zpi_range1 (glk hc (by decide +kernel)) T.z_range (zpa_cons (zpe_callB call_lenT (glk hc (by decide +kernel)) T.z_len b_len (zpa_cons (zpvk hc 0 (by decide +kernel)) zpa_nil)) zpa_nil)) (zpgk hc sc__law_ahead.nd hf 2 (by decide +kernel)) (by exact zqss_one (zqs_if (zpt_cmpR op_ne (zpe_ix ix_t (zpvk hc 0 (by decide +kernel)) (zpvk hc 2 (by decide +kernel)) (fun _ _=>rfl)) (zpe_ix ix_t (zpvk hc 1 (by decide +kernel)) (zpvk hc 2 (by decide +kernel)) (fun _ _=>rfl)) (nomark _)) (by exact zqss_one (zps_ret (zpe_cmpR op_lt (zpe_ix ix_t (zpvk hc 0 (by decide +kernel)) (zpvk hc 2 (by decide +kernel)) (fun _ _=>rfl)) (zpe_ix ix_t (zpvk hc 1 (by decide +kernel)) (zpvk hc 2 (by decide +kernel)) (fun _ _=>rfl)) (nomark _)))) zqss_nil)));exact zqss_one (zps_ret zpe_bl)),?_⟩
 repeat (first | walk_at "rd" | simp only [ha,hb])
 by_cases e:x.length=y.length
 ·rw [if_neg (by simp [e])]
  refine ⟨by omega,by omega,?_⟩
  obtain ⟨Pv,hPv⟩:∃Pv:Nat->St->Hp->Prop,∀i σ' H',Pv i σ' H'↔∃z:Option V,σ'=[some (.ref a),some (.ref b),z]/\H'=H/\HT.lexLt x y=HT.lexLt (x.drop i) (y.drop i):=⟨_,fun _ _ _=>Iff.rfl⟩
  refine forAll_rng Pv ((hPv _ _ _).mpr ⟨none,rfl,rfl,rfl⟩) (fun i σ' H1 hi pv=>?_) (fun σ' H1 pv=>?_)
  ·obtain ⟨z',rfl,rfl,al⟩:=(hPv _ _ _).mp pv
   have j1:i < x.length:=by omega
   have j2:i < y.length:=by omega
   have e1:atI (List.map V.int x) (i:Int)=some (.int x[i]):=atI_nat (by rw [List.getElem?_map,List.getElem?_eq_getElem j1];rfl)
   have e2:atI (List.map V.int y) (i:Int)=some (.int y[i]):=atI_nat (by rw [List.getElem?_map,List.getElem?_eq_getElem j2];rfl)
   rw [List.drop_eq_getElem_cons j1,List.drop_eq_getElem_cons j2,HT.lexLt_cons] at al
   repeat (first | walk_at "rd" | simp only [ha,hb,e1,e2])
   by_cases c:x[i]=y[i]
   ·rw [if_neg (by simp [c])]
    rw [if_pos c] at al
    exact (hPv _ _ _).mpr ⟨_,rfl,rfl,al⟩
   ·rw [if_pos (by simp [c])]
    rw [if_neg c] at al
    have ev:setLt x y=decide (x[i] < y[i]):=by
     unfold setLt
     rw [al,e]
     simp
    rw [<-ev]
    exact q
  ·obtain ⟨z',rfl,rfl,al⟩:=(hPv _ _ _).mp pv
   rw [show ((x.length:Int)).toNat=x.length by simp,List.drop_length,e,List.drop_length] at al
   repeat (walk_at "rd")
   have ev:setLt x y=false:=by
    unfold setLt
    rw [al,e]
    simp [HT.lexLt]
   rw [<-ev]
   exact q
 ·rw [if_pos (by simp;omega)]
  have ev:setLt x y=decide ((x.length:Int) < (y.length:Int)):=by
   unfold setLt
   simp [e]
  rw [<-ev]
  exact q
end
local macro_rules | `(tactic| walk_at "rd") => `(tactic| walk_at "rc")
local macro_rules | `(tactic| walk_at "rl") => `(tactic| first | (refine seq_op fun R hR => ?_) | walk_at "ry" | (refine Nx.to (by assumption) _ _ ?_))
def spGood (n:Nat):Sp:=fun vs H Q _=>∃U C Pc p hl ll,vs=[.ref U,.ref C,.ref Pc,.ref p,.ref hl,.ref ll]/\∃(W:List Int) (cs ps:List (List Int)) (tr:Tr) (hs ls:List Int),ByAt H U C Pc W cs ps/\TrAt H tr p/\H hl=some (.lst (List.map V.int hs))/\H ll=some (.lst (List.map V.int ls))/\Good W cs ps tr hs ls/\tr.deep < n/\hs.length+n<=100/\ls.length+n<=100/\
 ∀H',Same H H'->Q (.bl true) H'
theorem ints_is {H:Hp} {vs:List V} {ds:List Int} (r:RepL (fun (_:Hp) (v:V) (d:Int)=>v=V.int d) H vs ds):vs=List.map V.int ds:=by
 apply List.ext_getElem (by rw [List.length_map];exact r.1)
 intro i h1 h2
 rw [List.length_map] at h2
 rw [List.getElem_map]
 exact r.2 i _ _ (List.getElem?_eq_getElem h1) (List.getElem?_eq_getElem h2)
theorem ByAt.mono {H H':Hp} {U C Pc:Addr} {W:List Int} {cs ps:List (List Int)} (s:Same H H') (r:ByAt H U C Pc W cs ps):ByAt H' U C Pc W cs ps:=by
 obtain ⟨bc,bp,h2,h3,h4,h5,h6⟩:=r.at_
 exact ⟨⟨bc,bp,s _ _ h2,s _ _ h3,h4.mono (fun _ _ e=>s _ _ e),s _ _ h5,h6.mono (fun _ _ e=>s _ _ e)⟩,r.lw,r.lc,r.lp,r.gc,r.gp⟩
section
variable {P:Program} {w:World} {K:PySem.W.Frag} {mg:Str->Option Value} {base:Heap} {t:Adr}
theorem ok_good (T:Txt K mg t):∀n:Nat,FnOk P w K mg base CX0 (n+3) t.a__law_good t.d__law_good ["_law_whole","_law_clashes","_law_peaces","_law_thing","_law_held","_law_lacked"] (spGood n)
 | 0=>T.F__law_good.okZ (k:=2) sc__law_good (fun vs H Q E h=>by obtain ⟨U,C,Pc,z,y,x,rfl,_⟩:=h;rfl) (fun cdv A outer s H vs Q E hr h hc hf=>by obtain ⟨U,C,Pc,p,hl,ll,rfl,W,cs,ps,tr,hs,ls,_,_,_,_,_,h1,_⟩:=h;omega)
 | n+1=>by
  have G__law_is_whole:=ok_whole (P:=P) (w:=w) (base:=base) T
  have G__law_is_set:=ok_isset (P:=P) (w:=w) (base:=base) T
  have G__law_good:=ok_good T n
  refine T.F__law_good.okZ (k:=n+3) sc__law_good (fun vs H Q E h=>?_) (fun cdv A outer s H vs Q E hr h hc hf=>?_)
  ·obtain ⟨U,C,Pc,z,y,x,rfl,_⟩:=h;rfl
  obtain ⟨U,C,Pc,p,hl,ll,rfl,W,cs,ps,tr,hs,ls,rd,ra,hhl,hll,go,dn,lh,lll,q⟩:=h
  have hu:=hu_of hr
  have hu0:=hr.units0
  refine ⟨_,(by apply zqss_cons;exact (zqs_if (zPWpt (zpw_or (zpt_not (zpt_val (zpe_callB call_isiT (glk hc (by decide +kernel)) T.z_isinstance b_isinstance (zpa_cons (zpvk hc 3 (by decide +kernel)) (zpa_cons (zpe_bltn (v:=V.ty "tuple") (glk hc (by decide +kernel)) T.z_tuple b_tuple rfl) zpa_nil))))) (zpw_or (zpt_cmpR op_lt (zpe_callB call_lenT (glk hc (by decide +kernel)) T.z_len b_len (zpa_cons (zpvk hc 3 (by decide +kernel)) zpa_nil)) zpe_int (nomark _)) (zpw_or1 (zpt_not (zpt_val (zpe_callB call_isiT (glk hc (by decide +kernel)) T.z_isinstance b_isinstance (zpa_cons (zpe_ix ix_t (zpvk hc 3 (by decide +kernel)) zpe_int (fun _ _=>rfl)) (zpa_cons (zpe_bltn (v:=V.ty "str") (glk hc (by decide +kernel)) T.z_str b_str rfl) zpa_nil))))))))) (by exact zqss_one (zps_ret zpe_bl)) zqss_nil);apply zqss_cons;exact (zqs_if (zpt_cmpR op_eq (zpe_ix ix_t (zpvk hc 3 (by decide +kernel)) zpe_int (fun _ _=>rfl)) zpe_str (nomark _)) (by apply zqss_cons;exact (zqs_if (zPWpt (zpw_or (zpt_cmpR op_ne (zpe_callB call_lenT (glk hc (by decide +kernel)) T.z_len b_len (zpa_cons (zpvk hc 3 (by decide +kernel)) zpa_nil)) zpe_int (nomark _)) (zpw_or (zpt_not (zpt_val (zpe_call G__law_is_whole (hr.mono (by omega)) (glk hc (by decide +kernel)) T.m__law_is_whole T.F__law_is_whole.kp T.b__law_is_whole .nil pass0 (zpa_cons (zpe_ix ix_t (zpvk hc 3 (by decide +kernel)) zpe_int (fun _ _=>rfl)) zpa_nil)))) (zpw_or (zpt_cmpR op_notInT (zpe_ix ix_t (zpvk hc 3 (by decide +kernel)) zpe_int (fun _ _=>rfl)) (zpvk hc 0 (by decide +kernel)) (by with_unfolding_all rfl)) (zpw_or1 (zpt_cmpR op_inL (zpe_ix ix_t (zpvk hc 3 (by decide +kernel)) zpe_int (fun _ _=>rfl)) (zpe_op op_cat (zpvk hc 4 (by decide +kernel)) (zpvk hc 5 (by decide +kernel))) (by with_unfolding_all rfl))))))) (by exact zqss_one (zps_ret zpe_bl)) zqss_nil);apply zqss_cons;exact (zqs_if (zpt_not (zpt_val (zpe_call G__law_good (hr.mono (by omega)) (glk hc (by decide +kernel)) T.m__law_good T.F__law_good.kp T.b__law_good .nil pass0 (zpa_cons (zpvk hc 0 (by decide +kernel)) (zpa_cons (zpvk hc 1 (by decide +kernel)) (zpa_cons (zpvk hc 2 (by decide +kernel)) (zpa_cons (zpe_ix ix_t (zpvk hc 3 (by decide +kernel)) zpe_int (fun _ _=>rfl)) (zpa_cons (zpe_op op_cat (zpvk hc 4 (by decide +kernel)) (zpe_lst (zpa_cons (zpe_ix ix_t (zpvk hc 3 (by decide +kernel)) zpe_int (fun _ _=>rfl)) zpa_nil))) (zpa_cons (zpvk hc 5 (by decide +kernel)) zpa_nil))))))))) (by exact zqss_one (zps_ret zpe_bl)) zqss_nil);exact zqss_one (zps_ret (zpe_call G__law_good (hr.mono (by omega)) (glk hc (by decide +kernel)) T.m__law_good T.F__law_good.kp T.b__law_good .nil pass0 (zpa_cons (zpvk hc 0 (by decide +kernel)) (zpa_cons (zpvk hc 1 (by decide +kernel)) (zpa_cons (zpvk hc 2 (by decide +kernel)) (zpa_cons (zpe_ix ix_t (zpvk hc 3 (by decide +kernel)) zpe_int (fun _ _=>rfl)) (zpa_cons (zpvk hc 4 (by decide +kernel)) (zpa_cons (zpe_op op_cat (zpvk hc 5 (by decide +kernel)) (zpe_lst (zpa_cons (zpe_ix ix_t (zpvk hc 3 (by decide +kernel)) zpe_int (fun _ _=>rfl)) zpa_nil))) zpa_nil))))))))) zqss_nil);apply zqss_cons;exact (zqs_if (zPWpt (zpw_or (zpt_cmpR op_ne (zpe_callB call_lenT (glk hc (by decide +kernel)) T.z_len b_len (zpa_cons (zpvk hc 3 (by decide +kernel)) zpa_nil)) zpe_int (nomark _)) (zpw_or1 (zpt_not (zpt_val (zpe_call G__law_is_set (hr.mono (by omega)) (glk hc (by decide +kernel)) T.m__law_is_set T.F__law_is_set.kp T.b__law_is_set .nil pass0 (zpa_cons (zpe_ix ix_t (zpvk hc 3 (by decide +kernel)) zpe_int (fun _ _=>rfl)) zpa_nil))))))) (by exact zqss_one (zps_ret zpe_bl)) zqss_nil);apply zqss_cons;exact (zqs_if (zpt_cmpR op_eq (zpe_ix ix_t (zpvk hc 3 (by decide +kernel)) zpe_int (fun _ _=>rfl)) zpe_str (nomark _)) (by exact zqss_one (zps_ret (zpe_and (zpe_cmpR (op_inS hu) (zpe_ix ix_t (zpvk hc 3 (by decide +kernel)) zpe_int (fun _ _=>rfl)) (zpvk hc 1 (by decide +kernel)) (by with_unfolding_all rfl)) (zpe_one (zpe_callB (call_allB hr.hd) (glk hc (by decide +kernel)) T.z_all b_all (zpa_cons (zpek_comp hc ["_law_member"] [4] rfl (by decide +kernel) (zpi_tup (zpe_ix ix_t (zpvk hc 3 (by decide +kernel)) zpe_int (fun _ _=>rfl))) (fun _ hc=>zpgb hc (by decide +kernel) 0 (by decide +kernel)) (fun _ _=>zpifs_nil) (fun _ hc=>(zpe_cmpR op_inL (zpvk hc 0 (by decide +kernel)) (zpvk hc 1 (by decide +kernel)) (by with_unfolding_all rfl)))) zpa_nil)))))) zqss_nil);apply zqss_cons;exact (zpsk_comp hc sc__law_good.nd 6 (by decide +kernel) ["_law_member"] [3] rfl (by decide +kernel) (zpi_tup (zpvk hc 0 (by decide +kernel))) (fun _ hc=>zpgb hc (by decide +kernel) 0 (by decide +kernel)) (fun _ hc=>zpifs_one (zpt_cmpR op_notInT (zpvk hc 0 (by decide +kernel)) (zpe_ix ix_t (zpvk hc 1 (by decide +kernel)) zpe_int (fun _ _=>rfl)) (by with_unfolding_all rfl))) (fun _ hc=>(zpvk hc 0 (by decide +kernel))) (by rfl));exact zqss_one (zps_ret (zpe_and (zpe_cmpR op_eq (zpe_ix ix_t (zpvk hc 3 (by decide +kernel)) zpe_int (fun _ _=>rfl)) zpe_str (nomark _)) (zpe_and (zpe_cmpR (op_inS hu) (zpe_ix ix_t (zpvk hc 3 (by decide +kernel)) zpe_int (fun _ _=>rfl)) (zpvk hc 2 (by decide +kernel)) (by with_unfolding_all rfl)) (zpe_one (zpe_callB (call_allB hr.hd) (glk hc (by decide +kernel)) T.z_all b_all (zpa_cons (zpek_comp hc ["_law_member"] [5] rfl (by decide +kernel) (zpi_list (zpvk hc 6 (by decide +kernel))) (fun _ hc=>zpgb hc (by decide +kernel) 0 (by decide +kernel)) (fun _ _=>zpifs_nil) (fun _ hc=>(zpe_cmpR op_inL (zpvk hc 0 (by decide +kernel)) (zpvk hc 1 (by decide +kernel)) (by with_unfolding_all rfl)))) zpa_nil))))))),?_⟩
  obtain ⟨bc,bp,hU,hC,sc,hP,sp⟩:=rd.at_
  have lw:=rd.lw
  cases tr with
  | clash s'=>
   obtain ⟨b,hp,hb⟩:=ra
   repeat (walk_at "rl")
   refine ⟨_,.tup hp,true,kit_same _ _,?_⟩
   repeat (first | walk_at "rl" | simp only [hp])
   rw [if_neg (by decide),if_neg (by decide)]
   refine ⟨_,.str _,true,kit_same _ _,?_⟩
   rw [if_neg (by decide)]
   repeat (first | walk_at "rl" | simp only [hp])
   rw [if_neg (by simp)]
   refine ⟨b,rfl,s',hb,by have:=(rd.gc _ go.1).2;omega,(rd.gc _ go.1).1,fun H1 s1=>⟨_,rfl,?_⟩⟩
   rw [if_neg (by decide)]
   have hp1:=s1 _ _ hp
   have hb1:=s1 _ _ hb
   repeat (first | walk_at "rl" | simp only [hp1])
   refine ⟨s',hb1,_,s1 _ _ hC,_,sc.mono (fun _ _ e=>s1 _ _ e),?_⟩
   rw [if_pos go.1]
   refine ⟨⟨_,sqT_of hb1⟩,?_⟩
   refine compS_tup (zs:=List.map V.int s') (fun j=>s'[j]?.map fun _=>V.bl true) (fun _=>RVal) (fun _ _ _ _ _ _ r=>r) (fun _ _ _ _ _ _ _ r=>r) hb1 (by rw [List.length_map];have:=(rd.gc _ go.1).2;omega) (fun DD c H2 j z yes no hj s2 hDD hDx hyes hno=>?_) (fun D H2 vs s2 hD hD2 rl=>?_)
   ·obtain ⟨m,em,rfl⟩:=int_at hj
    rw [em] at hyes
    have hh2:=s2 _ _ (s1 _ _ hhl)
    walk_at "rc"
    repeat (walk_at "rl")
    refine ⟨_,hh2,rfl,flat_ints _,?_⟩
    rw [inV_ints,decide_eq_true (go.2 m (List.mem_of_getElem? em))]
    exact hyes _ rfl _ _ (fun _ _ e=>e) rfl
   have ev:=vals_is rl
   rw [List.length_map,fm_map (l:=s') (g:=fun _=>V.bl true) fun k hk=>by rw [List.getElem?_eq_getElem hk];rfl] at ev
   subst ev
   refine ⟨D,rfl,s'.map fun _=>true,by rw [hD2,List.map_map];rfl,?_⟩
   rw [List.all_map,show (s'.all (id ∘ fun _=>true))=true by simp]
   exact q _ (s1.trans s2)
  | peace s'=>
   obtain ⟨b,hp,hb⟩:=ra
   repeat (walk_at "rl")
   refine ⟨_,.tup hp,true,kit_same _ _,?_⟩
   repeat (first | walk_at "rl" | simp only [hp])
   rw [if_neg (by decide),if_neg (by decide)]
   refine ⟨_,.str _,true,kit_same _ _,?_⟩
   rw [if_neg (by decide)]
   repeat (first | walk_at "rl" | simp only [hp])
   rw [if_neg (by simp)]
   refine ⟨b,rfl,s',hb,by have:=(rd.gp _ go.1).2;omega,(rd.gp _ go.1).1,fun H1 s1=>⟨_,rfl,?_⟩⟩
   rw [if_neg (by decide)]
   have hp1:=s1 _ _ hp
   have hb1:=s1 _ _ hb
   repeat (first | walk_at "rl" | simp only [hp1])
   have hU1:=s1 _ _ hU
   refine ⟨⟨_,sqT_of hU1⟩,?_⟩
   refine compS_tup (zs:=List.map V.int W) (fun k=>if (W[k]?.any fun m=>decide (m∉s')) then W[k]? else none) (fun _ _ v d=>v=V.int d) (fun _ _ _ _ _ _ r=>r) (fun _ _ _ _ _ _ _ r=>r) hU1 (by rw [List.length_map];omega) (fun DD c H2 j z yes no hj s2 hDD hDx hyes hno=>?_) (fun D H2 vs s2 hD hD2 rl=>?_)
   ·obtain ⟨m,em,rfl⟩:=int_at hj
    rw [em] at hyes hno
    have hp2:=s2 _ _ hp1
    have hb2:=s2 _ _ hb1
    walk_at "rc"
    repeat (first | walk_at "rl" | simp only [hp2])
    refine ⟨_,hb2,rfl,flat_ints _,?_⟩
    rw [inV_ints]
    by_cases hm:m∈s'
    ·rw [if_neg (by simpa using hm)]
     exact hno (if_neg (by simpa using hm)) _ fun _ _ e=>e
    ·rw [if_pos (by simpa using hm)]
     exact hyes _ (if_pos (by simpa using hm)) _ _ (fun _ _ e=>e) rfl
   have ev:=ints_is rl
   rw [List.length_map,fm_filter (l:=W) (p:=fun m=>decide (m∉s')) fun k hk=>by rw [List.getElem?_eq_getElem hk];rfl] at ev
   subst ev
   have s12:=s1.trans s2
   have hp2:=s12 _ _ hp
   have lo:=List.length_filter_le (fun m=>decide (m∉s')) W
   repeat (first | walk_at "rl" | simp only [hp2])
   refine ⟨s',s12 _ _ hb,_,s12 _ _ hP,_,sp.mono (fun _ _ e=>s12 _ _ e),?_⟩
   rw [if_pos go.1]
   refine ⟨⟨_,sqL_of hD2⟩,?_⟩
   have gm:∀m∈W.filter fun m=>decide (m∉s'),m∈ls:=fun m hm=>by
    have hm':=List.mem_filter.mp hm
    exact go.2 m hm'.1 (by simpa using hm'.2)
   generalize (W.filter fun m=>decide (m∉s'))=os at gm lo hD2 ⊢
   refine compS_list (zs:=List.map V.int os) (fun j=>os[j]?.map fun _=>V.bl true) (fun _=>RVal) (fun _ _ _ _ _ _ r=>r) (fun _ _ _ _ _ _ _ r=>r) hD2 (by rw [List.length_map];omega) (fun DD c H3 j z yes no hj s3 hDD hDx hyes hno=>?_) (fun D3 H3 vs s3 hD3 hD33 rl=>?_)
   ·obtain ⟨m,em,rfl⟩:=int_at hj
    rw [em] at hyes
    have hh3:=s3 _ _ (s12 _ _ hll)
    walk_at "rc"
    repeat (walk_at "rl")
    refine ⟨_,hh3,rfl,flat_ints _,?_⟩
    rw [inV_ints,decide_eq_true (gm m (List.mem_of_getElem? em))]
    exact hyes _ rfl _ _ (fun _ _ e=>e) rfl
   have ev:=vals_is rl
   rw [List.length_map,fm_map (l:=os) (g:=fun _=>V.bl true) fun k hk=>by rw [List.getElem?_eq_getElem hk];rfl] at ev
   subst ev
   refine ⟨D3,rfl,os.map fun _=>true,by rw [hD33,List.map_map];rfl,?_⟩
   rw [List.all_map,show (os.all (id ∘ fun _=>true))=true by simp]
   exact q _ (s12.trans s3)
  | ask m a b=>
   obtain ⟨pa,pb,hp,ha,hb⟩:=ra
   repeat (walk_at "rl")
   refine ⟨_,.tup hp,true,kit_same _ _,?_⟩
   repeat (first | walk_at "rl" | simp only [hp])
   rw [if_neg (by decide),if_neg (by decide)]
   refine ⟨_,.str _,true,kit_same _ _,?_⟩
   rw [if_neg (by decide)]
   repeat (first | walk_at "rl" | simp only [hp])
   rw [if_neg (by simp)]
   refine ⟨m,rfl,_,rfl,?_⟩
   rw [if_neg (by decide)]
   refine ⟨_,hp,_,rfl,_,hU,rfl,flat_ints _,?_⟩
   rw [inV_ints,if_neg (by simp [go.1])]
   refine ⟨_,hp,_,rfl,_,hhl,_,hll,by simp only [List.length_map];exact Nat.le_of_lt (small1000 (by omega)),fun p1 hp1=>⟨rfl,by rw [<-List.map_append];exact flat_ints _,?_⟩⟩
   rw [<-List.map_append,inV_ints,if_neg (by simp [go.2.1,go.2.2.1])]
   have s1:=same_new hp1 (.lst (List.map V.int (hs++ls)))
   generalize upd H p1 (.lst (List.map V.int (hs++ls)))=H1 at s1 ⊢
   have hpp:=s1 _ _ hp
   have hh1:=s1 _ _ hhl
   have hl1:=s1 _ _ hll
   repeat (first | walk_at "rl" | simp only [hpp,hh1])
   have da:a.deep < n:=by have:max a.deep b.deep+1 < n+1:=dn;omega
   have db:b.deep < n:=by have:max a.deep b.deep+1 < n+1:=dn;omega
   refine ⟨by decide,fun p2 hp2=>?_⟩
   have s2:=s1.trans (same_new hp2 (.lst [V.int m]))
   refine ⟨_,s2 _ _ hhl,by rw [List.length_map];exact small1000 (by omega),fun h3 hh3=>?_⟩
   have s3:=s2.trans (same_new hh3 (.lst (List.map V.int hs++[V.int m])))
   have e3:∀G:Hp,upd G h3 (HO.lst (List.map V.int hs++[V.int m])) h3=some (.lst (List.map V.int (hs++[m]))):=fun G=>by rw [upd_same,List.map_append];rfl
   refine ⟨U,C,Pc,pa,h3,ll,rfl,W,cs,ps,a,hs++[m],ls,rd.mono s3,ha.mono fun _ _ e=>s3 _ _ e,e3 _,s3 _ _ hll,go.2.2.2.1,da,by simp;omega,by omega,fun H4 s4=>⟨_,rfl,?_⟩⟩
   have s5:=s3.trans s4
   rw [if_neg (by decide)]
   have hp5:=s5 _ _ hp
   have hl5:=s5 _ _ hll
   repeat (first | walk_at "rl" | simp only [hp5])
   refine ⟨by decide,fun p6 hp6=>?_⟩
   have s6:=s5.trans (same_new hp6 (.lst [V.int m]))
   refine ⟨_,s6 _ _ hll,by rw [List.length_map];exact small1000 (by omega),fun h7 hh7=>?_⟩
   have s7:=s6.trans (same_new hh7 (.lst (List.map V.int ls++[V.int m])))
   have e7:∀G:Hp,upd G h7 (HO.lst (List.map V.int ls++[V.int m])) h7=some (.lst (List.map V.int (ls++[m]))):=fun G=>by rw [upd_same,List.map_append];rfl
   exact ⟨U,C,Pc,pb,hl,h7,rfl,W,cs,ps,b,hs,ls++[m],rd.mono s7,hb.mono fun _ _ e=>s7 _ _ e,s7 _ _ hhl,e7 _,go.2.2.2.2,db,by omega,by simp;omega,fun H8 s8=>q _ (s7.trans s8)⟩
end
local macro_rules | `(tactic| walk_at "rd") => `(tactic| walk_at "rc")
local macro_rules | `(tactic| walk_at "rl") => `(tactic| first | (refine seq_op fun R hR => ?_) | walk_at "ry" | (refine Nx.to (by assumption) _ _ ?_))
theorem cover_by {ms:List Int} {n:Nat} {ck pk:List Nat} {cs ps:List (List Int)} (r:Rise ms) (ln:ms.length=n) (cov:CoverM n ck pk) (hc:∀x,x∈cs↔∃k∈ck,x=byF ms k) (hp:∀x,x∈ps↔∃k∈pk,x=byF ms k) :
  ∀S:List Int,(∀m∈S,m∈ms)->(∃s∈cs,∀m∈s,m∈S)\/∃s∈ps,∀m∈S,m∈s:=fun S sub=>by
 subst ln
 obtain ⟨k,hk,bits⟩:=mask_of (ms:=ms) (fun j=>decide (ms.getD j 0∈S)) ms.length
 rcases cov k hk with ⟨c,hcm,e⟩ | ⟨p,hpm,e⟩
 ·refine .inl ⟨byF ms c,(hc _).mpr ⟨c,hcm,rfl⟩,fun m hm=>?_⟩
  obtain ⟨j,hj,b,rfl⟩:=byN_mem.mp hm
  have b2:(c &&& k).testBit j=true:=by rw [e];exact b
  rw [Nat.testBit_and,bits j,Bool.and_eq_true,Bool.and_eq_true] at b2
  exact of_decide_eq_true b2.2.1
 ·refine .inr ⟨byF ms p,(hp _).mpr ⟨p,hpm,rfl⟩,fun m hm=>?_⟩
  obtain ⟨j,hj,rfl⟩:=List.mem_iff_getElem.mp (sub m hm)
  have eg:ms.getD j 0=ms[j]:=by simp [List.getD,hj]
  have b1:k.testBit j=true:=by
   rw [bits j,decide_eq_true hj,Bool.and_true,eg];exact decide_eq_true hm
  have b2:(k &&& p).testBit j=true:=by rw [e];exact b1
  rw [Nat.testBit_and,Bool.and_eq_true] at b2
  exact byN_mem.mpr ⟨j,hj,b2.2,eg.symm⟩
theorem CoverM.more {n:Nat} {ck pk ys zs:List Nat} (c:CoverM n ck pk):CoverM n (ck++ys) (pk++zs):=fun k hk=>by
 rcases c k hk with ⟨x,hx,e⟩ | ⟨x,hx,e⟩
 ·exact .inl ⟨x,List.mem_append_left _ hx,e⟩
 ·exact .inr ⟨x,List.mem_append_left _ hx,e⟩
theorem by_sub {ms:List Int} {k:Nat}:∀m∈byF ms k,m∈ms:=fun m hm=>by
 obtain ⟨j,hj,_,rfl⟩:=byN_mem.mp hm
 have eg:ms.getD j 0=ms[j]:=by simp [List.getD,hj]
 rw [eg];exact List.getElem_mem hj
local macro_rules | `(tactic| walk_at "rd") => `(tactic| walk_at "rc")
local macro_rules | `(tactic| walk_at "rl") => `(tactic| first | (refine seq_op fun R hR => ?_) | walk_at "ry" | (refine Nx.to (by assumption) _ _ ?_))
def spFirst:Sp:=fun vs H Q _=>∃M C Pc,vs=[.ref M,.ref C,.ref Pc]/\∃(ms:List Int) (bc bp:List Addr) (cs ps:List (List Int)),H M=some (.lst (List.map V.int ms))/\H C=some (.lst (List.map V.ref bc))/\SetsAt H bc cs/\H Pc=some (.lst (List.map V.ref bp))/\SetsAt H bp ps/\
 ms.length<=7/\cs.length<=900/\ps.length<=900/\(∀s∈cs,s.length<=100)/\
 (∀k,k < 2 ^ ms.length->openB cs ps (byF ms k)=true->(∀j,j < 2 ^ ms.length->openB cs ps (byF ms j)=true->setLt (byF ms j) (byF ms k)=false)->∀b H',Same H H'->H' b=some (.tup (List.map V.int (byF ms k)))->Q (.ref b) H')/\
 ((∀k,k < 2 ^ ms.length->openB cs ps (byF ms k)=false)->∀H',Same H H'->Q .non H')
section
variable {P:Program} {w:World} {K:PySem.W.Frag} {mg:Str->Option Value} {base:Heap} {t:Adr}
theorem ok_first (T:Txt K mg t):FnOk P w K mg base CX0 2 t.a__law_first t.d__law_first ["_law_members_here","_law_clashes","_law_peaces"] spFirst:=by
 have G__law_by:=ok_by (P:=P) (w:=w) (base:=base) T
 have G__law_ahead:=ok_ahead (P:=P) (w:=w) (base:=base) T
 refine T.F__law_first.okZ sc__law_first (fun vs H Q E h=>?_) (fun cdv A outer s H vs Q E hr h hc hf=>?_)
 ·obtain ⟨M,C,Pc,rfl,_⟩:=h;rfl
 obtain ⟨M,C,Pc,rfl,ms,bc,bp,cs,ps,hM,hC,sc,hP,sp,lm,lc,lp,ls,qo,q⟩:=h
 have hu:=hu_of hr
 have hu0:=hr.units0
 refine ⟨_,(by apply zqss_cons;exact (zpsk_set hc sc__law_first.nd hf 3 (by decide +kernel) zpe_non);apply zqss_cons;exact (zqs_for PassesOwn.never rfl (zpi_range1 (glk hc (by decide +kernel)) T.z_range (zpa_cons (zpe_op op_shl zpe_int (zpe_callB call_lenL (glk hc (by decide +kernel)) T.z_len b_len (zpa_cons (zpvk hc 0 (by decide +kernel)) zpa_nil))) zpa_nil)) (zpgk hc sc__law_first.nd hf 4 (by decide +kernel)) (by apply zqss_cons;exact (zpsk_set hc sc__law_first.nd hf 5 (by decide +kernel) (zpe_call G__law_by (hr.mono (by omega)) (glk hc (by decide +kernel)) T.m__law_by T.F__law_by.kp T.b__law_by .nil pass0 (zpa_cons (zpvk hc 0 (by decide +kernel)) (zpa_cons (zpvk hc 4 (by decide +kernel)) zpa_nil))));apply zqss_cons;exact (zpsk_set hc sc__law_first.nd hf 6 (by decide +kernel) (zpe_callB (call_anyB hr.hd) (glk hc (by decide +kernel)) T.z_any b_any (zpa_cons (zpek_comp hc ["_law_one"] [5] rfl (by decide +kernel) (zpi_list (zpvk hc 1 (by decide +kernel))) (fun _ hc=>zpgb hc (by decide +kernel) 0 (by decide +kernel)) (fun _ _=>zpifs_nil) (fun _ hc=>(zpe_callB (call_allB hr.hd) (glk hc (by decide +kernel)) T.z_all b_all (zpa_cons (zpek_comp hc ["_law_member"] [1] rfl (by decide +kernel) (zpi_tup (zpvk hc 0 (by decide +kernel))) (fun _ hc=>zpgb hc (by decide +kernel) 0 (by decide +kernel)) (fun _ _=>zpifs_nil) (fun _ hc=>(zpe_cmpR op_inT (zpvk hc 0 (by decide +kernel)) (zpvk hc 1 (by decide +kernel)) (by with_unfolding_all rfl)))) zpa_nil)))) zpa_nil)));exact zqss_one (zqs_if (zPWpt (zpw_and (zpt_not (zpt_val (zpvk hc 6 (by decide +kernel)))) (zpw_and1 (zpt_not (zpt_val (zpe_callB (call_anyB hr.hd) (glk hc (by decide +kernel)) T.z_any b_any (zpa_cons (zpek_compD hc ["_law_one"] ["_law_one"] [5] rfl (by decide +kernel) (zpi_list (zpvk hc 2 (by decide +kernel))) (fun _ hc=>zpgd hc (by decide +kernel) 0 (by decide +kernel) (by decide +kernel)) (fun _ _=>zpifs_nil) (fun _ hc=>(zpe_callB (call_allB hr.hd) (glk hc (by decide +kernel)) T.z_all b_all (zpa_cons (zpek_comp hc ["_law_member"] [0] rfl (by decide +kernel) (zpi_tup (zpvk hc 1 (by decide +kernel))) (fun _ hc=>zpgb hc (by decide +kernel) 0 (by decide +kernel)) (fun _ _=>zpifs_nil) (fun _ hc=>(zpe_cmpR op_inT (zpvk hc 0 (by decide +kernel)) (zpvk hc 1 (by decide +kernel)) (by with_unfolding_all rfl)))) zpa_nil)))) zpa_nil))))))) (by exact zqss_one (zqs_if (zPWpt (zpw_or (zpt_cmpR op_isN (zpvk hc 3 (by decide +kernel)) zpe_non (nomark _)) (zpw_or1 (zpt_val (zpe_call G__law_ahead (hr.mono (by omega)) (glk hc (by decide +kernel)) T.m__law_ahead T.F__law_ahead.kp T.b__law_ahead .nil pass0 (zpa_cons (zpvk hc 5 (by decide +kernel)) (zpa_cons (zpvk hc 3 (by decide +kernel)) zpa_nil))))))) (by exact zqss_one (zpsk_set hc sc__law_first.nd hf 3 (by decide +kernel) (zpvk hc 5 (by decide +kernel)))) zqss_nil)) zqss_nil)));exact zqss_one (zps_ret (zpvk hc 3 (by decide +kernel)))),?_⟩
 repeat (first | walk_at "rl" | simp only [hM])
 have p7:2 ^ ms.length<=128:=Nat.le_trans (Nat.pow_le_pow_right (by decide) lm) (by decide)
 have pw1:((1:Int) * 2 ^ ((ms.length:Int)).toNat)=((2 ^ ms.length:Nat):Int):=by rw [Int.toNat_natCast,Int.one_mul,Int.natCast_pow];rfl
 have cp:CPow 1 (ms.length:Int):=⟨by omega,by omega,by decide⟩
 refine ⟨cp,?_⟩
 rw [pw1]
 generalize hN:2 ^ ms.length=N at p7 qo q ⊢
 refine ⟨by omega,by omega,?_⟩
 obtain ⟨Pv,hPv⟩:∃Pv:Nat->St->Hp->Prop,∀i σ' H',Pv i σ' H'↔∃(f:V) (x y z:Option V),σ'=[some (.ref M),some (.ref C),some (.ref Pc),some f,x,y,z]/\Same H H'/\
   ((f=.non/\∀j,j < i->openB cs ps (byF ms j)=false)\/∃b k,f=.ref b/\k < i/\H' b=some (.tup (List.map V.int (byF ms k)))/\openB cs ps (byF ms k)=true/\∀j,j < i->openB cs ps (byF ms j)=true->setLt (byF ms j) (byF ms k)=false):=⟨_,fun _ _ _=>Iff.rfl⟩
 refine forAll_rng Pv ((hPv _ _ _).mpr ⟨.non,none,none,none,rfl,fun _ _ e=>e,.inl ⟨rfl,fun j hj=>absurd hj (Nat.not_lt_zero _)⟩⟩) (fun i σ' H1 hi pv=>?_) (fun σ' H1 pv=>?_)
 ·obtain ⟨f,x,y,z,rfl,s1,inv⟩:=(hPv _ _ _).mp pv
  rw [Int.toNat_natCast] at hi
  repeat (walk_at "rl")
  refine ⟨M,_,rfl,ms,i,rfl,s1 _ _ hM,by omega,fun b H2 s2 hb hb2=>?_⟩
  have s12:=s1.trans s2
  have lS:(byF ms i).length<=7:=Nat.le_trans byF_len lm
  have step:∀(f':V) H' y z,Same H2 H'->(openB cs ps (byF ms i)=false->f'=f)->(openB cs ps (byF ms i)=true->(f=.non->f'=.ref b)/\∀c k,f=.ref c->H' c=some (.tup (List.map V.int (byF ms k)))->f'=if setLt (byF ms i) (byF ms k)=true then .ref b else .ref c)->Pv (i+1) [some (.ref M),some (.ref C),some (.ref Pc),some f',some (.int (i:Int)),y,z] H':=fun f' H' y z s' no yes=>by
   refine (hPv _ _ _).mpr ⟨f',_,y,z,rfl,s12.trans s',?_⟩
   have hbb:=s' _ _ hb2
   cases eo:openB cs ps (byF ms i) with
   | false=>
    rw [no eo]
    rcases inv with ⟨e,h⟩ | ⟨c,k,e,hk,hc,ok,h⟩
    ·exact .inl ⟨e,fun j hj=>(Nat.lt_succ_iff_lt_or_eq.mp hj).elim (h j) fun e=>by rw [e];exact eo⟩
    ·refine .inr ⟨c,k,e,by omega,s' _ _ (s2 _ _ hc),ok,fun j hj oj=>(Nat.lt_succ_iff_lt_or_eq.mp hj).elim (fun hj=>h j hj oj) fun e=>by rw [e,eo] at oj;cases oj⟩
   | true=>
    obtain ⟨y1,y2⟩:=yes eo
    rcases inv with ⟨e,h⟩ | ⟨c,k,e,hk,hc,ok,h⟩
    ·refine .inr ⟨b,i,y1 e,by omega,hbb,eo,fun j hj oj=>(Nat.lt_succ_iff_lt_or_eq.mp hj).elim (fun hj=>by rw [h j hj] at oj;cases oj) fun e=>by rw [e];exact setLt_irr _⟩
    ·have hc':=s' _ _ (s2 _ _ hc)
     rw [y2 c k e hc']
     by_cases lt:setLt (byF ms i) (byF ms k)=true
     ·rw [if_pos lt]
      refine .inr ⟨b,i,rfl,by omega,hbb,eo,fun j hj oj=>(Nat.lt_succ_iff_lt_or_eq.mp hj).elim (fun hj=>?_) fun e=>by rw [e];exact setLt_irr _⟩
      cases e2:setLt (byF ms j) (byF ms i) with
      | false=>rfl
      | true=>have:=setLt_tr e2 lt;rw [h j hj oj] at this;cases this
     ·rw [if_neg lt]
      refine .inr ⟨c,k,rfl,by omega,hc',ok,fun j hj oj=>(Nat.lt_succ_iff_lt_or_eq.mp hj).elim (fun hj=>h j hj oj) fun e=>by rw [e];exact Bool.eq_false_iff.mpr lt⟩
  generalize byF ms i=S at lS step hb2
  have hC2:=s12 _ _ hC
  have sc2:SetsAt H2 bc cs:=sc.mono fun _ _ e=>s12 _ _ e
  repeat (walk_at "rl")
  refine ⟨⟨_,sqL_of hC2⟩,?_⟩
  refine compS_list (zs:=List.map V.ref bc) (fun j=>cs[j]?.map fun s=>V.bl (isPart s S)) (fun _=>RVal) (fun _ _ _ _ _ _ r=>r) (fun _ _ _ _ _ _ _ r=>r) hC2 (by rw [List.length_map,sc.1];omega) (fun DD c H3 j z yes no hj s3 hDD hDx hyes hno=>?_) (fun D H3 vs s3 hD hD3 rl=>?_)
  ·obtain ⟨a,ea,rfl⟩:=ref_at hj
   have hj1:j < bc.length:=(List.getElem?_eq_some_iff.mp ea).1
   have es:cs[j]? = some (cs[j]'(by have:=sc.1;omega)):=List.getElem?_eq_getElem _
   have ha:=s3 _ _ (sc2.2 j a _ ea es)
   have hl:=ls _ (List.mem_of_getElem? es)
   rw [es] at hyes
   generalize cs[j]'(by have:=sc.1;omega)=s' at ha hl hyes
   walk_at "rc"
   repeat (walk_at "rl")
   refine ⟨⟨_,sqT_of ha⟩,?_⟩
   refine compS_tup (zs:=List.map V.int s') (fun j=>s'[j]?.map fun m=>V.bl (decide (m∈S))) (fun _=>RVal) (fun _ _ _ _ _ _ r=>r) (fun _ _ _ _ _ _ _ r=>r) ha (by rw [List.length_map];omega) (fun DD c H4 j z yes no hj s4 hDD hDx hyes4 hno=>?_) (fun D H4 vs s4 hD hD4 rl=>?_)
   ·obtain ⟨m,em,rfl⟩:=int_at hj
    rw [em] at hyes4
    have hb4:=s4 _ _ (s3 _ _ hb2)
    walk_at "rc"
    repeat (walk_at "rl")
    refine ⟨_,hb4,rfl,flat_ints _,?_⟩
    rw [inV_ints]
    exact hyes4 _ rfl _ _ (fun _ _ e=>e) rfl
   have ev:=vals_is rl
   rw [List.length_map,fm_map (l:=s') (g:=fun m=>V.bl (decide (m∈S))) fun k hk=>by rw [List.getElem?_eq_getElem hk];rfl] at ev
   subst ev
   refine ⟨D,rfl,s'.map fun m=>decide (m∈S),by rw [hD4,List.map_map];rfl,?_⟩
   rw [List.all_map]
   exact hyes _ rfl _ _ s4 rfl
  have ev:=vals_is rl
  rw [List.length_map,sc.1,fm_map (l:=cs) (g:=fun s=>V.bl (isPart s S)) fun k hk=>by rw [List.getElem?_eq_getElem hk];rfl] at ev
  subst ev
  refine ⟨D,rfl,cs.map fun s=>isPart s S,by rw [hD3,List.map_map];rfl,?_⟩
  rw [List.any_map]
  repeat (walk_at "rl")
  have eC:(cs.any (id ∘ fun s=>isPart s S))=cs.any fun s=>isPart s S:=rfl
  rw [eC]
  cases e1:cs.any fun s=>isPart s S with
  | true=>
   rw [if_neg (by decide)]
   exact step f _ _ _ s3 (fun _=>rfl) fun h=>absurd h (by unfold openB;rw [e1];simp)
  | false=>
   rw [if_pos (by decide)]
   have s23:=s12.trans s3
   have hP3:=s23 _ _ hP
   have sp3:SetsAt H3 bp ps:=sp.mono fun _ _ e=>s23 _ _ e
   refine ⟨⟨_,sqL_of hP3⟩,?_⟩
   refine compS_list (zs:=List.map V.ref bp) (fun j=>ps[j]?.map fun s=>V.bl (isPart S s)) (fun _=>RVal) (fun _ _ _ _ _ _ r=>r) (fun _ _ _ _ _ _ _ r=>r) hP3 (by rw [List.length_map,sp.1];omega) (fun DD c H4 j z yes no hj s4 hDD hDx hyes hno=>?_) (fun D H4 vs s4 hD hD4 rl=>?_)
   ·obtain ⟨a,ea,rfl⟩:=ref_at hj
    have hj1:j < bp.length:=(List.getElem?_eq_some_iff.mp ea).1
    have es:ps[j]? = some (ps[j]'(by have:=sp.1;omega)):=List.getElem?_eq_getElem _
    have ha:=s4 _ _ (sp3.2 j a _ ea es)
    rw [es] at hyes
    generalize ps[j]'(by have:=sp.1;omega)=s' at ha hyes
    have hb4:=s4 _ _ (s3 _ _ hb2)
    walk_at "rc"
    repeat (walk_at "rl")
    refine ⟨⟨_,sqT_of hb4⟩,?_⟩
    refine compS_tup (zs:=List.map V.int S) (fun j=>S[j]?.map fun m=>V.bl (decide (m∈s'))) (fun _=>RVal) (fun _ _ _ _ _ _ r=>r) (fun _ _ _ _ _ _ _ r=>r) hb4 (by rw [List.length_map];omega) (fun DD c H5 j z yes no hj s5 hDD hDx hyes5 hno=>?_) (fun D H5 vs s5 hD hD5 rl=>?_)
    ·obtain ⟨m,em,rfl⟩:=int_at hj
     rw [em] at hyes5
     have ha5:=s5 _ _ ha
     walk_at "rc"
     repeat (walk_at "rl")
     refine ⟨_,ha5,rfl,flat_ints _,?_⟩
     rw [inV_ints]
     exact hyes5 _ rfl _ _ (fun _ _ e=>e) rfl
    have ev:=vals_is rl
    rw [List.length_map,fm_map (l:=S) (g:=fun m=>V.bl (decide (m∈s'))) fun k hk=>by rw [List.getElem?_eq_getElem hk];rfl] at ev
    subst ev
    refine ⟨D,rfl,S.map fun m=>decide (m∈s'),by rw [hD5,List.map_map];rfl,?_⟩
    rw [List.all_map]
    exact hyes _ rfl _ _ s5 rfl
   have ev:=vals_is rl
   rw [List.length_map,sp.1,fm_map (l:=ps) (g:=fun s=>V.bl (isPart S s)) fun k hk=>by rw [List.getElem?_eq_getElem hk];rfl] at ev
   subst ev
   refine ⟨D,rfl,ps.map fun s=>isPart S s,by rw [hD4,List.map_map];rfl,?_⟩
   rw [List.any_map,show (ps.any (id ∘ fun s=>isPart S s))=ps.any fun s=>isPart S s from rfl]
   have s34:=s3.trans s4
   cases e2:ps.any fun s=>isPart S s with
   | true=>
    rw [if_neg (by decide)]
    exact step f _ _ _ s34 (fun _=>rfl) fun h=>absurd h (by unfold openB;rw [e1,e2];simp)
   | false=>
    rw [if_pos (by decide)]
    have op:openB cs ps S=true:=by unfold openB;rw [e1,e2];rfl
    rcases inv with ⟨rfl,h⟩ | ⟨c,k,rfl,hk,hc,ok,h⟩
    ·rw [if_pos rfl]
     exact step _ _ _ _ s34 (fun h=>by rw [op] at h;cases h) fun _=>⟨fun _=>rfl,fun _ _ e=>by cases e⟩
    ·rw [if_neg (by simp)]
     have hc4:=s34 _ _ (s2 _ _ hc)
     refine ⟨b,c,rfl,S,byF ms k,s34 _ _ hb2,hc4,by omega,_,rfl,?_⟩
     by_cases lt:setLt S (byF ms k)=true
     ·rw [if_pos lt]
      refine step _ _ _ _ s34 (fun h=>by rw [op] at h;cases h) fun _=>⟨fun e=>by (cases e),fun c' k' e hc'=>?_⟩
      cases e
      rw [hc4] at hc'
      have ek:byF ms k'=byF ms k:=(ints_inj (by injection hc' with h;injection h)).symm
      rw [ek,if_pos lt]
     ·rw [if_neg lt]
      refine step _ _ _ _ s34 (fun _=>rfl) fun _=>⟨fun e=>by (cases e),fun c' k' e hc'=>?_⟩
      cases e
      rw [hc4] at hc'
      have ek:byF ms k'=byF ms k:=(ints_inj (by injection hc' with h;injection h)).symm
      rw [ek,if_neg lt]
 obtain ⟨f,x,y,z,rfl,s1,inv⟩:=(hPv _ _ _).mp pv
 rw [Int.toNat_natCast] at inv
 repeat (walk_at "rl")
 rcases inv with ⟨rfl,h⟩ | ⟨b,k,rfl,hk,hb,ok,h⟩
 ·exact q h _ s1
 ·exact qo k hk ok h b _ s1 hb
end
local macro_rules | `(tactic| walk_at "rd") => `(tactic| walk_at "rc")
local macro_rules | `(tactic| walk_at "rl") => `(tactic| first | (refine seq_op fun R hR => ?_) | walk_at "ry" | (refine Nx.to (by assumption) _ _ ?_))
theorem subsF_sublist {x t:List Int} (h:t∈subsF x):t.Sublist x:=by
 have:∀(x:List Int) (y:List Int) (ps:List (List Int)),(∀p∈ps,p.Sublist y)->∀t∈x.foldl stepF ps,t.Sublist (y++x):=fun x=>by
  induction x with
  | nil=>intro y ps h t ht;rw [List.append_nil];exact h t ht
  | cons k x ih=>
   intro y ps h t ht
   rw [List.foldl_cons] at ht
   have st:∀p∈stepF ps k,p.Sublist (y++[k]):=fun p hp=>by
    unfold stepF at hp
    rcases List.mem_append.mp hp with hp | hp
    ·exact (h p hp).trans (List.sublist_append_left _ _)
    ·obtain ⟨c,hc,rfl⟩:=List.mem_map.mp hp
     exact (h c hc).append (List.Sublist.refl _)
   have:=ih (y++[k]) _ st t ht
   rwa [List.append_assoc] at this
 exact this x [] [[]] (by simp) t h
theorem subsF_by {ms S:List Int} (r:Rise ms):S∈subsF ms↔∃k,k < 2 ^ ms.length/\byF ms k=S:=by
 constructor
 ·intro h
  have sl:=subsF_sublist h
  exact byF_onto r (r.sublist sl) fun m hm=>sl.subset hm
 ·rintro ⟨k,_,rfl⟩
  exact mem_subsF_of _ rfl r (byF_rise r) by_sub
def FamB (ms:List Int) (cs:List (List Int)):Prop:=∀s∈cs,∃k,s=byF ms k
theorem FamB.good {ms:List Int} {cs:List (List Int)} (f:FamB ms cs) (r:Rise ms) (l:ms.length<=7):∀s∈cs,Rise s/\s.length<=100:=fun s hs=>by
 obtain ⟨k,rfl⟩:=f s hs
 exact ⟨byF_rise r,by have:=byF_len (ms:=ms) (k:=k);omega⟩
def spAnswer:Sp:=fun vs H Q _=>∃M C Pc,vs=[.ref M,.ref C,.ref Pc]/\∃(ms:List Int) (bc bp:List Addr) (cs ps:List (List Int)),H M=some (.lst (List.map V.int ms))/\H C=some (.lst (List.map V.ref bc))/\SetsAt H bc cs/\H Pc=some (.lst (List.map V.ref bp))/\SetsAt H bp ps/\
 ms.length<=7/\cs.length<=900/\ps.length<=900/\Rise ms/\FamB ms cs/\FamB ms ps/\∀H',Same H H'->Q (.bl true) H'
section
variable {P:Program} {w:World} {K:PySem.W.Frag} {mg:Str->Option Value} {base:Heap} {t:Adr}
theorem ok_answer (T:Txt K mg t):FnOk P w K mg base CX0 15 t.a__law_answer t.d__law_answer ["_law_members_here","_law_clashes","_law_peaces"] spAnswer:=by
 have G_tree_of:=ok_tree_of (P:=P) (w:=w) (base:=base) T
 have G_is_tree:=ok_istree (P:=P) (w:=w) (base:=base) T
 have G__law_good:=ok_good (P:=P) (w:=w) (base:=base) T 10
 have G__law_first:=ok_first (P:=P) (w:=w) (base:=base) T
 have G__law_is_set:=ok_isset (P:=P) (w:=w) (base:=base) T
 refine T.F__law_answer.okZ sc__law_answer (fun vs H Q E h=>?_) (fun cdv A outer s H vs Q E hr h hc hf=>?_)
 ·obtain ⟨M,C,Pc,rfl,_⟩:=h;rfl
 obtain ⟨M,C,Pc,rfl,ms,bc,bp,cs,ps,hM,hC,sc,hP,sp,lm,lc,lp,rise,fc,fp,q⟩:=h
 have hu:=hu_of hr
 have hu0:=hr.units0
 have gc:=fc.good rise lm
 have gp:=fp.good rise lm
 have sub:∀s∈cs,∀m∈s,m∈ms:=fun s hs m hm=>by obtain ⟨k,rfl⟩:=fc s hs;exact by_sub m hm
 refine ⟨_,(by apply zqss_cons;exact (zpsk_set hc sc__law_answer.nd hf 3 (by decide +kernel) (zpe_callTy call_tupleL (glk hc (by decide +kernel)) T.z_tuple b_tuple (zpa_cons (zpvk hc 0 (by decide +kernel)) zpa_nil)));apply zqss_cons;exact (zpsk_set hc sc__law_answer.nd hf 4 (by decide +kernel) (zpe_call G_tree_of (hr.mono (by omega)) (glk hc (by decide +kernel)) T.m_tree_of T.F_tree_of.kp T.b_tree_of .nil pass0 (zpa_cons (zpvk hc 3 (by decide +kernel)) (zpa_cons (zpe_callTy call_listL (glk hc (by decide +kernel)) T.z_list b_list (zpa_cons (zpvk hc 1 (by decide +kernel)) zpa_nil)) (zpa_cons (zpe_callTy call_listL (glk hc (by decide +kernel)) T.z_list b_list (zpa_cons (zpvk hc 2 (by decide +kernel)) zpa_nil)) zpa_nil)))));apply zqss_cons;exact (zqs_if (zPWpt (zpw_or (zpt_not (zpt_val (zpe_callB call_isiT (glk hc (by decide +kernel)) T.z_isinstance b_isinstance (zpa_cons (zpvk hc 4 (by decide +kernel)) (zpa_cons (zpe_bltn (v:=V.ty "tuple") (glk hc (by decide +kernel)) T.z_tuple b_tuple rfl) zpa_nil))))) (zpw_or1 (zpt_cmpR op_ne (zpe_callB call_lenT (glk hc (by decide +kernel)) T.z_len b_len (zpa_cons (zpvk hc 4 (by decide +kernel)) zpa_nil)) zpe_int (nomark _))))) (by exact zqss_one (zps_ret zpe_bl)) zqss_nil);apply zqss_cons;exact (zpsk_set hc sc__law_answer.nd hf 5 (by decide +kernel) (zpe_call G__law_first (hr.mono (by omega)) (glk hc (by decide +kernel)) T.m__law_first T.F__law_first.kp T.b__law_first .nil pass0 (zpa_cons (zpvk hc 0 (by decide +kernel)) (zpa_cons (zpvk hc 1 (by decide +kernel)) (zpa_cons (zpvk hc 2 (by decide +kernel)) zpa_nil)))));apply zqss_cons;exact (zqs_if (zpt_cmpR op_isN (zpvk hc 5 (by decide +kernel)) zpe_non (nomark _)) (by apply zqss_cons;exact (zqs_if (zPWpt (zpw_or (zpt_cmpR op_ne (zpe_ix ix_t (zpvk hc 4 (by decide +kernel)) zpe_int (fun _ _=>rfl)) zpe_str (nomark _)) (zpw_or1 (zpt_cmpR op_notB (zpe_call G_is_tree (hr.mono (by omega)) (glk hc (by decide +kernel)) T.m_is_tree T.F_is_tree.kp T.b_is_tree .nil pass0 (zpa_cons (zpvk hc 3 (by decide +kernel)) (zpa_cons (zpe_callTy call_listL (glk hc (by decide +kernel)) T.z_list b_list (zpa_cons (zpvk hc 1 (by decide +kernel)) zpa_nil)) (zpa_cons (zpe_callTy call_listL (glk hc (by decide +kernel)) T.z_list b_list (zpa_cons (zpvk hc 2 (by decide +kernel)) zpa_nil)) (zpa_cons (zpe_ix ix_t (zpvk hc 4 (by decide +kernel)) zpe_int (fun _ _=>rfl)) zpa_nil))))) zpe_bl (nomark _))))) (by exact zqss_one (zps_ret zpe_bl)) zqss_nil);exact zqss_one (zps_ret (zpe_call G__law_good (hr.mono (by omega)) (glk hc (by decide +kernel)) T.m__law_good T.F__law_good.kp T.b__law_good .nil pass0 (zpa_cons (zpvk hc 3 (by decide +kernel)) (zpa_cons (zpvk hc 1 (by decide +kernel)) (zpa_cons (zpvk hc 2 (by decide +kernel)) (zpa_cons (zpe_ix ix_t (zpvk hc 4 (by decide +kernel)) zpe_int (fun _ _=>rfl)) (zpa_cons (zpe_lst zpa_nil) (zpa_cons (zpe_lst zpa_nil) zpa_nil))))))))) zqss_nil);exact zqss_one (zps_ret (zpe_and (zpe_cmpR op_eq (zpe_ix ix_t (zpvk hc 4 (by decide +kernel)) zpe_int (fun _ _=>rfl)) zpe_str (nomark _)) (zpe_and (zpe_call G__law_is_set (hr.mono (by omega)) (glk hc (by decide +kernel)) T.m__law_is_set T.F__law_is_set.kp T.b__law_is_set .nil pass0 (zpa_cons (zpe_ix ix_t (zpvk hc 4 (by decide +kernel)) zpe_int (fun _ _=>rfl)) zpa_nil)) (zpe_one (zpe_cmpR (op_eqTI hu) (zpe_ix ix_t (zpvk hc 4 (by decide +kernel)) zpe_int (fun _ _=>rfl)) (zpvk hc 5 (by decide +kernel)) (nomark _))))))),?_⟩
 repeat (walk_at "rl")
 refine ⟨_,hM,fun U hU=>?_⟩
 have s1:=same_new hU (.tup (List.map V.int ms))
 have hU1:upd H U (.tup (List.map V.int ms)) U=_:=upd_same
 generalize upd H U (.tup (List.map V.int ms))=H1 at s1 hU1 ⊢
 repeat (walk_at "rl")
 refine ⟨_,s1 _ _ hC,fun C1 hC1=>?_⟩
 have s2:=same_new hC1 (.lst (List.map V.ref bc))
 have hC2:upd H1 C1 (.lst (List.map V.ref bc)) C1=_:=upd_same
 generalize upd H1 C1 (.lst (List.map V.ref bc))=H2 at s2 hC2 ⊢
 have s12:=s1.trans s2
 refine ⟨_,s12 _ _ hP,fun P1 hP1=>?_⟩
 have s3:=same_new hP1 (.lst (List.map V.ref bp))
 have hP3:upd H2 P1 (.lst (List.map V.ref bp)) P1=_:=upd_same
 generalize upd H2 P1 (.lst (List.map V.ref bp))=H3 at s3 hP3 ⊢
 have s13:=s12.trans s3
 have hU3:=s3 _ _ (s2 _ _ hU1)
 have hC3:=s3 _ _ hC2
 refine ⟨U,C1,P1,rfl,bc,bp,ms,cs,ps,hU3,hC3,sc.mono (fun _ _ e=>s13 _ _ e),hP3,sp.mono (fun _ _ e=>s13 _ _ e),lm,rise,lc,lp,fun s hs=>(gc s hs).2,sub,fun p b S H4 s4 hp hb hS op fi=>?_,fun none p r tr H4 s4 hp ra go de=>?_⟩
 ·have s14:=s13.trans s4
  repeat (first | walk_at "rl" | simp only [hp])
  refine ⟨_,.tup hp,true,kit_same _ _,?_⟩
  repeat (first | walk_at "rl" | simp only [hp])
  obtain ⟨k,hk,rfl⟩:=(subsF_by rise).mp hS
  refine ⟨M,C,Pc,rfl,ms,bc,bp,cs,ps,s14 _ _ hM,s14 _ _ hC,sc.mono (fun _ _ e=>s14 _ _ e),s14 _ _ hP,sp.mono (fun _ _ e=>s14 _ _ e),lm,lc,lp,fun s hs=>(gc s hs).2,fun k' hk' op' fi' b' H5 s5 hb'=>?_,fun no=>?_⟩
  ·have ek:byF ms k'=byF ms k:=by
    rcases fi _ ((subsF_by rise).mpr ⟨k',hk',rfl⟩) op' with e | e
    ·exact e
    ·rw [fi' k hk op] at e;cases e
   rw [ek] at hb'
   have hp5:=s5 _ _ hp
   have hb5:=s5 _ _ hb
   repeat (first | walk_at "rl" | simp only [hp5])
   refine ⟨b,rfl,byF ms k,hb5,by have:=byF_len (ms:=ms) (k:=k);omega,byF_rise rise,fun H6 s6=>⟨_,rfl,?_⟩⟩
   rw [if_pos rfl]
   refine ⟨_,s6 _ _ hp5,_,rfl,b,rfl,_,s6 _ _ hb5,_,s6 _ _ hb',?_⟩
   rw [decide_eq_true rfl]
   exact q _ ((s14.trans s5).trans s6)
  ·rw [no k hk] at op;cases op
 ·have s14:=s13.trans s4
  repeat (first | walk_at "rl" | simp only [hp])
  refine ⟨_,.tup hp,true,kit_same _ _,?_⟩
  repeat (first | walk_at "rl" | simp only [hp])
  refine ⟨M,C,Pc,rfl,ms,bc,bp,cs,ps,s14 _ _ hM,s14 _ _ hC,sc.mono (fun _ _ e=>s14 _ _ e),s14 _ _ hP,sp.mono (fun _ _ e=>s14 _ _ e),lm,lc,lp,fun s hs=>(gc s hs).2,fun k' hk' op' fi' b' H5 s5 hb'=>?_,fun no H5 s5=>?_⟩
  ·rw [none _ ((subsF_by rise).mpr ⟨k',hk',rfl⟩)] at op';cases op'
  have hp5:=s5 _ _ hp
  repeat (first | walk_at "rl" | simp only [hp5])
  rw [if_neg (by decide)]
  have s15:=s14.trans s5
  refine ⟨_,s15 _ _ hC,fun C5 hC5=>?_⟩
  have t1:=same_new hC5 (.lst (List.map V.ref bc))
  have hC6:upd H5 C5 (.lst (List.map V.ref bc)) C5=_:=upd_same
  generalize upd H5 C5 (.lst (List.map V.ref bc))=H6 at t1 hC6 ⊢
  have s16:=s15.trans t1
  refine ⟨_,s16 _ _ hP,fun P5 hP5=>?_⟩
  have t2:=same_new hP5 (.lst (List.map V.ref bp))
  have hP6:upd H6 P5 (.lst (List.map V.ref bp)) P5=_:=upd_same
  generalize upd H6 P5 (.lst (List.map V.ref bp))=H7 at t2 hP6 ⊢
  have s17:=s16.trans t2
  have t47:=(s5.trans t1).trans t2
  have hU7:=t47 _ _ (s4 _ _ hU3)
  have lm1:ms.length<=100:=by omega
  refine ⟨_,t47 _ _ hp,_,rfl,U,C5,P5,r,rfl,ms,cs,ps,tr,⟨⟨bc,bp,hU7,t2 _ _ hC6,sc.mono (fun _ _ e=>s17 _ _ e),hP6,sp.mono (fun _ _ e=>s17 _ _ e)⟩,lm1,lc,lp,gc,gp⟩,ra.mono fun _ _ e=>t47 _ _ e,go,by omega,fun H8 s8=>⟨_,rfl,?_⟩⟩
  rw [if_neg (by decide)]
  have t48:=t47.trans s8
  have hp8:=t48 _ _ hp
  have s18:=s17.trans s8
  repeat (first | walk_at "rl" | simp only [hp8])
  refine ⟨by decide,fun k1 hk1=>⟨by decide,fun k2 hk2=>?_⟩⟩
  have u1:=same_new hk1 (.lst [])
  have u2:=same_new hk2 (.lst [])
  have u12:=u1.trans u2
  have s19:=s18.trans u12
  have t49:=t48.trans u12
  exact ⟨U,C,Pc,r,k1,k2,rfl,ms,cs,ps,tr,[],[],⟨⟨bc,bp,u12 _ _ (s8 _ _ hU7),s19 _ _ hC,sc.mono (fun _ _ e=>s19 _ _ e),s19 _ _ hP,sp.mono (fun _ _ e=>s19 _ _ e)⟩,lm1,lc,lp,gc,gp⟩,ra.mono fun _ _ e=>t49 _ _ e,u2 _ _ upd_same,upd_same,go,by omega,by decide,by decide,fun H9 s9=>q _ (s19.trans s9)⟩
end
local macro_rules | `(tactic| walk_at "rd") => `(tactic| walk_at "rc")
local macro_rules | `(tactic| walk_at "rl") => `(tactic| first | (refine seq_op fun R hR => ?_) | walk_at "ry" | (refine Nx.to (by assumption) _ _ ?_))
theorem some_fam {K:PySem.W.Frag} {X:Addr} {bx:List Addr} {cs:List (List Int)} {idx:List Nat} {tt:CB->TT} {σ:St} {Q:VK} {h:Addr} {H1:Hp} (hd:HandAt H1 h) (hX:H1 X=some (.lst (List.map V.ref bx))) (hXh:X≠h) (sx:SetsAt H1 bx cs) (l9:cs.length<=900)
  (ht:∀(c:CB) (b:Addr) (H:Hp) (R:Bool->Hp->Prop),Dr h H1 H->(∀(r:Bool) H',Dr h H1 H'->(∀b,b≠h->H' b=H b)->R r H')->tt c (some (.ref b)::subS σ idx) H R)
  (q:∀D bs ts H',Dr h H1 H'->H1 D=none->H' D=some (.lst (List.map V.ref bs))->SetsAt H' bs ts->(∀s∈ts,s∈cs)->ts.length<=cs.length->Q (.ref D) H'):CompAll (Itl K X) 1 idx (fun _=>gName 0) tt (fun _=>tVar 0) σ Q H1:=by
 obtain ⟨Pc,hPc⟩:∃Pc:Addr->Nat->List V->Hp->Prop,∀Z i ys H',Pc Z i ys H'↔∃bs ts,ys=List.map V.ref bs/\Dr h H1 H'/\H' Z=some (.lst ys)/\SetsAt H' bs ts/\(∀s∈ts,s∈cs)/\ts.length<=i:=⟨_,fun _ _ _ _=>Iff.rfl⟩
 refine compAll_list (zs:=List.map V.ref bx) Pc (fun Z hZ=>(hPc _ _ _ _).mpr ⟨[],[],rfl,Dr.refl.new hZ,upd_same,⟨rfl,fun _ _ _ z=>by cases z⟩,fun _ z=>(nomatch z),Nat.le_refl _⟩) (fun Z hZ i ys H' _ pv=>?_) (fun Z hZ i z ys H' hz pv cb=>?_) (fun Z hZ ys H' pv=>?_)
 ·obtain ⟨_,_,_,d,_⟩:=(hPc _ _ _ _).mp pv
  exact d.keep _ _ hXh hX
 ·obtain ⟨bs,ts,rfl,d1,hZ1,sb,sub,lt⟩:=(hPc _ _ _ _).mp pv
  obtain ⟨b,eb,rfl⟩:=ref_at hz
  have hi:i < bx.length:=(List.getElem?_eq_some_iff.mp eb).1
  have lx:=sx.1
  have es:cs[i]? = some (cs[i]'(by omega)):=List.getElem?_eq_getElem _
  have hb:=d1.keep _ _ (hd.ntup (sx.2 i b _ eb es)) (sx.2 i b _ eb es)
  have hcs:=List.mem_of_getElem? es
  generalize cs[i]'(by omega)=s at hb hcs es
  have hZh:Z≠h:=hd.ne hZ
  have hd1:=d1.handAt hd
  refine ht cb b H' _ d1 fun r H2 d2 k2=>?_
  have hZ2:H2 Z=some (.lst (List.map V.ref bs)):=(k2 Z hZh).trans hZ1
  have kt:∀c xs,H' c=some (.tup xs)->H2 c=some (.tup xs):=fun c xs e=>(k2 c (hd1.ntup e)).trans e
  cases r with
  | false=>
   rw [if_neg (by decide)]
   exact (hPc _ _ _ _).mpr ⟨bs,ts,rfl,d2,hZ2,sb.mono kt,sub,by omega⟩
  | true=>
   rw [if_pos rfl]
   have lb:=sb.1
   refine ⟨_,rfl,hZ2,by rw [List.length_map];exact small1000 (by omega),(hPc _ _ _ _).mpr ⟨bs++[b],ts++[s],by rw [List.map_append];rfl,d2.put hZ,upd_same,?_,fun s' hs'=>?_,by simp;omega⟩⟩
   ·have s1:SetsAt H2 [b] [s]:=⟨rfl,fun j c u h1 h2=>by
     match j,h1,h2 with
     | 0,h1,h2=>cases h1;cases h2;exact kt _ _ hb
     | _+1,h1,_=>cases h1⟩
    exact ((sb.mono kt).app s1).mono fun c xs e=>by rw [upd_ne (ne_of e hZ2 (by intro z;cases z))];exact e
   ·rcases List.mem_append.mp hs' with z | z
    ·exact sub _ z
    ·rw [List.mem_singleton.mp z];exact hcs
 ·obtain ⟨bs,ts,rfl,d1,hZ1,sb,sub,lt⟩:=(hPc _ _ _ _).mp pv
  rw [List.length_map,sx.1] at lt
  exact q Z bs ts H' d1 hZ hZ1 sb sub lt
theorem rep_map {α β:Type} (f:α->β) (m:Nat) (l:List α):(List.replicate m (List.map f l)).flatten=List.map f (List.replicate m l).flatten:=by
 rw [List.map_flatten,List.map_replicate]
theorem repS {H:Hp} {bs:List Addr} {ts:List (List Int)} (s:SetsAt H bs ts) (m:Nat):SetsAt H (List.replicate m bs).flatten (List.replicate m ts).flatten:=by
 obtain ⟨zs,rfl,rfl,pz⟩:=pr_of s
 rw [rep_map,rep_map]
 exact PrAt.sets fun z hz=>by
  obtain ⟨l,hl,h⟩:=List.mem_flatten.mp hz
  rw [(List.mem_replicate.mp hl).2] at h
  exact pz z h
theorem FamB.rep {ms:List Int} {cs:List (List Int)} (f:FamB ms cs) (m:Nat):FamB ms (List.replicate m cs).flatten:=fun s hs=>by
 obtain ⟨l,hl,h⟩:=List.mem_flatten.mp hs
 rw [(List.mem_replicate.mp hl).2] at h
 exact f s h
def spLaw (K:PySem.W.Frag):Sp:=fun vs H Q _=>∃(a:Addr) (ns:List Int),vs=[.ref a]/\SqL K H a (List.map V.int ns)/\ns.length<=63/\∀H',Q (.bl true) H'
section
variable {P:Program} {w:World} {K:PySem.W.Frag} {mg:Str->Option Value} {base:Heap} {t:Adr}
theorem ok_law (T:Txt K mg t):FnOk P w K mg base CX0 16 t.a_law t.d_law ["_law_script"] (spLaw K):=by
 have G__law_draw:=ok_draw (P:=P) (w:=w) (base:=base) T
 have G__law_hand:=ok_hand (P:=P) (w:=w) (base:=base) T
 have G__law_members:=ok_members (P:=P) (w:=w) (base:=base) T
 have G__law_pair:=ok_pair (P:=P) (w:=w) (base:=base) T
 have G__law_lists:=ok_lists (P:=P) (w:=w) (base:=base) T
 have G__law_by:=ok_by (P:=P) (w:=w) (base:=base) T
 have G__law_first:=ok_first (P:=P) (w:=w) (base:=base) T
 have G__law_answer:=ok_answer (P:=P) (w:=w) (base:=base) T
 refine T.F_law.okZ sc_law (fun vs H Q E h=>?_) (fun cdv A outer s H vs Q E hr h hc hf=>?_)
 ·obtain ⟨a,ns,rfl,_⟩:=h;rfl
 obtain ⟨a,ns,rfl,hS,h63,q⟩:=h
 have hu:=hu_of hr
 have hu0:=hr.units0
 refine ⟨_,(by apply zqss_cons;exact (zpsk_set hc sc_law.nd hf 1 (by decide +kernel) (zpe_call G__law_hand (hr.mono (by omega)) (glk hc (by decide +kernel)) T.m__law_hand T.F__law_hand.kp T.b__law_hand .nil pass0 (zpa_cons (zpvk hc 0 (by decide +kernel)) zpa_nil)));apply zqss_cons;exact (zpsk_set hc sc_law.nd hf 2 (by decide +kernel) (zpe_call G__law_draw (hr.mono (by omega)) (glk hc (by decide +kernel)) T.m__law_draw T.F__law_draw.kp T.b__law_draw .nil pass0 (zpa_cons (zpvk hc 1 (by decide +kernel)) (zpa_cons zpe_int zpa_nil))));apply zqss_cons;exact (zpsk_set hc sc_law.nd hf 3 (by decide +kernel) (zpe_call G__law_members (hr.mono (by omega)) (glk hc (by decide +kernel)) T.m__law_members T.F__law_members.kp T.b__law_members .nil pass0 (zpa_cons (zpvk hc 1 (by decide +kernel)) (zpa_cons (zpvk hc 2 (by decide +kernel)) zpa_nil))));apply zqss_cons;exact (zps_asg (zpe_call G__law_pair (hr.mono (by omega)) (glk hc (by decide +kernel)) T.m__law_pair T.F__law_pair.kp T.b__law_pair .nil pass0 (zpa_cons (zpvk hc 1 (by decide +kernel)) (zpa_cons (zpvk hc 2 (by decide +kernel)) zpa_nil))) (zpg_tup rfl (zpgs_cons (zpgk hc sc_law.nd hf 4 (by decide +kernel)) (zpgs_cons (zpgk hc sc_law.nd hf 5 (by decide +kernel)) zpgs_nil))));apply zqss_cons;exact (zpsk_set hc sc_law.nd hf 6 (by decide +kernel) (zpe_call G__law_lists (hr.mono (by omega)) (glk hc (by decide +kernel)) T.m__law_lists T.F__law_lists.kp T.b__law_lists .nil pass0 (zpa_cons (zpvk hc 1 (by decide +kernel)) (zpa_cons (zpvk hc 3 (by decide +kernel)) (zpa_cons (zpvk hc 4 (by decide +kernel)) zpa_nil)))));apply zqss_cons;exact (zpsk_set hc sc_law.nd hf 7 (by decide +kernel) (zpe_call G__law_lists (hr.mono (by omega)) (glk hc (by decide +kernel)) T.m__law_lists T.F__law_lists.kp T.b__law_lists .nil pass0 (zpa_cons (zpvk hc 1 (by decide +kernel)) (zpa_cons (zpvk hc 3 (by decide +kernel)) (zpa_cons (zpvk hc 5 (by decide +kernel)) zpa_nil)))));apply zqss_cons;exact (zpsk_set hc sc_law.nd hf 8 (by decide +kernel) (zpe_op op_add zpe_int (zpe_call G__law_draw (hr.mono (by omega)) (glk hc (by decide +kernel)) T.m__law_draw T.F__law_draw.kp T.b__law_draw .nil pass0 (zpa_cons (zpvk hc 1 (by decide +kernel)) (zpa_cons zpe_int zpa_nil)))));apply zqss_cons;exact (zpsk_comp hc sc_law.nd 9 (by decide +kernel) ["_law_one"] [1,8] rfl (by decide +kernel) (zpi_list (zpvk hc 6 (by decide +kernel))) (fun _ hc=>zpgb hc (by decide +kernel) 0 (by decide +kernel)) (fun _ hc=>zpifs_one (zpt_cmpR op_gt (zpe_call G__law_draw (hr.mono (by omega)) (glk hc (by decide +kernel)) T.m__law_draw T.F__law_draw.kp T.b__law_draw .nil pass0 (zpa_cons (zpvk hc 1 (by decide +kernel)) (zpa_cons (zpvk hc 2 (by decide +kernel)) zpa_nil))) zpe_int (nomark _))) (fun _ hc=>(zpvk hc 0 (by decide +kernel))) (by rfl));apply zqss_cons;exact (zpsk_comp hc sc_law.nd 10 (by decide +kernel) ["_law_one"] [1,8] rfl (by decide +kernel) (zpi_list (zpvk hc 7 (by decide +kernel))) (fun _ hc=>zpgb hc (by decide +kernel) 0 (by decide +kernel)) (fun _ hc=>zpifs_one (zpt_cmpR op_gt (zpe_call G__law_draw (hr.mono (by omega)) (glk hc (by decide +kernel)) T.m__law_draw T.F__law_draw.kp T.b__law_draw .nil pass0 (zpa_cons (zpvk hc 1 (by decide +kernel)) (zpa_cons (zpvk hc 2 (by decide +kernel)) zpa_nil))) zpe_int (nomark _))) (fun _ hc=>(zpvk hc 0 (by decide +kernel))) (by rfl));apply zqss_cut;exact (zqs_if (zpt_cmpR op_eq (zpe_call G__law_draw (hr.mono (by omega)) (glk hc (by decide +kernel)) T.m__law_draw T.F__law_draw.kp T.b__law_draw .nil pass0 (zpa_cons (zpvk hc 1 (by decide +kernel)) (zpa_cons zpe_int zpa_nil))) zpe_int (nomark _)) (by apply zqss_cons;exact (zps_expr (zpe_bm PySem.F.plainAttrs_list PySem.F.slot_list_append PySem.F.type_list_append mt_append (zpvk hc 9 (by decide +kernel)) (zpa_cons (zpe_call G__law_by (hr.mono (by omega)) (glk hc (by decide +kernel)) T.m__law_by T.F__law_by.kp T.b__law_by .nil pass0 (zpa_cons (zpvk hc 3 (by decide +kernel)) (zpa_cons (zpe_call G__law_draw (hr.mono (by omega)) (glk hc (by decide +kernel)) T.m__law_draw T.F__law_draw.kp T.b__law_draw .nil pass0 (zpa_cons (zpvk hc 1 (by decide +kernel)) (zpa_cons (zpe_op op_shl zpe_int (zpvk hc 2 (by decide +kernel))) zpa_nil))) zpa_nil))) zpa_nil)));exact zqss_one (zps_expr (zpe_bm PySem.F.plainAttrs_list PySem.F.slot_list_append PySem.F.type_list_append mt_append (zpvk hc 10 (by decide +kernel)) (zpa_cons (zpe_call G__law_by (hr.mono (by omega)) (glk hc (by decide +kernel)) T.m__law_by T.F__law_by.kp T.b__law_by .nil pass0 (zpa_cons (zpvk hc 3 (by decide +kernel)) (zpa_cons (zpe_call G__law_draw (hr.mono (by omega)) (glk hc (by decide +kernel)) T.m__law_draw T.F__law_draw.kp T.b__law_draw .nil pass0 (zpa_cons (zpvk hc 1 (by decide +kernel)) (zpa_cons (zpe_op op_shl zpe_int (zpvk hc 2 (by decide +kernel))) zpa_nil))) zpa_nil))) zpa_nil)))) zqss_nil);apply zqss_cons;exact (zqs_for PassesOwn.never rfl (zpi_range1 (glk hc (by decide +kernel)) T.z_range (zpa_cons zpe_int zpa_nil)) (zpgk hc sc_law.nd hf 11 (by decide +kernel)) (by apply zqss_cons;exact (zqs_if (zpt_not (zpt_val (zpe_call G__law_answer (hr.mono (by omega)) (glk hc (by decide +kernel)) T.m__law_answer T.F__law_answer.kp T.b__law_answer .nil pass0 (zpa_cons (zpvk hc 3 (by decide +kernel)) (zpa_cons (zpvk hc 9 (by decide +kernel)) (zpa_cons (zpvk hc 10 (by decide +kernel)) zpa_nil)))))) (by exact zqss_one (zps_ret zpe_bl)) zqss_nil);apply zqss_cons;exact (zpsk_set hc sc_law.nd hf 12 (by decide +kernel) (zpe_call G__law_first (hr.mono (by omega)) (glk hc (by decide +kernel)) T.m__law_first T.F__law_first.kp T.b__law_first .nil pass0 (zpa_cons (zpvk hc 3 (by decide +kernel)) (zpa_cons (zpvk hc 9 (by decide +kernel)) (zpa_cons (zpvk hc 10 (by decide +kernel)) zpa_nil)))));exact zqss_one (zqs_if (zpt_cmpR op_notN (zpvk hc 12 (by decide +kernel)) zpe_non (nomark _)) (by exact zqss_one (zps_expr (zpe_bm PySem.F.plainAttrs_list PySem.F.slot_list_insert PySem.F.type_list_insert mt_insert (zpvk hc 9 (by decide +kernel)) (zpa_cons (zpe_call G__law_draw (hr.mono (by omega)) (glk hc (by decide +kernel)) T.m__law_draw T.F__law_draw.kp T.b__law_draw .nil pass0 (zpa_cons (zpvk hc 1 (by decide +kernel)) (zpa_cons (zpe_op op_add (zpe_callB call_lenL (glk hc (by decide +kernel)) T.z_len b_len (zpa_cons (zpvk hc 9 (by decide +kernel)) zpa_nil)) zpe_int) zpa_nil))) (zpa_cons (zpvk hc 12 (by decide +kernel)) zpa_nil))))) zqss_nil)));apply zqss_cons;exact (zpsk_set hc sc_law.nd hf 2 (by decide +kernel) (zpe_op op_add zpe_int (zpe_call G__law_draw (hr.mono (by omega)) (glk hc (by decide +kernel)) T.m__law_draw T.F__law_draw.kp T.b__law_draw .nil pass0 (zpa_cons (zpvk hc 1 (by decide +kernel)) (zpa_cons zpe_int zpa_nil)))));exact zqss_one (zps_ret (zpe_call G__law_answer (hr.mono (by omega)) (glk hc (by decide +kernel)) T.m__law_answer T.F__law_answer.kp T.b__law_answer .nil pass0 (zpa_cons (zpvk hc 3 (by decide +kernel)) (zpa_cons (zpe_op op_rep (zpvk hc 6 (by decide +kernel)) (zpvk hc 2 (by decide +kernel))) (zpa_cons (zpe_op op_rep (zpvk hc 7 (by decide +kernel)) (zpvk hc 2 (by decide +kernel))) zpa_nil)))))),?_⟩
 repeat (walk_at "rl")
 refine ⟨a,ns,rfl,hS,fun h H1 s1 h0 hd=>?_⟩
 repeat (walk_at "rl")
 refine draw_by hd .refl (by decide) (by decide) fun r H2 r0 r9 d2 k2=>?_
 obtain ⟨n,rfl⟩:∃n:Nat,r=(n:Int):=⟨r.toNat,by omega⟩
 have hn:n<=6:=by omega
 have hd2:=d2.handAt hd
 repeat (walk_at "rl")
 refine ⟨h,_,rfl,n,rfl,by omega,hd2,fun M ms H5 d5 hM hM5 lms rise=>?_⟩
 have d15:=d2.trans d5
 have hM1:=d2.free hd hM
 have hMh:M≠h:=hd.ne hM1
 repeat (walk_at "rl")
 refine ⟨h,_,rfl,n,rfl,by omega,d15.handAt hd,fun pr C Pc ck pk H6 d6 hpr hC hPc hCP hC6 hP6 lc lp bc bp cov=>?_⟩
 have d16:=d15.trans d6
 have hM6:=d6.keep _ _ hMh hM5
 have hC1:=d15.free hd hC
 have hP1:=d15.free hd hPc
 have p6:2 ^ n<=64:=Nat.le_trans (Nat.pow_le_pow_right (by decide) hn) (by decide)
 refine ⟨pr,rfl,[.ref C,.ref Pc],sqT_of hpr,rfl,_,_,rfl,_,_,rfl,rfl,?_⟩
 repeat (walk_at "rl")
 have hCh:C≠h:=hd.ne hC1
 have hPh:Pc≠h:=hd.ne hP1
 refine ⟨h,M,C,rfl,d16.handAt hd,hMh,hCh,ms,ck,hM6,by omega,hC6,by omega,fun X bx cs H8 d8 hX hX8 sx lx mx=>?_⟩
 repeat (walk_at "rl")
 refine ⟨h,M,Pc,rfl,d8.handAt (d16.handAt hd),hMh,hPh,ms,pk,d8.keep _ _ hMh hM6,by omega,d8.keep _ _ hPh hP6,by omega,fun Y byy ps H9 d9 hY hY9 sy ly my=>?_⟩
 repeat (walk_at "rl")
 have d18:=d16.trans d8
 have d19:=d18.trans d9
 have hM9:H9 M=some (.lst (List.map V.int ms)):=d9.keep _ _ hMh (d8.keep _ _ hMh hM6)
 have hX1:=d16.free hd hX
 have hY1:=d18.free hd hY
 have hXh:X≠h:=hd.ne hX1
 have hYh:Y≠h:=hd.ne hY1
 have hX9:=d9.keep _ _ hXh hX8
 have sx9:SetsAt H9 bx cs:=Dr.sets (d18.handAt hd) d9 sx
 have fcs:FamB ms cs:=fun s hs=>by obtain ⟨k,_,e⟩:=(mx s).mp hs;exact ⟨k,e⟩
 have fps:FamB ms ps:=fun s hs=>by obtain ⟨k,_,e⟩:=(my s).mp hs;exact ⟨k,e⟩
 have lcs:cs.length<=64:=by omega
 have lps:ps.length<=6:=by omega
 clear sx hX8 hY hX hC hPc hpr hC6 hP6 lc lp bc bp cov mx my ly lx
 refine draw_by hd d19 (by decide) (by decide) fun r H10 r0 r9 d10 k10=>?_
 repeat (walk_at "rl")
 have hd10:=d10.handAt hd
 have hX10:H10 X=some (.lst (List.map V.ref bx)):=(k10 X hXh).trans hX9
 have hY10:H10 Y=some (.lst (List.map V.ref byy)):=(k10 Y hYh).trans hY9
 have hM10:H10 M=some (.lst (List.map V.int ms)):=(k10 M hMh).trans hM9
 have kt10:∀c xs,H9 c=some (.tup xs)->H10 c=some (.tup xs):=fun c xs e=>(k10 c ((d19.handAt hd).ntup e)).trans e
 have sx10:=sx9.mono kt10
 have sy10:=sy.mono kt10
 refine ⟨⟨_,sqL_of hX10⟩,?_⟩
 refine some_fam hd10 hX10 hXh sx10 (by omega) (fun c b H11 R d11 k11=>?_) (fun F bf fs H11 d11 hF hF11 sf subf lf=>?_)
 ·walk_at "rc"
  repeat (walk_at "rl")
  refine draw_by hd10 d11 (by omega) (by omega) fun r' H12 r0' r9' d12 k12=>?_
  repeat (walk_at "rl")
  exact k11 _ _ d12 k12
 have hd11:=d11.handAt hd10
 have hX11:=d11.keep _ _ hXh hX10
 have hY11:=d11.keep _ _ hYh hY10
 have hM11:=d11.keep _ _ hMh hM10
 have sx11:=Dr.sets hd10 d11 sx10
 have sy11:=Dr.sets hd10 d11 sy10
 repeat (walk_at "rl")
 refine ⟨⟨_,sqL_of hY11⟩,?_⟩
 refine some_fam hd11 hY11 hYh sy11 (by omega) (fun c b H12 R d12 k12=>?_) (fun G bg gs H12 d12 hG hG12 sg subg lg=>?_)
 ·walk_at "rc"
  repeat (walk_at "rl")
  refine draw_by hd11 d12 (by omega) (by omega) fun r' H13 r0' r9' d13 k13=>?_
  repeat (walk_at "rl")
  exact k12 _ _ d13 k13
 have hd12:=d12.handAt hd11
 have hFh:F≠h:=hd10.ne hF
 have hGh:G≠h:=hd11.ne hG
 have hFG:F≠G:=ne_of_none hF11 hG
 have hF12:=d12.keep _ _ hFh hF11
 have sf12:=Dr.sets hd11 d12 sf
 have d02:=d11.trans d12
 have hG10:=d11.free hd10 hG
 clear sx9 hX9 hY9 hM9 kt10 sx11 sy11 hX11 hY11 hM11
 have ff:FamB ms fs:=fun s hs=>fcs s (subf s hs)
 have fg:FamB ms gs:=fun s hs=>fps s (subg s hs)
 repeat (walk_at "rl")
 have pw1:((1:Int) * 2 ^ ((n:Int)).toNat)=((2 ^ n:Nat):Int):=by rw [Int.toNat_natCast,Int.one_mul,Int.natCast_pow];rfl
 have cp:CPow 1 (n:Int):=⟨by omega,by omega,by decide⟩
 have p1:1<=2 ^ n:=Nat.one_le_two_pow
 obtain ⟨Iv,hIv⟩:∃Iv:Nat->Hp->Prop,∀k H',Iv k H'↔Dr h H10 H'/\∃(bf bg:List Addr) (fs gs:List (List Int)),H' F=some (.lst (List.map V.ref bf))/\SetsAt H' bf fs/\H' G=some (.lst (List.map V.ref bg))/\SetsAt H' bg gs/\FamB ms fs/\FamB ms gs/\fs.length<=64+k/\gs.length<=7:=⟨_,fun _ _=>Iff.rfl⟩
 obtain ⟨Mid,hMid⟩:∃Mid:St->Hp->Prop,∀σ' H',Mid σ' H'↔σ'=[some (.ref a),some (.ref h),some (.int (n:Int)),some (.ref M),some (.ref C),some (.ref Pc),some (.ref X),some (.ref Y),some (.int (2+r)),some (.ref F),some (.ref G),none,none]/\Iv 1 H':=⟨_,fun _ _=>Iff.rfl⟩
 have app1:∀{H':Hp} {b:Addr} {bs:List Addr} {ts:List (List Int)} {k:Nat},SetsAt H' bs ts->FamB ms ts->H' b=some (.tup (List.map V.int (byF ms k)))->SetsAt H' (bs++[b]) (ts++[byF ms k])/\FamB ms (ts++[byF ms k]):=fun {H' b bs ts k} sa fb hb=>by
  refine ⟨sa.app ⟨rfl,fun j c u h1 h2=>?_⟩,fun s hs=>?_⟩
  ·match j,h1,h2 with
   | 0,h1,h2=>cases h1;cases h2;exact hb
   | _+1,h1,_=>cases h1
  ·rcases List.mem_append.mp hs with z | z
   ·exact fb s z
   ·exact ⟨k,List.mem_singleton.mp z⟩
 refine ⟨Mid,?_,fun σ' H13 hm=>?_⟩
 ·repeat (walk_at "rl")
  refine draw_by hd10 d02 (by decide) (by decide) fun r' H13 r0' r9' d13 k13=>?_
  have hF13:=(k13 F hFh).trans hF12
  have hG13:=(k13 G hGh).trans hG12
  have kt:∀c xs,H12 c=some (.tup xs)->H13 c=some (.tup xs):=fun c xs e=>(k13 c ((d02.handAt hd10).ntup e)).trans e
  have sf13:=sf12.mono kt
  have sg13:=sg.mono kt
  by_cases e:r'=1
  ·subst e
   repeat (walk_at "rl")
   have hM13:=d13.keep _ _ hMh hM10
   have put1:∀{H':Hp} {Z:Addr} {vs:List V} {o:HO} {bs:List Addr} {ts:List (List Int)},H' Z=some (.lst vs)->SetsAt H' bs ts->SetsAt (upd H' Z o) bs ts:=fun hz sa=>sa.mono fun c xs e=>by rw [upd_ne (ne_of e hz (by intro z;cases z))];exact e
   refine ⟨.inl ⟨rfl,_,sqL_of hF13⟩,cp,?_⟩
   rw [pw1]
   refine draw_by hd10 d13 (by omega) (by omega) fun r1 H14 r10 r19 d14 k14=>?_
   have hM14:=d14.keep _ _ hMh hM10
   obtain ⟨k1,rfl⟩:∃k:Nat,r1=(k:Int):=⟨r1.toNat,by omega⟩
   refine ⟨M,_,rfl,ms,k1,rfl,hM14,by omega,fun b1 H15 s15 hb1 hb15=>?_⟩
   have d15:=d14.on s15
   have kt5:∀c xs,H13 c=some (.tup xs)->H15 c=some (.tup xs):=fun c xs e=>s15 _ _ ((k14 c ((d13.handAt hd10).ntup e)).trans e)
   have hF15:=s15 _ _ ((k14 F hFh).trans hF13)
   have hG15:=s15 _ _ ((k14 G hGh).trans hG13)
   obtain ⟨sf15,ff15⟩:=app1 (sf13.mono kt5) ff hb15
   have sg15:=sg13.mono kt5
   have lbf:=sf13.1
   refine ⟨_,hF15,by rw [List.length_map];exact small1000 (by omega),?_⟩
   have d16:Dr h H10 (upd H15 F (.lst (List.map V.ref bf++[V.ref b1]))):=d15.put hF
   have hF16:upd H15 F (.lst (List.map V.ref bf++[V.ref b1])) F=some (.lst (List.map V.ref (bf++[b1]))):=by rw [upd_same,List.map_append];rfl
   have hG16:upd H15 F (.lst (List.map V.ref bf++[V.ref b1])) G=_:=(upd_ne hFG.symm).trans hG15
   have sf16:=put1 (o:=.lst (List.map V.ref bf++[V.ref b1])) hF15 sf15
   have sg16:=put1 (o:=.lst (List.map V.ref bf++[V.ref b1])) hF15 sg15
   generalize upd H15 F (.lst (List.map V.ref bf++[V.ref b1]))=H16 at d16 hF16 hG16 sf16 sg16 ⊢
   repeat (walk_at "rl")
   refine ⟨.inl ⟨rfl,_,sqL_of hG16⟩,cp,?_⟩
   rw [pw1]
   refine draw_by hd10 d16 (by omega) (by omega) fun r2 H17 r20 r29 d17 k17=>?_
   have hM17:=d17.keep _ _ hMh hM10
   obtain ⟨k2,rfl⟩:∃k:Nat,r2=(k:Int):=⟨r2.toNat,by omega⟩
   refine ⟨M,_,rfl,ms,k2,rfl,hM17,by omega,fun b2 H18 s18 hb2 hb28=>?_⟩
   have d18:=d17.on s18
   have kt8:∀c xs,H16 c=some (.tup xs)->H18 c=some (.tup xs):=fun c xs e=>s18 _ _ ((k17 c ((d16.handAt hd10).ntup e)).trans e)
   have hF18:=s18 _ _ ((k17 F hFh).trans hF16)
   have hG18:=s18 _ _ ((k17 G hGh).trans hG16)
   obtain ⟨sg18,fg18⟩:=app1 (sg16.mono kt8) fg hb28
   have lbg:=sg13.1
   refine ⟨_,hG18,by rw [List.length_map];exact small1000 (by omega),(hMid _ _).mpr ⟨rfl,(hIv _ _).mpr ⟨d18.put hG10,bf++[b1],bg++[b2],_,_,(upd_ne hFG).trans hF18,put1 hG18 (sf16.mono kt8),by rw [upd_same,List.map_append];rfl,put1 hG18 sg18,ff15,fg18,by rw [List.length_append];simp;omega,by rw [List.length_append];simp;omega⟩⟩⟩
  ·repeat (walk_at "rl")
   rw [if_neg (by simpa using e)]
   exact (hMid _ _).mpr ⟨rfl,(hIv _ _).mpr ⟨d13,bf,bg,fs,gs,hF13,sf13,hG13,sg13,ff,fg,by omega,by omega⟩⟩
 obtain ⟨rfl,iv⟩:=(hMid _ _).mp hm
 clear hMid hm Mid
 repeat (walk_at "rl")
 obtain ⟨Pv,hPv⟩:∃Pv:Nat->St->Hp->Prop,∀i σ' H',Pv i σ' H'↔∃(x y:Option V),σ'=[some (.ref a),some (.ref h),some (.int (n:Int)),some (.ref M),some (.ref C),some (.ref Pc),some (.ref X),some (.ref Y),some (.int (2+r)),some (.ref F),some (.ref G),x,y]/\Iv (1+i) H':=⟨_,fun _ _ _=>Iff.rfl⟩
 refine forAll_rng Pv ((hPv _ _ _).mpr ⟨none,none,rfl,iv⟩) (fun i σ' H14 hi pv=>?_) (fun σ' H14 pv=>?_)
 ·obtain ⟨x,y,rfl,iv⟩:=(hPv _ _ _).mp pv
  obtain ⟨d14,bf,bg,fs,gs,hF14,sf14,hG14,sg14,ff,fg,lf,lg⟩:=(hIv _ _).mp iv
  have hM14:=d14.keep _ _ hMh hM10
  have hi3:i < 3:=hi
  repeat (walk_at "rl")
  refine ⟨M,F,G,rfl,ms,bf,bg,fs,gs,hM14,hF14,sf14,hG14,sg14,by omega,by omega,by omega,rise,ff,fg,fun H15 s15=>⟨_,rfl,?_⟩⟩
  rw [if_neg (by decide)]
  have d15:=d14.on s15
  have hF15:=s15 _ _ hF14
  have hG15:=s15 _ _ hG14
  have sf15:=sf14.mono fun _ _ e=>s15 _ _ e
  have sg15:=sg14.mono fun _ _ e=>s15 _ _ e
  repeat (walk_at "rl")
  refine ⟨M,F,G,rfl,ms,bf,bg,fs,gs,s15 _ _ hM14,hF15,sf15,hG15,sg15,by omega,by omega,by omega,fun s hs=>(ff.good rise (by omega) s hs).2,fun k hk ok le b H16 s16 hb16=>?_,fun no H16 s16=>?_⟩
  ·have d16:=d15.on s16
   have hF16:=s16 _ _ hF15
   have sf16:=sf15.mono fun _ _ e=>s16 _ _ e
   have sg16:=sg15.mono fun _ _ e=>s16 _ _ e
   have hG16:=s16 _ _ hG15
   repeat (first | walk_at "rl" | simp only [hF16])
   rw [if_pos (by decide)]
   have lbf:=sf16.1
   refine ⟨.inl ⟨rfl,_,sqL_of hF16⟩,?_⟩
   refine draw_by hd10 d16 (by omega) (by omega) fun r1 H17 r10 r19 d17 k17=>?_
   have hF17:=(k17 F hFh).trans hF16
   have kt7:∀c xs,H16 c=some (.tup xs)->H17 c=some (.tup xs):=fun c xs e=>(k17 c ((d16.handAt hd10).ntup e)).trans e
   refine ⟨r1,rfl,_,hF17,r10,by rw [List.length_map];omega,by rw [List.length_map];omega,?_⟩
   obtain ⟨zs,rfl,rfl,pz⟩:=pr_of (sf16.mono kt7)
   generalize r1.toNat=k1
   have ek:List.take k1 (List.map V.ref (zs.map Prod.fst))++V.ref b::List.drop k1 (List.map V.ref (zs.map Prod.fst))=List.map V.ref ((zs.take k1++(b,byF ms k)::zs.drop k1).map Prod.fst):=by
    rw [List.map_append,List.map_append,List.map_cons,List.map_cons,List.map_take,List.map_take,List.map_drop,List.map_drop]
   have pz':PrAt H17 (zs.take k1++(b,byF ms k)::zs.drop k1):=fun z hz=>by
    rcases List.mem_append.mp hz with h | h
    ·exact pz z (List.mem_of_mem_take h)
    ·rcases List.mem_cons.mp h with rfl | h
     ·exact kt7 _ _ hb16
     ·exact pz z (List.mem_of_mem_drop h)
   have ff':FamB ms ((zs.take k1++(b,byF ms k)::zs.drop k1).map Prod.snd):=fun s hs=>by
    obtain ⟨z,hz,rfl⟩:=List.mem_map.mp hs
    rcases List.mem_append.mp hz with h | h
    ·exact ff _ (List.mem_map_of_mem (List.mem_of_mem_take h))
    ·rcases List.mem_cons.mp h with rfl | h
     ·exact ⟨k,rfl⟩
     ·exact ff _ (List.mem_map_of_mem (List.mem_of_mem_drop h))
   rw [ek]
   have put1:∀{o:HO} {bs:List Addr} {ts:List (List Int)},SetsAt H17 bs ts->SetsAt (upd H17 F o) bs ts:=fun sa=>sa.mono fun c xs e=>by rw [upd_ne (ne_of e hF17 (by intro z;cases z))];exact e
   exact (hPv _ _ _).mpr ⟨_,_,rfl,(hIv _ _).mpr ⟨d17.put hF,_,bg,_,gs,upd_same,put1 pz'.sets,(upd_ne hFG.symm).trans ((k17 G hGh).trans hG16),put1 (sg16.mono kt7),ff',fg,by
    simp only [List.length_map,List.length_append,List.length_cons,List.length_take,List.length_drop] at lf ⊢;omega,lg⟩⟩
  ·have d16:=d15.on s16
   repeat (walk_at "rl")
   rw [if_neg (by decide)]
   exact (hPv _ _ _).mpr ⟨_,_,rfl,(hIv _ _).mpr ⟨d16,bf,bg,fs,gs,s16 _ _ hF15,sf15.mono (fun _ _ e=>s16 _ _ e),s16 _ _ hG15,sg15.mono (fun _ _ e=>s16 _ _ e),ff,fg,by omega,lg⟩⟩
 obtain ⟨x,y,rfl,iv⟩:=(hPv _ _ _).mp pv
 obtain ⟨d14,_⟩:=(hIv _ _).mp iv
 clear hPv pv Pv
 repeat (walk_at "rl")
 refine draw_by hd10 d14 (by decide) (by decide) fun r' H15 r0' r9' d15 k15=>?_
 repeat (first | walk_at "rl" | simp only [rRep])
 obtain ⟨m,hm⟩:∃m:Nat,(1+r').toNat=m:=⟨_,rfl⟩
 have m8:m<=8:=by omega
 rw [hm]
 have hX15:=d15.keep _ _ hXh hX10
 have hY15:=d15.keep _ _ hYh hY10
 have sx15:=Dr.sets hd10 d15 sx10
 have sy15:=Dr.sets hd10 d15 sy10
 have hM15:=d15.keep _ _ hMh hM10
 have lx:=sx15.1
 have ly:=sy15.1
 have cap:∀{k:Nat},k<=64->k * m<=sizeLine:=fun {k} hk=>Nat.le_trans (Nat.mul_le_mul hk m8) (by decide)
 refine ⟨_,hX15,by omega,by omega,by rw [List.length_map];exact cap (by omega),fun p hp=>?_⟩
 rw [rep_map]
 have t1:=same_new hp (.lst (List.map V.ref (List.replicate m bx).flatten))
 have e1:upd H15 p (.lst (List.map V.ref (List.replicate m bx).flatten)) p=_:=upd_same
 generalize upd H15 p (.lst (List.map V.ref (List.replicate m bx).flatten))=H16 at t1 e1 ⊢
 refine ⟨_,t1 _ _ hY15,by omega,by omega,by rw [List.length_map];exact cap (by omega),fun p' hp'=>?_⟩
 rw [rep_map]
 have t2:=same_new hp' (.lst (List.map V.ref (List.replicate m byy).flatten))
 have e2:upd H16 p' (.lst (List.map V.ref (List.replicate m byy).flatten)) p'=_:=upd_same
 generalize upd H16 p' (.lst (List.map V.ref (List.replicate m byy).flatten))=H17 at t2 e2 ⊢
 have t12:=t1.trans t2
 have cap9:∀{k:Nat},k<=64->m * k<=900:=fun {k} hk=>Nat.le_trans (Nat.mul_le_mul m8 hk) (by decide)
 exact ⟨M,p,p',rfl,ms,_,_,_,_,t12 _ _ hM15,t2 _ _ e1,(repS sx15 m).mono (fun _ _ e=>t12 _ _ e),e2,(repS sy15 m).mono (fun _ _ e=>t12 _ _ e),by omega,by rw [len_rep];exact cap9 (by omega),by rw [len_rep];exact cap9 (by omega),rise,fcs.rep m,fps.rep m,fun _ _=>q _⟩
end
local macro_rules | `(tactic| walk_at "rd") => `(tactic| walk_at "rc")
local macro_rules | `(tactic| walk_at "rl") => `(tactic| first | (refine seq_op fun R hR => ?_) | walk_at "ry" | (refine Nx.to (by assumption) _ _ ?_))
theorem all_mk {l:PySem.W.OpenLaw} {w:World} {K:PySem.W.Frag} {h:Heap} {mg:Str->Option Value} {fa f0 f1 f2 f3 f4 f5 f6 f7 f8 f9 f10 f11 f12 f13 f14 f15 f16 f17 f18 f19 f20 f21 f22 f23 f24 f25 f26 f27 f28 f29 f30:Addr} (X:K.In h) (G:h.Ns mainGlobals mg) (hfa:mg "law" = some (.ref fa))
  {od0 an0 od1 an1 od2 an2 od3 an3 od4 an4 od5 an5 od6 an6 od7 an7 od8 an8 od9 an9 od10 an10 od11 an11 od12 an12 od13 an13 od14 an14 od15 an15 od16 an16 od17 an17 od18 an18 od19 an19 od20 an20 od21 an21 od22 an22 od23 an23 od24 an24 od25 an25 od26 an26 od27 an27 od28 an28 od29 an29 od30 an30:Option Addr} {sl0 sl1 sl2 sl3 sl4 sl5 sl6 sl7 sl8 sl9 sl10 sl11 sl12 sl13 sl14 sl15 sl16 sl17 sl18 sl19 sl20 sl21 sl22 sl23 sl24 sl25 sl26 sl27 sl28 sl29 sl30:Array (Option Value)} {oc0 kV0 dc0 pm0 cd0 ct0 oc1 kV1 dc1 pm1 cd1 ct1 oc2 kV2 dc2 pm2 cd2 ct2 oc3 kV3 dc3 pm3 cd3 ct3 oc4 kV4 dc4 pm4 cd4 ct4 oc5 kV5 dc5 pm5 cd5 ct5 oc6 kV6 dc6 pm6 cd6 ct6 oc7 kV7 dc7 pm7 cd7 ct7 oc8 kV8 dc8 pm8 cd8 ct8 oc9 kV9 dc9 pm9 cd9 ct9 oc10 kV10 dc10 pm10 cd10 ct10 oc11 kV11 dc11 pm11 cd11 ct11 oc12 kV12 dc12 pm12 cd12 ct12 oc13 kV13 dc13 pm13 cd13 ct13 oc14 kV14 dc14 pm14 cd14 ct14 oc15 kV15 dc15 pm15 cd15 ct15 oc16 kV16 dc16 pm16 cd16 ct16 oc17 kV17 dc17 pm17 cd17 ct17 oc18 kV18 dc18 pm18 cd18 ct18 oc19 kV19 dc19 pm19 cd19 ct19 oc20 kV20 dc20 pm20 cd20 ct20 oc21 kV21 dc21 pm21 cd21 ct21 oc22 kV22 dc22 pm22 cd22 ct22 oc23 kV23 dc23 pm23 cd23 ct23 oc24 kV24 dc24 pm24 cd24 ct24 oc25 kV25 dc25 pm25 cd25 ct25 oc26 kV26 dc26 pm26 cd26 ct26 oc27 kV27 dc27 pm27 cd27 ct27 oc28 kV28 dc28 pm28 cd28 ct28 oc29 kV29 dc29 pm29 cd29 ct29 oc30 kV30 dc30 pm30 cd30 ct30:Value}
  (a0:PySem.W.nsIn K mainGlobals "is_whole_number" = some (some (.ref f0))) (l0:K.lookup f0=some ⟨oc0,od0,.func (PySem.W.fnOf "is_whole_number" "is_whole_number" (defArgs s_is_whole_number) (defBody s_is_whole_number) (defScope s_is_whole_number) .none kV0 dc0 pm0 an0 cd0 ct0),sl0⟩) (c0:PySem.W.codeIn K cd0 "is_whole_number" = true) (k0:PySem.W.keepIn K (.ref f0)=true)
  (a1:PySem.W.nsIn K mainGlobals "is_worded" = some (some (.ref f1))) (l1:K.lookup f1=some ⟨oc1,od1,.func (PySem.W.fnOf "is_worded" "is_worded" (defArgs s_is_worded) (defBody s_is_worded) (defScope s_is_worded) .none kV1 dc1 pm1 an1 cd1 ct1),sl1⟩) (c1:PySem.W.codeIn K cd1 "is_worded" = true) (k1:PySem.W.keepIn K (.ref f1)=true)
  (a2:PySem.W.nsIn K mainGlobals "each_once_in_order" = some (some (.ref f2))) (l2:K.lookup f2=some ⟨oc2,od2,.func (PySem.W.fnOf "each_once_in_order" "each_once_in_order" (defArgs s_each_once_in_order) (defBody s_each_once_in_order) (defScope s_each_once_in_order) .none kV2 dc2 pm2 an2 cd2 ct2),sl2⟩) (c2:PySem.W.codeIn K cd2 "each_once_in_order" = true) (k2:PySem.W.keepIn K (.ref f2)=true)
  (a3:PySem.W.nsIn K mainGlobals "order_of" = some (some (.ref f3))) (l3:K.lookup f3=some ⟨oc3,od3,.func (PySem.W.fnOf "order_of" "order_of" (defArgs s_order_of) (defBody s_order_of) (defScope s_order_of) .none kV3 dc3 pm3 an3 cd3 ct3),sl3⟩) (c3:PySem.W.codeIn K cd3 "order_of" = true) (k3:PySem.W.keepIn K (.ref f3)=true)
  (a4:PySem.W.nsIn K mainGlobals "is_set" = some (some (.ref f4))) (l4:K.lookup f4=some ⟨oc4,od4,.func (PySem.W.fnOf "is_set" "is_set" (defArgs s_is_set) (defBody s_is_set) (defScope s_is_set) .none kV4 dc4 pm4 an4 cd4 ct4),sl4⟩) (c4:PySem.W.codeIn K cd4 "is_set" = true) (k4:PySem.W.keepIn K (.ref f4)=true)
  (a5:PySem.W.nsIn K mainGlobals "is_part" = some (some (.ref f5))) (l5:K.lookup f5=some ⟨oc5,od5,.func (PySem.W.fnOf "is_part" "is_part" (defArgs s_is_part) (defBody s_is_part) (defScope s_is_part) .none kV5 dc5 pm5 an5 cd5 ct5),sl5⟩) (c5:PySem.W.codeIn K cd5 "is_part" = true) (k5:PySem.W.keepIn K (.ref f5)=true)
  (a6:PySem.W.nsIn K mainGlobals "in_order" = some (some (.ref f6))) (l6:K.lookup f6=some ⟨oc6,od6,.func (PySem.W.fnOf "in_order" "in_order" (defArgs s_in_order) (defBody s_in_order) (defScope s_in_order) .none kV6 dc6 pm6 an6 cd6 ct6),sl6⟩) (c6:PySem.W.codeIn K cd6 "in_order" = true) (k6:PySem.W.keepIn K (.ref f6)=true)
  (a7:PySem.W.nsIn K mainGlobals "holds_one_of" = some (some (.ref f7))) (l7:K.lookup f7=some ⟨oc7,od7,.func (PySem.W.fnOf "holds_one_of" "holds_one_of" (defArgs s_holds_one_of) (defBody s_holds_one_of) (defScope s_holds_one_of) .none kV7 dc7 pm7 an7 cd7 ct7),sl7⟩) (c7:PySem.W.codeIn K cd7 "holds_one_of" = true) (k7:PySem.W.keepIn K (.ref f7)=true)
  (a8:PySem.W.nsIn K mainGlobals "lies_in_one_of" = some (some (.ref f8))) (l8:K.lookup f8=some ⟨oc8,od8,.func (PySem.W.fnOf "lies_in_one_of" "lies_in_one_of" (defArgs s_lies_in_one_of) (defBody s_lies_in_one_of) (defScope s_lies_in_one_of) .none kV8 dc8 pm8 an8 cd8 ct8),sl8⟩) (c8:PySem.W.codeIn K cd8 "lies_in_one_of" = true) (k8:PySem.W.keepIn K (.ref f8)=true)
  (a9:PySem.W.nsIn K mainGlobals "rest_of" = some (some (.ref f9))) (l9:K.lookup f9=some ⟨oc9,od9,.func (PySem.W.fnOf "rest_of" "rest_of" (defArgs s_rest_of) (defBody s_rest_of) (defScope s_rest_of) .none kV9 dc9 pm9 an9 cd9 ct9),sl9⟩) (c9:PySem.W.codeIn K cd9 "rest_of" = true) (k9:PySem.W.keepIn K (.ref f9)=true)
  (a10:PySem.W.nsIn K mainGlobals "parts_of" = some (some (.ref f10))) (l10:K.lookup f10=some ⟨oc10,od10,.func (PySem.W.fnOf "parts_of" "parts_of" (defArgs s_parts_of) (defBody s_parts_of) (defScope s_parts_of) .none kV10 dc10 pm10 an10 cd10 ct10),sl10⟩) (c10:PySem.W.codeIn K cd10 "parts_of" = true) (k10:PySem.W.keepIn K (.ref f10)=true)
  (a11:PySem.W.nsIn K mainGlobals "is_tree" = some (some (.ref f11))) (l11:K.lookup f11=some ⟨oc11,od11,.func (PySem.W.fnOf "is_tree" "is_tree" (defArgs s_is_tree) (defBody s_is_tree) (defScope s_is_tree) .none kV11 dc11 pm11 an11 cd11 ct11),sl11⟩) (c11:PySem.W.codeIn K cd11 "is_tree" = true) (k11:PySem.W.keepIn K (.ref f11)=true)
  (a12:PySem.W.nsIn K mainGlobals "tree_of" = some (some (.ref f12))) (l12:K.lookup f12=some ⟨oc12,od12,.func (PySem.W.fnOf "tree_of" "tree_of" (defArgs s_tree_of) (defBody s_tree_of) (defScope s_tree_of) .none kV12 dc12 pm12 an12 cd12 ct12),sl12⟩) (c12:PySem.W.codeIn K cd12 "tree_of" = true) (k12:PySem.W.keepIn K (.ref f12)=true)
  (a13:PySem.W.nsIn K mainGlobals "tree_from" = some (some (.ref f13))) (l13:K.lookup f13=some ⟨oc13,od13,.func (PySem.W.fnOf "tree_from" "tree_from" (defArgs s_tree_from) (defBody s_tree_from) (defScope s_tree_from) .none kV13 dc13 pm13 an13 cd13 ct13),sl13⟩) (c13:PySem.W.codeIn K cd13 "tree_from" = true) (k13:PySem.W.keepIn K (.ref f13)=true)
  (a14:PySem.W.nsIn K mainGlobals "_law_hand" = some (some (.ref f14))) (l14:K.lookup f14=some ⟨oc14,od14,.func (PySem.W.fnOf "_law_hand" "_law_hand" (defArgs s__law_hand) (defBody s__law_hand) (defScope s__law_hand) .none kV14 dc14 pm14 an14 cd14 ct14),sl14⟩) (c14:PySem.W.codeIn K cd14 "_law_hand" = true) (k14:PySem.W.keepIn K (.ref f14)=true)
  (a15:PySem.W.nsIn K mainGlobals "_law_next" = some (some (.ref f15))) (l15:K.lookup f15=some ⟨oc15,od15,.func (PySem.W.fnOf "_law_next" "_law_next" (defArgs s__law_next) (defBody s__law_next) (defScope s__law_next) .none kV15 dc15 pm15 an15 cd15 ct15),sl15⟩) (c15:PySem.W.codeIn K cd15 "_law_next" = true) (k15:PySem.W.keepIn K (.ref f15)=true)
  (a16:PySem.W.nsIn K mainGlobals "_law_take" = some (some (.ref f16))) (l16:K.lookup f16=some ⟨oc16,od16,.func (PySem.W.fnOf "_law_take" "_law_take" (defArgs s__law_take) (defBody s__law_take) (defScope s__law_take) .none kV16 dc16 pm16 an16 cd16 ct16),sl16⟩) (c16:PySem.W.codeIn K cd16 "_law_take" = true) (k16:PySem.W.keepIn K (.ref f16)=true)
  (a17:PySem.W.nsIn K mainGlobals "_law_draw" = some (some (.ref f17))) (l17:K.lookup f17=some ⟨oc17,od17,.func (PySem.W.fnOf "_law_draw" "_law_draw" (defArgs s__law_draw) (defBody s__law_draw) (defScope s__law_draw) .none kV17 dc17 pm17 an17 cd17 ct17),sl17⟩) (c17:PySem.W.codeIn K cd17 "_law_draw" = true) (k17:PySem.W.keepIn K (.ref f17)=true)
  (a18:PySem.W.nsIn K mainGlobals "_law_is_whole" = some (some (.ref f18))) (l18:K.lookup f18=some ⟨oc18,od18,.func (PySem.W.fnOf "_law_is_whole" "_law_is_whole" (defArgs s__law_is_whole) (defBody s__law_is_whole) (defScope s__law_is_whole) .none kV18 dc18 pm18 an18 cd18 ct18),sl18⟩) (c18:PySem.W.codeIn K cd18 "_law_is_whole" = true) (k18:PySem.W.keepIn K (.ref f18)=true)
  (a19:PySem.W.nsIn K mainGlobals "_law_is_set" = some (some (.ref f19))) (l19:K.lookup f19=some ⟨oc19,od19,.func (PySem.W.fnOf "_law_is_set" "_law_is_set" (defArgs s__law_is_set) (defBody s__law_is_set) (defScope s__law_is_set) .none kV19 dc19 pm19 an19 cd19 ct19),sl19⟩) (c19:PySem.W.codeIn K cd19 "_law_is_set" = true) (k19:PySem.W.keepIn K (.ref f19)=true)
  (a20:PySem.W.nsIn K mainGlobals "_law_members" = some (some (.ref f20))) (l20:K.lookup f20=some ⟨oc20,od20,.func (PySem.W.fnOf "_law_members" "_law_members" (defArgs s__law_members) (defBody s__law_members) (defScope s__law_members) .none kV20 dc20 pm20 an20 cd20 ct20),sl20⟩) (c20:PySem.W.codeIn K cd20 "_law_members" = true) (k20:PySem.W.keepIn K (.ref f20)=true)
  (a21:PySem.W.nsIn K mainGlobals "_law_by" = some (some (.ref f21))) (l21:K.lookup f21=some ⟨oc21,od21,.func (PySem.W.fnOf "_law_by" "_law_by" (defArgs s__law_by) (defBody s__law_by) (defScope s__law_by) .none kV21 dc21 pm21 an21 cd21 ct21),sl21⟩) (c21:PySem.W.codeIn K cd21 "_law_by" = true) (k21:PySem.W.keepIn K (.ref f21)=true)
  (a22:PySem.W.nsIn K mainGlobals "_law_masks" = some (some (.ref f22))) (l22:K.lookup f22=some ⟨oc22,od22,.func (PySem.W.fnOf "_law_masks" "_law_masks" (defArgs s__law_masks) (defBody s__law_masks) (defScope s__law_masks) .none kV22 dc22 pm22 an22 cd22 ct22),sl22⟩) (c22:PySem.W.codeIn K cd22 "_law_masks" = true) (k22:PySem.W.keepIn K (.ref f22)=true)
  (a23:PySem.W.nsIn K mainGlobals "_law_ahead" = some (some (.ref f23))) (l23:K.lookup f23=some ⟨oc23,od23,.func (PySem.W.fnOf "_law_ahead" "_law_ahead" (defArgs s__law_ahead) (defBody s__law_ahead) (defScope s__law_ahead) .none kV23 dc23 pm23 an23 cd23 ct23),sl23⟩) (c23:PySem.W.codeIn K cd23 "_law_ahead" = true) (k23:PySem.W.keepIn K (.ref f23)=true)
  (a24:PySem.W.nsIn K mainGlobals "_law_greatest" = some (some (.ref f24))) (l24:K.lookup f24=some ⟨oc24,od24,.func (PySem.W.fnOf "_law_greatest" "_law_greatest" (defArgs s__law_greatest) (defBody s__law_greatest) (defScope s__law_greatest) .none kV24 dc24 pm24 an24 cd24 ct24),sl24⟩) (c24:PySem.W.codeIn K cd24 "_law_greatest" = true) (k24:PySem.W.keepIn K (.ref f24)=true)
  (a25:PySem.W.nsIn K mainGlobals "_law_pair" = some (some (.ref f25))) (l25:K.lookup f25=some ⟨oc25,od25,.func (PySem.W.fnOf "_law_pair" "_law_pair" (defArgs s__law_pair) (defBody s__law_pair) (defScope s__law_pair) .none kV25 dc25 pm25 an25 cd25 ct25),sl25⟩) (c25:PySem.W.codeIn K cd25 "_law_pair" = true) (k25:PySem.W.keepIn K (.ref f25)=true)
  (a26:PySem.W.nsIn K mainGlobals "_law_lists" = some (some (.ref f26))) (l26:K.lookup f26=some ⟨oc26,od26,.func (PySem.W.fnOf "_law_lists" "_law_lists" (defArgs s__law_lists) (defBody s__law_lists) (defScope s__law_lists) .none kV26 dc26 pm26 an26 cd26 ct26),sl26⟩) (c26:PySem.W.codeIn K cd26 "_law_lists" = true) (k26:PySem.W.keepIn K (.ref f26)=true)
  (a27:PySem.W.nsIn K mainGlobals "_law_good" = some (some (.ref f27))) (l27:K.lookup f27=some ⟨oc27,od27,.func (PySem.W.fnOf "_law_good" "_law_good" (defArgs s__law_good) (defBody s__law_good) (defScope s__law_good) .none kV27 dc27 pm27 an27 cd27 ct27),sl27⟩) (c27:PySem.W.codeIn K cd27 "_law_good" = true) (k27:PySem.W.keepIn K (.ref f27)=true)
  (a28:PySem.W.nsIn K mainGlobals "_law_first" = some (some (.ref f28))) (l28:K.lookup f28=some ⟨oc28,od28,.func (PySem.W.fnOf "_law_first" "_law_first" (defArgs s__law_first) (defBody s__law_first) (defScope s__law_first) .none kV28 dc28 pm28 an28 cd28 ct28),sl28⟩) (c28:PySem.W.codeIn K cd28 "_law_first" = true) (k28:PySem.W.keepIn K (.ref f28)=true)
  (a29:PySem.W.nsIn K mainGlobals "_law_answer" = some (some (.ref f29))) (l29:K.lookup f29=some ⟨oc29,od29,.func (PySem.W.fnOf "_law_answer" "_law_answer" (defArgs s__law_answer) (defBody s__law_answer) (defScope s__law_answer) .none kV29 dc29 pm29 an29 cd29 ct29),sl29⟩) (c29:PySem.W.codeIn K cd29 "_law_answer" = true) (k29:PySem.W.keepIn K (.ref f29)=true)
  (a30:PySem.W.nsIn K mainGlobals "law" = some (some (.ref f30))) (l30:K.lookup f30=some ⟨oc30,od30,.func (PySem.W.fnOf "law" "law" (defArgs s_law) (defBody s_law) (defScope s_law) .none kV30 dc30 pm30 an30 cd30 ct30),sl30⟩) (c30:PySem.W.codeIn K cd30 "law" = true) (k30:PySem.W.keepIn K (.ref f30)=true)
  (z_abs:PySem.W.nsIn K mainGlobals "abs" = some none)
  (z_all:PySem.W.nsIn K mainGlobals "all" = some none)
  (z_any:PySem.W.nsIn K mainGlobals "any" = some none)
  (z_bool:PySem.W.nsIn K mainGlobals "bool" = some none)
  (z_int:PySem.W.nsIn K mainGlobals "int" = some none)
  (z_isinstance:PySem.W.nsIn K mainGlobals "isinstance" = some none)
  (z_len:PySem.W.nsIn K mainGlobals "len" = some none)
  (z_list:PySem.W.nsIn K mainGlobals "list" = some none)
  (z_range:PySem.W.nsIn K mainGlobals "range" = some none)
  (z_sorted:PySem.W.nsIn K mainGlobals "sorted" = some none)
  (z_str:PySem.W.nsIn K mainGlobals "str" = some none)
  (z_tuple:PySem.W.nsIn K mainGlobals "tuple" = some none)
  {c_TreeReader:Addr} {a_TreeReader___init__:Addr} {a_TreeReader_lets_by:Addr}
  (pm_TreeReader:PySem.W.nsIn K mainGlobals "TreeReader" = some (some (.ref c_TreeReader)))
  (p1_TreeReader:PySem.W.plainGet K c_TreeReader Str.empty=true)
  (p2_TreeReader:PySem.W.hasDictIn K c_TreeReader=true)
  (p3_TreeReader:PySem.W.plainOver K c_TreeReader=true)
  (p4_TreeReader:PySem.W.findIn K (.ref c_TreeReader) "__setattr__" = some (some (.builtin "object.__setattr__")))
  (pn_TreeReader_whole:PySem.W.findIn K (.ref c_TreeReader) "whole" = some none)
  (pn_TreeReader_clash_list:PySem.W.findIn K (.ref c_TreeReader) "clash_list" = some none)
  (pn_TreeReader_peace_list:PySem.W.findIn K (.ref c_TreeReader) "peace_list" = some none)
  (q1_TreeReader:PySem.W.makesIn K c_TreeReader=true)
  (q2_TreeReader:PySem.W.findIn K (.ref c_TreeReader) "__init__" = some (some (.ref a_TreeReader___init__)))
  (q3_TreeReader:PySem.W.isFn K (.ref a_TreeReader___init__)=true)
  (q4_TreeReader:PySem.W.keepIn K (.ref c_TreeReader)=true)
  {wod_TreeReader___init__ wan_TreeReader___init__:Option Addr} {wsl_TreeReader___init__:Array (Option Value)} {woc_TreeReader___init__ wkV_TreeReader___init__ wdc_TreeReader___init__ wpm_TreeReader___init__ wcd_TreeReader___init__ wct_TreeReader___init__:Value}
  (pl_TreeReader___init__:K.lookup a_TreeReader___init__=some ⟨woc_TreeReader___init__,wod_TreeReader___init__,.func (PySem.W.fnOf "__init__" "TreeReader.__init__" (defArgs s_TreeReader___init__) (defBody s_TreeReader___init__) (defScope s_TreeReader___init__) .none wkV_TreeReader___init__ wdc_TreeReader___init__ wpm_TreeReader___init__ wan_TreeReader___init__ wcd_TreeReader___init__ wct_TreeReader___init__),wsl_TreeReader___init__⟩)
  (pc_TreeReader___init__:PySem.W.codeIn K wcd_TreeReader___init__ "TreeReader.__init__" = true)
  (pk_TreeReader___init__:PySem.W.keepIn K (.ref a_TreeReader___init__)=true)
  (r1_TreeReader_lets_by:PySem.W.findIn K (.ref c_TreeReader) "lets_by" = some (some (.ref a_TreeReader_lets_by)))
  (r2_TreeReader_lets_by:PySem.W.isFn K (.ref a_TreeReader_lets_by)=true)
  {wod_TreeReader_lets_by wan_TreeReader_lets_by:Option Addr} {wsl_TreeReader_lets_by:Array (Option Value)} {woc_TreeReader_lets_by wkV_TreeReader_lets_by wdc_TreeReader_lets_by wpm_TreeReader_lets_by wcd_TreeReader_lets_by wct_TreeReader_lets_by:Value}
  (pl_TreeReader_lets_by:K.lookup a_TreeReader_lets_by=some ⟨woc_TreeReader_lets_by,wod_TreeReader_lets_by,.func (PySem.W.fnOf "lets_by" "TreeReader.lets_by" (defArgs s_TreeReader_lets_by) (defBody s_TreeReader_lets_by) (defScope s_TreeReader_lets_by) .none wkV_TreeReader_lets_by wdc_TreeReader_lets_by wpm_TreeReader_lets_by wan_TreeReader_lets_by wcd_TreeReader_lets_by wct_TreeReader_lets_by),wsl_TreeReader_lets_by⟩)
  (pc_TreeReader_lets_by:PySem.W.codeIn K wcd_TreeReader_lets_by "TreeReader.lets_by" = true)
  (pk_TreeReader_lets_by:PySem.W.keepIn K (.ref a_TreeReader_lets_by)=true)
  : ∃fd:FuncData,(∀(s:Shared) (v:Value),BindsTo s fd ⟨[v],[]⟩ [("_law_script",v)])/\∀base:Heap,K.In base->base.Ns mainGlobals mg->FnOk l.prog w K mg base CX0 16 fa fd ["_law_script"] (spLaw K):=by
 have e:=hfa.symm.trans (PySem.W.mg_of X G a30)
 cases e
 have F0:=fun_mk (st:=s_is_whole_number) l0 c0 k0
 have b0:=F0.binds (ps:=["thing"]) fun _ _ _ _ _ _=>of1 fun _=>rfl
 have F1:=fun_mk (st:=s_is_worded) l1 c1 k1
 have b1:=F1.binds (ps:=["thing","word","many"]) fun _ _ _ _ _ _=>of3 fun _ _ _=>rfl
 have F2:=fun_mk (st:=s_each_once_in_order) l2 c2 k2
 have b2:=F2.binds (ps:=["tuples"]) fun _ _ _ _ _ _=>of1 fun _=>rfl
 have F3:=fun_mk (st:=s_order_of) l3 c3 k3
 have b3:=F3.binds (ps:=["one"]) fun _ _ _ _ _ _=>of1 fun _=>rfl
 have F4:=fun_mk (st:=s_is_set) l4 c4 k4
 have b4:=F4.binds (ps:=["thing"]) fun _ _ _ _ _ _=>of1 fun _=>rfl
 have F5:=fun_mk (st:=s_is_part) l5 c5 k5
 have b5:=F5.binds (ps:=["one","other"]) fun _ _ _ _ _ _=>of2 fun _ _=>rfl
 have F6:=fun_mk (st:=s_in_order) l6 c6 k6
 have b6:=F6.binds (ps:=["family"]) fun _ _ _ _ _ _=>of1 fun _=>rfl
 have F7:=fun_mk (st:=s_holds_one_of) l7 c7 k7
 have b7:=F7.binds (ps:=["part","family"]) fun _ _ _ _ _ _=>of2 fun _ _=>rfl
 have F8:=fun_mk (st:=s_lies_in_one_of) l8 c8 k8
 have b8:=F8.binds (ps:=["part","family"]) fun _ _ _ _ _ _=>of2 fun _ _=>rfl
 have F9:=fun_mk (st:=s_rest_of) l9 c9 k9
 have b9:=F9.binds (ps:=["whole","part"]) fun _ _ _ _ _ _=>of2 fun _ _=>rfl
 have F10:=fun_mk (st:=s_parts_of) l10 c10 k10
 have b10:=F10.binds (ps:=["whole"]) fun _ _ _ _ _ _=>of1 fun _=>rfl
 have F11:=fun_mk (st:=s_is_tree) l11 c11 k11
 have b11:=F11.binds (ps:=["whole","clashes","peaces","thing"]) fun _ _ _ _ _ _=>of4 fun _ _ _ _=>rfl
 have F12:=fun_mk (st:=s_tree_of) l12 c12 k12
 have b12:=F12.binds (ps:=["whole","clashes","peaces"]) fun _ _ _ _ _ _=>of3 fun _ _ _=>rfl
 have F13:=fun_mk (st:=s_tree_from) l13 c13 k13
 have b13:=F13.binds (ps:=["unasked","clashes","peaces"]) fun _ _ _ _ _ _=>of3 fun _ _ _=>rfl
 have F14:=fun_mk (st:=s__law_hand) l14 c14 k14
 have b14:=F14.binds (ps:=["_law_script"]) fun _ _ _ _ _ _=>of1 fun _=>rfl
 have F15:=fun_mk (st:=s__law_next) l15 c15 k15
 have b15:=F15.binds (ps:=["_law_hand_here"]) fun _ _ _ _ _ _=>of1 fun _=>rfl
 have F16:=fun_mk (st:=s__law_take) l16 c16 k16
 have b16:=F16.binds (ps:=["_law_hand_here"]) fun _ _ _ _ _ _=>of1 fun _=>rfl
 have F17:=fun_mk (st:=s__law_draw) l17 c17 k17
 have b17:=F17.binds (ps:=["_law_hand_here","_law_many"]) fun _ _ _ _ _ _=>of2 fun _ _=>rfl
 have F18:=fun_mk (st:=s__law_is_whole) l18 c18 k18
 have b18:=F18.binds (ps:=["_law_thing"]) fun _ _ _ _ _ _=>of1 fun _=>rfl
 have F19:=fun_mk (st:=s__law_is_set) l19 c19 k19
 have b19:=F19.binds (ps:=["_law_thing"]) fun _ _ _ _ _ _=>of1 fun _=>rfl
 have F20:=fun_mk (st:=s__law_members) l20 c20 k20
 have b20:=F20.binds (ps:=["_law_hand_here","_law_many"]) fun _ _ _ _ _ _=>of2 fun _ _=>rfl
 have F21:=fun_mk (st:=s__law_by) l21 c21 k21
 have b21:=F21.binds (ps:=["_law_members_here","_law_mask"]) fun _ _ _ _ _ _=>of2 fun _ _=>rfl
 have F22:=fun_mk (st:=s__law_masks) l22 c22 k22
 have b22:=F22.binds (ps:=["_law_hand_here","_law_many","_law_most"]) fun _ _ _ _ _ _=>of3 fun _ _ _=>rfl
 have F23:=fun_mk (st:=s__law_ahead) l23 c23 k23
 have b23:=F23.binds (ps:=["_law_one","_law_other"]) fun _ _ _ _ _ _=>of2 fun _ _=>rfl
 have F24:=fun_mk (st:=s__law_greatest) l24 c24 k24
 have b24:=F24.binds (ps:=["_law_masks_here"]) fun _ _ _ _ _ _=>of1 fun _=>rfl
 have F25:=fun_mk (st:=s__law_pair) l25 c25 k25
 have b25:=F25.binds (ps:=["_law_hand_here","_law_many"]) fun _ _ _ _ _ _=>of2 fun _ _=>rfl
 have F26:=fun_mk (st:=s__law_lists) l26 c26 k26
 have b26:=F26.binds (ps:=["_law_hand_here","_law_members_here","_law_masks_here"]) fun _ _ _ _ _ _=>of3 fun _ _ _=>rfl
 have F27:=fun_mk (st:=s__law_good) l27 c27 k27
 have b27:=F27.binds (ps:=["_law_whole","_law_clashes","_law_peaces","_law_thing","_law_held","_law_lacked"]) fun _ _ _ _ _ _ us hl=>match us,hl with | [_,_,_,_,_,_],_=>rfl
 have F28:=fun_mk (st:=s__law_first) l28 c28 k28
 have b28:=F28.binds (ps:=["_law_members_here","_law_clashes","_law_peaces"]) fun _ _ _ _ _ _=>of3 fun _ _ _=>rfl
 have F29:=fun_mk (st:=s__law_answer) l29 c29 k29
 have b29:=F29.binds (ps:=["_law_members_here","_law_clashes","_law_peaces"]) fun _ _ _ _ _ _=>of3 fun _ _ _=>rfl
 have F30:=fun_mk (st:=s_law) l30 c30 k30
 have b30:=F30.binds (ps:=["_law_script"]) fun _ _ _ _ _ _=>of1 fun _=>rfl
 have PF_TreeReader___init__:=fun_mk (st:=s_TreeReader___init__) pl_TreeReader___init__ pc_TreeReader___init__ pk_TreeReader___init__
 have PB_TreeReader___init__:=PF_TreeReader___init__.binds (ps:=["self","whole","clashes","peaces"]) fun _ _ _ _ _ _=>of4 fun _ _ _ _=>rfl
 have PF_TreeReader_lets_by:=fun_mk (st:=s_TreeReader_lets_by) pl_TreeReader_lets_by pc_TreeReader_lets_by pk_TreeReader_lets_by
 have PB_TreeReader_lets_by:=PF_TreeReader_lets_by.binds (ps:=["self","thing","held","lacked"]) fun _ _ _ _ _ _=>of4 fun _ _ _ _=>rfl
 have T:Txt K mg ⟨_,_,_,_,_,_,_,_,_,_,_,_,_,_,_,_,_,_,_,_,_,_,_,_,_,_,_,_,_,_,_,_,_,_,_,_,_,_,_,_,_,_,_,_,_,_,_,_,_,_,_,_,_,_,_,_,_,_,_,_,_,_,_,_,_,_,_⟩:=⟨F0,b0,PySem.W.mg_of X G a0,F1,b1,PySem.W.mg_of X G a1,F2,b2,PySem.W.mg_of X G a2,F3,b3,PySem.W.mg_of X G a3,F4,b4,PySem.W.mg_of X G a4,F5,b5,PySem.W.mg_of X G a5,F6,b6,PySem.W.mg_of X G a6,F7,b7,PySem.W.mg_of X G a7,F8,b8,PySem.W.mg_of X G a8,F9,b9,PySem.W.mg_of X G a9,F10,b10,PySem.W.mg_of X G a10,F11,b11,PySem.W.mg_of X G a11,F12,b12,PySem.W.mg_of X G a12,F13,b13,PySem.W.mg_of X G a13,F14,b14,PySem.W.mg_of X G a14,F15,b15,PySem.W.mg_of X G a15,F16,b16,PySem.W.mg_of X G a16,F17,b17,PySem.W.mg_of X G a17,F18,b18,PySem.W.mg_of X G a18,F19,b19,PySem.W.mg_of X G a19,F20,b20,PySem.W.mg_of X G a20,F21,b21,PySem.W.mg_of X G a21,F22,b22,PySem.W.mg_of X G a22,F23,b23,PySem.W.mg_of X G a23,F24,b24,PySem.W.mg_of X G a24,F25,b25,PySem.W.mg_of X G a25,F26,b26,PySem.W.mg_of X G a26,F27,b27,PySem.W.mg_of X G a27,F28,b28,PySem.W.mg_of X G a28,F29,b29,PySem.W.mg_of X G a29,F30,b30,PySem.W.mg_of X G a30,PySem.W.mg_none_of X G z_abs,PySem.W.mg_none_of X G z_all,PySem.W.mg_none_of X G z_any,PySem.W.mg_none_of X G z_bool,PySem.W.mg_none_of X G z_int,PySem.W.mg_none_of X G z_isinstance,PySem.W.mg_none_of X G z_len,PySem.W.mg_none_of X G z_list,PySem.W.mg_none_of X G z_range,PySem.W.mg_none_of X G z_sorted,PySem.W.mg_none_of X G z_str,PySem.W.mg_none_of X G z_tuple,PySem.W.mg_of X G pm_TreeReader,⟨p1_TreeReader,p2_TreeReader,p3_TreeReader,p4_TreeReader⟩,pn_TreeReader_whole,pn_TreeReader_clash_list,pn_TreeReader_peace_list,⟨q1_TreeReader,q2_TreeReader,q3_TreeReader,q4_TreeReader⟩,PF_TreeReader___init__,PB_TreeReader___init__,PF_TreeReader_lets_by,PB_TreeReader_lets_by,⟨r1_TreeReader_lets_by,r2_TreeReader_lets_by,pk_TreeReader_lets_by⟩⟩
 exact ⟨PySem.W.fnOf "law" "law" (defArgs s_law) (defBody s_law) (defScope s_law) .none kV30 dc30 pm30 an30 cd30 ct30,fun s v=>.of_eq rfl,fun base _ _=>ok_law (P:=l.prog) (w:=w) (base:=base) T⟩
theorem walk {l:PySem.W.OpenLaw} {q:Program} {loose:List Str} {XP:(Str->Option Value)->Heap->Prop} {YP:World->Heap->Prop} {d:DefRec} {K:Params->PySem.W.Frag} (hn:l.most=some 63) (hdf:d.params.defaults=[])
  (hY:∀(w:World) (h:Heap),YP w h->(K w.params).In h)
  (F:∀(w:World) (mg:Str->Option Value) (fa:Addr) (h:Heap),(K w.params).In h->h.Ns mainGlobals mg->mg d.name=some (.ref fa)->
   ∃fd:FuncData,(∀(s:Shared) (u:Value),BindsTo s fd ⟨[u],[]⟩ [("_law_script",u)])/\∀base:Heap,(K w.params).In base->base.Ns mainGlobals mg->FnOk l.prog w (K w.params) mg base CX0 16 fa fd ["_law_script"] (spLaw (K w.params))) :
  PySem.W.WalkO q loose XP YP l.row.toRowW d [] (fun f vs=>PySem.call f vs):=
 L2.walk_of (n:=63) (k:=16) (x:="_law_script") (CX:=fun _=>CX0) (sp:=fun w=>spLaw (K w.params)) hn (by decide) hdf ⟨rfl,by decide,by decide⟩ hY F (fun _ _ a ns hl _ hS=>⟨a,ns,rfl,hS,hl,fun _=>rfl⟩) fun _ _ _ _ _ z=>z
def view:Program:={ PySem.Challenge.pw_truceroll_k47_first_open_part with main:={ PySem.Challenge.pw_truceroll_k47_first_open_part.main with body:=[top 1,top 2,top 3,top 4,top 6,top 7,top 8,top 9,top 10,top 11,top 12,top 14,top 15,top 16,top 17,top 19,top 20,top 21,top 22,top 23,top 24,top 25,top 26,top 27,top 28,top 29,top 30,top 31,top 32,top 33,top 34,top 35,top 36,top 37] } }
end My
open PySem PySem.W PyProof.Rows
local macro_rules | `(tactic| o_head $H:term) => `(tactic| (
  refine holds_open (q := My.view) (loose := []) (Xt := fun s => xlAt My.view [] s && recOk (RowW.records (OpenRow.toRowW PySem.Challenge.rw_truceroll_k47_first_open_part.row)) s) (XP := XL My.view []) (Yf := Hook.obs $H) (Ya := Hook.val $H) (YP := Hook.says $H) (N := 40000) ?hl (Hook.of $H) (Hook.keeps $H) (fun s e => xl_of s (Bool.and_eq_true_iff.mp e).1) XL.keeps (by rfl) (by rfl) (by rfl) (fun s e => recFacts_of (Bool.and_eq_true_iff.mp e).2) (by rfl) (by first | assumption | decide +kernel) (by decide +kernel) ⟨rfl, rfl, rfl, rfl, rfl, by decide +kernel⟩ ?hw ?hc
  case hl => intro w; kernel_rfl))
theorem PySem.Challenge.cw_truceroll_k47_first_open_part_holds : PySem.Challenge.rw_truceroll_k47_first_open_part.Holds := by
 w_on;o_law;k_head;(case hw=>w_witness2)
 k_fill
 refine My.walk (l:=PySem.Challenge.rw_truceroll_k47_first_open_part) rfl rfl (fun w h Y=>PySem.W.kIn_of Y) ?F
 case F=>
  intro w mg fa h KX G hmg
  refine' My.all_mk KX G hmg ?a0 ?l0 ?c0 ?k0 ?a1 ?l1 ?c1 ?k1 ?a2 ?l2 ?c2 ?k2 ?a3 ?l3 ?c3 ?k3 ?a4 ?l4 ?c4 ?k4 ?a5 ?l5 ?c5 ?k5 ?a6 ?l6 ?c6 ?k6 ?a7 ?l7 ?c7 ?k7 ?a8 ?l8 ?c8 ?k8 ?a9 ?l9 ?c9 ?k9 ?a10 ?l10 ?c10 ?k10 ?a11 ?l11 ?c11 ?k11 ?a12 ?l12 ?c12 ?k12 ?a13 ?l13 ?c13 ?k13 ?a14 ?l14 ?c14 ?k14 ?a15 ?l15 ?c15 ?k15 ?a16 ?l16 ?c16 ?k16 ?a17 ?l17 ?c17 ?k17 ?a18 ?l18 ?c18 ?k18 ?a19 ?l19 ?c19 ?k19 ?a20 ?l20 ?c20 ?k20 ?a21 ?l21 ?c21 ?k21 ?a22 ?l22 ?c22 ?k22 ?a23 ?l23 ?c23 ?k23 ?a24 ?l24 ?c24 ?k24 ?a25 ?l25 ?c25 ?k25 ?a26 ?l26 ?c26 ?k26 ?a27 ?l27 ?c27 ?k27 ?a28 ?l28 ?c28 ?k28 ?a29 ?l29 ?c29 ?k29 ?a30 ?l30 ?c30 ?k30 ?z_abs ?z_all ?z_any ?z_bool ?z_int ?z_isinstance ?z_len ?z_list ?z_range ?z_sorted ?z_str ?z_tuple ?pm_TreeReader ?p1_TreeReader ?p2_TreeReader ?p3_TreeReader ?p4_TreeReader ?pn_TreeReader_whole ?pn_TreeReader_clash_list ?pn_TreeReader_peace_list ?q1_TreeReader ?q2_TreeReader ?q3_TreeReader ?q4_TreeReader ?pl_TreeReader___init__ ?pc_TreeReader___init__ ?pk_TreeReader___init__ ?r1_TreeReader_lets_by ?r2_TreeReader_lets_by ?pl_TreeReader_lets_by ?pc_TreeReader_lets_by ?pk_TreeReader_lets_by
  (case a0=>k_is)
  (case l0=>k_is)
  (case c0=>k_is)
  (case k0=>k_is)
  (case a1=>k_is)
  (case l1=>k_is)
  (case c1=>k_is)
  (case k1=>k_is)
  (case a2=>k_is)
  (case l2=>k_is)
  (case c2=>k_is)
  (case k2=>k_is)
  (case a3=>k_is)
  (case l3=>k_is)
  (case c3=>k_is)
  (case k3=>k_is)
  (case a4=>k_is)
  (case l4=>k_is)
  (case c4=>k_is)
  (case k4=>k_is)
  (case a5=>k_is)
  (case l5=>k_is)
  (case c5=>k_is)
  (case k5=>k_is)
  (case a6=>k_is)
  (case l6=>k_is)
  (case c6=>k_is)
  (case k6=>k_is)
  (case a7=>k_is)
  (case l7=>k_is)
  (case c7=>k_is)
  (case k7=>k_is)
  (case a8=>k_is)
  (case l8=>k_is)
  (case c8=>k_is)
  (case k8=>k_is)
  (case a9=>k_is)
  (case l9=>k_is)
  (case c9=>k_is)
  (case k9=>k_is)
  (case a10=>k_is)
  (case l10=>k_is)
  (case c10=>k_is)
  (case k10=>k_is)
  (case a11=>k_is)
  (case l11=>k_is)
  (case c11=>k_is)
  (case k11=>k_is)
  (case a12=>k_is)
  (case l12=>k_is)
  (case c12=>k_is)
  (case k12=>k_is)
  (case a13=>k_is)
  (case l13=>k_is)
  (case c13=>k_is)
  (case k13=>k_is)
  (case a14=>k_is)
  (case l14=>k_is)
  (case c14=>k_is)
  (case k14=>k_is)
  (case a15=>k_is)
  (case l15=>k_is)
  (case c15=>k_is)
  (case k15=>k_is)
  (case a16=>k_is)
  (case l16=>k_is)
  (case c16=>k_is)
  (case k16=>k_is)
  (case a17=>k_is)
  (case l17=>k_is)
  (case c17=>k_is)
  (case k17=>k_is)
  (case a18=>k_is)
  (case l18=>k_is)
  (case c18=>k_is)
  (case k18=>k_is)
  (case a19=>k_is)
  (case l19=>k_is)
  (case c19=>k_is)
  (case k19=>k_is)
  (case a20=>k_is)
  (case l20=>k_is)
  (case c20=>k_is)
  (case k20=>k_is)
  (case a21=>k_is)
  (case l21=>k_is)
  (case c21=>k_is)
  (case k21=>k_is)
  (case a22=>k_is)
  (case l22=>k_is)
  (case c22=>k_is)
  (case k22=>k_is)
  (case a23=>k_is)
  (case l23=>k_is)
  (case c23=>k_is)
  (case k23=>k_is)
  (case a24=>k_is)
  (case l24=>k_is)
  (case c24=>k_is)
  (case k24=>k_is)
  (case a25=>k_is)
  (case l25=>k_is)
  (case c25=>k_is)
  (case k25=>k_is)
  (case a26=>k_is)
  (case l26=>k_is)
  (case c26=>k_is)
  (case k26=>k_is)
  (case a27=>k_is)
  (case l27=>k_is)
  (case c27=>k_is)
  (case k27=>k_is)
  (case a28=>k_is)
  (case l28=>k_is)
  (case c28=>k_is)
  (case k28=>k_is)
  (case a29=>k_is)
  (case l29=>k_is)
  (case c29=>k_is)
  (case k29=>k_is)
  (case a30=>k_is)
  (case l30=>k_is)
  (case c30=>k_is)
  (case k30=>k_is)
  (case z_abs=>k_is)
  (case z_all=>k_is)
  (case z_any=>k_is)
  (case z_bool=>k_is)
  (case z_int=>k_is)
  (case z_isinstance=>k_is)
  (case z_len=>k_is)
  (case z_list=>k_is)
  (case z_range=>k_is)
  (case z_sorted=>k_is)
  (case z_str=>k_is)
  (case z_tuple=>k_is)
  (case pm_TreeReader=>first | k_is | rfl)
  (case p1_TreeReader=>first | k_is | rfl)
  (case p2_TreeReader=>first | k_is | rfl)
  (case p3_TreeReader=>first | k_is | rfl)
  (case p4_TreeReader=>first | k_is | rfl)
  (case pn_TreeReader_whole=>first | k_is | rfl)
  (case pn_TreeReader_clash_list=>first | k_is | rfl)
  (case pn_TreeReader_peace_list=>first | k_is | rfl)
  (case q1_TreeReader=>first | k_is | rfl)
  (case q2_TreeReader=>first | k_is | rfl)
  (case q3_TreeReader=>first | k_is | rfl)
  (case q4_TreeReader=>first | k_is | rfl)
  (case pl_TreeReader___init__=>first | k_is | rfl)
  (case pc_TreeReader___init__=>first | k_is | rfl)
  (case pk_TreeReader___init__=>first | k_is | rfl)
  (case r1_TreeReader_lets_by=>first | k_is | rfl)
  (case r2_TreeReader_lets_by=>first | k_is | rfl)
  (case pl_TreeReader_lets_by=>first | k_is | rfl)
  (case pc_TreeReader_lets_by=>first | k_is | rfl)
  (case pk_TreeReader_lets_by=>first | k_is | rfl)
