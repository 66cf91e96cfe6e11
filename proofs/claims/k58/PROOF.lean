import PyProof.Rows.All
import Wide.All
import OpenK.AllK
import Wide.FinOn
import Lean
import PyProof.EqAt
import PyProof.EqKinds
import PyProof.TupleCall
import PySem.Challenge.RW_truceroll_k58_two_askers_by_turns
set_option Elab.async false
set_option linter.all false
set_option maxRecDepth 100000
set_option maxHeartbeats 0
def ay:=@PySem.wpAny_bind
def bP:=@List.getElem?_eq_getElem
def aQ:=@List.length_map
def bR:=@PySem.Heap.get?_push_of_some
def aJ:=@PySem.wpAny_pure
def bC:=@PySem.Heap.lt_size
def cO:=@List.size_toArray
def bB:=@Nat.le_refl
def aB:=@if_neg
def aC:=@if_pos
def dO:=@List.getElem?_eq_some_iff
def cH:=@PySem.Heap.get?_push_size
def cP:=@List.length_append
def cV:=@Nat.lt_of_lt_of_le
def fM:=@Array.getElem?_eq_getElem
def bI:=@Nat.ne_of_lt
def df:=@List.mem_singleton
def cU:=@List.getElem?_map
def bT:=@List.mem_cons
def dW:=@List.mem_cons_of_mem
def dN:=@Array.length_toList
def dD:=@List.mem_cons_self
def iM:=@Array.getD_eq_getD_getElem?
def dq:=@List.mem_append
def fi:=@Bool.false_ne_true
def eZ:=@PySem.wpAny_newObj_type
def eB:=@Bool.and_eq_true
def de:=@PySem.W.mg_of
def dU:=@Option.some.inj
def fh:=@List.length_cons
def fL:=@List.mem_filter
def fK:=@List.map_append
def dc:=@Nat.zero_le
def mQ:=@List.getElem?_append_right
def gI:=@decide_eq_true_eq
def gh:=@List.append_nil
def fc:=@List.map_cons
def iL:=@PySem.F.called_set
def nF:=@List.getD_eq_getElem?_getD
def nE:=@List.getElem?_append_left
def dk:=@PySem.wpAny_mono
def ip:=@beq_self_eq_true
def il:=@List.lookup_cons
def ik:=@List.any_eq_true
def jM:=@PySem.mem_of_lookup
def mP:=@PySem.Heap.get?_update_other
def nC:=@PySem.F.plainAttrs_list
def fJ:=@Nat.le_trans
def iK:=@List.take_length
def jj:=@List.take_add_one
def ig:=@List.foldl_cons
def mO:=@PySem.Heap.get?_update_self
def ie:=@PySem.PassesOwn.never
def ji:=@PySem.wpAny_call_entry
def gd:=@List.mem_map
def nB:=@List.mem_append_right
def nA:=@List.getElem?_eq_none
def pU:=@PySem.wpAny_callSpecial?_slot
def jL:=@List.length_take
def ny:=@List.mem_of_getElem?
def sD:=@PySem.F.type_list_append
def sA:=@PySem.F.slot_list_append
def mM:=@PySem.wpAny_Call_Name_kw
def iJ:=@Nat.lt_irrefl
def nv:=@PySem.W.mg_none_of
def ic:=@PySem.codeAny_mono
def sy:=@List.length_filter_le
def sx:=@Array.getElem?_toList
def iI:=@List.map_map
def jh:=@PySem.wpAny_holding
def zb:=@PyProof.Rows.slot_tuple_getitem
def nu:=@List.not_mem_nil
def nr:=@List.all_eq_true
def ib:=@PySem.wpAny_field
def pR:=@Int.toNat_natCast
def uZ:=@List.length_singleton
def jK:=@Nat.ne_of_gt
def nq:=@List.nodup_cons
def sj:=@PySem.Heap.SameBut.update
def DK:=@PySem.F.slot_dict_keyiterator_next
def si:=@Nat.lt_of_le_of_lt
def sg:=@Bool.false_eq_true
def sf:=@Nat.lt_succ_of_lt
def dZ:=@Iff.rfl
def za:=@Array.getElem?_eq_some_iff
def uY:=@beq_eq_false_iff_ne
def uX:=@PySem.W.callWith_K
def se:=@List.getElem_mem
def pQ:=@PySem.codeAny_builtin
def uW:=@PySem.Obj.data_mapFields
def rZ:=@Bool.or_eq_true
def rY:=@Bool.eq_iff_iff
def v3:=@List.map_congr_left
def pP:=@PySem.Heap.size_push
def vZ:=@PySem.Around.under_plainId
def jJ:=@PySem.wpAny_call
def uV:=@PySem.wpAny_isInstance
def iH:=@if_false
def vY:=@Option.some.injEq
def nk:=@Nat.le_succ
def km:=@Nat.le_of_lt
def uk:=@List.pairwise_append
def uj:=@List.mem_append_left
def qy:=@List.foldl_append
def qx:=@List.ext_getElem?
def qw:=@List.Sublist.refl
def ui:=@List.length_reverse
def fZ:=@congrArg
def qv:=@Nat.lt_succ_self
def uh:=@PySem.Heap.get?_none_of_le
def lO:=@PySem.wpAny_attempt
def qu:=@List.nil_append
def Bj:=@PySem.wpAny_typeNameOfWhole_keyiter
def kl:=@PySem.wpAny_of_eq
def fO:=@Ne.symm
def ug:=@PySem.wpAny_setField_rec
def qt:=@PySem.wpAny_passesOwn
def Bi:=@PySem.wpAny_loadPart'
def kj:=@Nat.not_lt
def qq:=@List.nodup_nil
def wx:=@Array.getElem_toList
def wu:=@PySem.Obj.isFreed_of_fields
def uf:=@PySem.wpAny_setState_of
def ud:=@PySem.wpAny_loadPart_at
def wq:=@List.mem_map_of_mem
def wo:=@List.filter_sublist
def qp:=@PySem.wpAny_setField
def qo:=@PySem.isSubtype_stop
def qm:=@List.any_cons
def uc:=@List.of_mem_zip
def ua:=@List.length_nil
def t9:=@List.find?_cons
def wm:=@List.pairwise_cons
def Bh:=@PySem.F.plain_list_iadd
def Bg:=@PySem.wpAny_typeNameOf_keyiter
def t8:=@PySem.wpAny_ite_split
def lN:=@PySem.wpAny_rule
def Bf:=@PySem.W.methodCall_KW
def Be:=@List.length_replicate
def wj:=@List.map_reverse
def wg:=@List.length_drop
def wd:=@PySem.wpAny_pyIter_list
def t7:=@PySem.wpAny_fieldsOf
def Bd:=@Nat.pow_le_pow_right
def wc:=@beq_false_of_ne
def wa:=@Option.map_some
def Bc:=@eq_false_of_ne_true
def Bb:=@List.toList_toArray
def Ht:=@PyProof.Rows.callWith_type1
def t6:=@PySem.wpAny_standAt
def Ba:=@PySem.codeAny_call_builtin
def Az:=@List.map_inj_right
def Ay:=@List.filter_append
def v9:=@Bool.false_and
def Hs:=@List.drop_eq_getElem_cons
def Ax:=@PySem.wpAny_isSubtype_exc
def kh:=@if_true
def t5:=@Sum.inl.inj
def Aw:=@List.nodup_append
def Av:=@List.append_assoc
def Hr:=@PySem.F.args_tuple_add_2
def v8:=@PySem.wpAny_runValue
def Hq:=@PySem.F.entry_tuple_add
def Ho:=@List.length_eq_zero_iff
def Au:=@List.getElem_inj
def Ar:=@PySem.Code.quiet_builtin
def Hn:=@PySem.W.cellsFrom_some
def Hm:=@PySem.F.slot_tuple_add
def Hl:=@Array.getElem?_eq_none
def Aq:=@PySem.wpAny_truthy_bool
def Ap:=@PySem.fits_of_scanBound
def Ao:=@Nat.not_lt_zero
def v7:=@PySem.plainId_quiet
def Hk:=@List.mem_iff_getElem?
def Hj:=@List.getElem?_reverse
def Hi:=@PySem.W.looks_findIn
def Hh:=@List.mem_iff_getElem
def Am:=@PySem.Around.in1_units
def v5:=@PySem.wpAny_typeOf
def Hg:=@PySem.W.plainGet_of
def P0:=@PySem.F.args_dict_keyiterator_next_1
def Hf:=@List.getElem_of_mem
def He:=@List.filterMap_cons
def Hc:=@Array.toList_append
def Al:=@PySem.wpAny_execs_nil
def Ak:=@PySem.codeAny_of_tree
def PX:=@PySem.F.entry_dict_keyiterator_next
def Aj:=@List.all_cons
def Ai:=@Bool.or_false
def Hb:=@PySem.wpAny_isOneOf_keyiter
def Ha:=@List.contains_cons
def PN:=@PySem.F.slot_tuple_iterator_next
def PL:=@PySem.F.slot_range_iterator_next
def G':=@Nat.lt_trichotomy
def Ah:=@List.map_nil
def Ag:=@List.any_map
def G9:=@PyProof.Rows.F.plain_set_update_loop
def G8:=@PySem.wpAny_setEntries_of
def G7:=@PySem.wpAny_raiseNew_none
def PJ:=@PyProof.Rows.callWith_builtin1
def Af:=@List.map_id
def PB:=@List.eq_nil_of_length_eq_zero
section
namespace L2
open PySem PySem.Spec PyProof.Rows
abbrev Key:=Sum Int Str
def zQ:Key->Value->Bool
 | .inl k,v=>Value.isInt k v
 | .inr x,v=>Value.isStrOf x v
def aFy(w:World):Key->Int
 | .inl k=>hashInt k
 | .inr x=>hashStr w x
theorem dy:∀{k:Key} {v:Value},zQ k v=true->(∃i t,k=Sum.inl i/\v=Value.int i t)\/(∃x t,k=Sum.inr x/\v=Value.str x t)
 | .inl i,v,h=>by
  obtain⟨t,e⟩:=Value.isInt_shape (k:=i) (v:=v) h
  exact .inl ⟨i,t,rfl,e⟩
 | .inr x,v,h=>by
  obtain⟨t,e⟩:=Value.isStrOf_shape (x:=x) (v:=v) h
  exact .inr ⟨x,t,rfl,e⟩
theorem Oa(i:Int)(t:Tok):zQ (.inl i) (.int i t)=true:=by simp[zQ,Value.isInt]
theorem N9(x:Str)(t:Tok):zQ (.inr x) (.str x t)=true:=by simp[zQ,Value.isStrOf]
theorem aAV(a b:Int):decide ((Sum.inl a:Key)=Sum.inl b)=(a==b):=by
 by_cases e:a=b
 ·subst e;simp
 ·have h:¬(Sum.inl a:Key)=Sum.inl b:=λq=>e (t5 q)
  rw[decide_eq_false h]
  exact(uY.mpr e).symm
theorem aAS(a b:Str):decide ((Sum.inr a:Key)=Sum.inr b)=decide (a=b):=by
 by_cases e:a=b
 ·subst e;simp
 ·have h:¬(Sum.inr a:Key)=Sum.inr b:=λq=>e (Sum.inr.inj q)
  rw[decide_eq_false h,decide_eq_false e]
theorem aAU(a:Int)(b:Str):decide ((Sum.inl a:Key)=Sum.inr b)=false:=decide_eq_false (λq=>nomatch q)
theorem aAT(a:Str)(b:Int):decide ((Sum.inr a:Key)=Sum.inl b)=false:=decide_eq_false (λq=>nomatch q)
def dM(prog:Program)(w:World):PySem.KeyKind prog w Key where
 is:=zQ
 hash:=aFy w
 inj:=λv a b ha hb=>by
  rcases dy ha with ⟨i,t,rfl,rfl⟩ | ⟨x,t,rfl,rfl⟩
  ·rcases dy hb with ⟨j,u,rfl,e⟩ | ⟨y,u,rfl,e⟩
   ·injection e with e1 _;rw[e1]
   ·exact nomatch e
  ·rcases dy hb with ⟨j,u,rfl,e⟩ | ⟨y,u,rfl,e⟩
   ·exact nomatch e
   ·injection e with e1 _;rw[e1]
 byValue:=λk v h=>by
  rcases dy h with ⟨i,t,rfl,rfl⟩ | ⟨x,t,rfl,rfl⟩ <;> rfl
 pyHash:=λhv h=>by
  rcases dy hv with ⟨i,t,rfl,rfl⟩ | ⟨x,t,rfl,rfl⟩
  ·exact wpAny_pyHash_int h
  ·exact wpAny_pyHash_str h
 eqBool:=λhu hv h=>by
  rcases dy hu with ⟨i,t,rfl,rfl⟩ | ⟨x,t,rfl,rfl⟩
  ·rcases dy hv with ⟨j,u,rfl,rfl⟩ | ⟨y,u,rfl,rfl⟩
   ·rw[aAV]at h;exact wpAny_eqBool_int h
   ·rw[aAU]at h;exact SeqAt.EqAt.int_str i t y u _ _ _ _ h
  ·rcases dy hv with ⟨j,u,rfl,rfl⟩ | ⟨y,u,rfl,rfl⟩
   ·rw[aAT]at h;exact SeqAt.EqAt.str_int x t j u _ _ _ _ h
   ·rw[aAS]at h;exact wpAny_eqBool_str h
 «strs»:=λk x t v h=>by
  rcases dy h with ⟨i,u,rfl,e⟩ | ⟨y,u,rfl,e⟩
  ·exact nomatch e
  ·injection e with e1 _
   subst e1
   cases v <;> rfl
theorem Fi(prog:Program)(w:World)(i:Int)(t:Tok):(dM prog w).is (.inl i) (.int i t)=true:=Oa i t
theorem Fh(prog:Program)(w:World)(x:Str)(t:Tok):(dM prog w).is (.inr x) (.str x t)=true:=N9 x t
end L2
namespace L2
open PySem PySem.Spec PyProof.Rows
inductive V where
 | non | bl (b:Bool) | int (i:Int) | str (x:Str) | Px (b:Array UInt8) | flt (b:UInt64) | ref (a:Addr) | ty (n:String)
 deriving DecidableEq
def RelV:V->Value->Prop
 | .non,u=>u=Value.none
 | .bl b,u=>u=Value.bool b
 | .int i,u=>∃t,u=Value.int i t
 | .str x,u=>∃t,u=Value.str x t
 | .Px b,u=>∃t,u=Value.bytes b t
 | .flt b,u=>∃t,u=Value.float b t
 | .ref a,u=>u=Value.ref a
 | .ty n,u=>u=Value.type n
abbrev Vals:List V->List Value->Prop:=Paired RelV
theorem Vals.length{xs:List V}{us:List Value}(r:Vals xs us):xs.length=us.length:=Paired.length r
theorem Vals.get:∀{xs:List V} {us:List Value} {i:Nat} {x:V},Vals xs us->xs[i]?=some x->∃u,us[i]?=some u/\RelV x u
 | _,_,_,_,.nil,e=>by simp at e
 | _,_,0,_,.cons r _,e=>by simp at e;subst e;exact⟨_,rfl,r⟩
 | _,_,i+1,x,.cons _ t,e=>by
  obtain⟨u,h1,h2⟩:=Vals.get (i:=i) (x:=x) t (by simpa using e)
  exact⟨u,by simpa using h1,h2⟩
theorem Vals.set{x:V}{u:Value}(r:RelV x u):∀{xs:List V} {us:List Value} (i:Nat),Vals xs us->Vals (xs.set i x) (us.set i u)
 | _,_,_,.nil=>.nil
 | _,_,0,.cons _ t=>.cons r t
 | _,_,i+1,.cons q t=>.cons q (Vals.set r i t)
theorem Vals.append:∀{xs ys:List V} {us ws:List Value},Vals xs us->Vals ys ws->Vals (xs++ys) (us++ws)
 | _,_,_,_,.nil,s=>s
 | _,_,_,_,.cons r t,s=>.cons r (Vals.append t s)
theorem Vals.take:∀{xs:List V} {us:List Value} (n:Nat),Vals xs us->Vals (xs.take n) (us.take n)
 | _,_,0,_=>.nil
 | _,_,_+1,.nil=>.nil
 | _,_,n+1,.cons r t=>.cons r (Vals.take n t)
theorem Vals.drop:∀{xs:List V} {us:List Value} (n:Nat),Vals xs us->Vals (xs.drop n) (us.drop n)
 | _,_,0,r=>r
 | _,_,_+1,.nil=>.nil
 | _,_,n+1,.cons _ t=>Vals.drop n t
def pM:Option V->Option Value->Prop
 | some v,some u=>RelV v u
 | none,none=>True
 | _,_=>False
def KV{κ:Type}:List (κ×V)->List (κ×Value)->Prop:=Paired λ(p:κ×V) (q:κ×Value)=>p.1=q.1/\RelV p.2 q.2
def kV:Key->V
 | .inl i=>.int i
 | .inr x=>.str x
inductive HO where
 | lst (xs:List V)
 | tup (xs:List V)
 | dK (aM:List (Key×V)) | dT (aM:List (List Key×V))
 | set (S:Int->Bool) (n:Nat)
 | ins (C dx:Addr) (fs:List (Str×V))
 | own (x:Addr)
 | xd (fs:List (Str×V))
 | met (f x:Addr)
 | rng (lo hi:Int)
 | Dy (o:Obj) (u:HO)
 | nL (ps:Array Value)
 | ext (φ:Heap->Prop)
abbrev Hp:=Addr->Option HO
def upd(H:Hp)(a:Addr)(o:HO):Hp:=λb=>if b=a then some o else H b
theorem ah{H:Hp}{a:Addr}{o:HO}:upd H a o a=some o:=by unfold upd;rw[aC rfl]
theorem aj{H:Hp}{a b:Addr}{o:HO}(h:b≠a):upd H a o b=H b:=by unfold upd;rw[aB h]
theorem vO{H:Hp}{a:Addr}{o u:HO}:upd (upd H a o) a u=upd H a u:=by
 funext b;unfold upd;split <;> rfl
theorem aN{H:Hp}{a b:Addr}{o u:HO}(h:H a=some o)(h':H b=some u)(d:o≠u):a≠b:=by
 intro e;subst e;rw[h]at h';exact d (dU h')
theorem av{H:Hp}{a b:Addr}{o:HO}(h:H a=some o)(h':H b=none):a≠b:=by
 intro e;subst e;rw[h]at h';cases h'
section
variable (P:Program)(w:World)
def dE(H:Hp)(h:Heap)(a:Addr):HO->Prop
 | .lst xs=>xs.length<=sizeLine/\∃(its:List Value) (n:Nat),Vals xs its/\h.get? a=some { cls:=.type "list",data:=.seq its.toArray n }
 | .tup xs=>xs.length<=sizeLine/\∃its:List Value,Vals xs its/\IsTup h a its.toArray
 | .dK aM=>aM.length<=sizeLine/\(a==sysModules)=false/\∃vs,KV aM vs/\h.DictOf (dM P w) a vs
 | .dT aM=>aM.length<=sizeLine/\(a==sysModules)=false/\∃xs:List (List Key×Addr×Value),
   Paired (λ(p:List Key×V) (q:List Key×Addr×Value)=>p.1=q.1/\H q.2.1=some (.tup (p.1.map kV))/\RelV p.2 q.2.2) aM xs/\
   ∃o es ep,h.get? a=some o/\o.ExactDict/\o.data=.dict es ep/\es.toList=xs.map (entryOfKey (tupleKind (dM P w)))/\(xs.map (·.1)).Nodup
 | .set S n=>h.SetOf (intKind P w) a S n
 | .ins C dx fs=>H dx=some (.own a)/\fs.length<=1000/\dx≠a/\h.get? a=some (PySem.W.instObj C dx)/\
   ∃mA,h.Ns1 dx mA/\(∀f,pM (fs.lookup f) (mA f))/\PySem.Within mA (fs.map (·.1))
 | .own _=>∃o,h.get? a=some o
 | .xd fs=>∃mA,h.Ns1 a mA/\∀f,pM (fs.lookup f) (mA f)
 | .rng lo hi=>∃t u v,h.get? a=some { cls:=.type "range",data:=.fields #[.int lo t,.int hi u,.int 1 v] }
 | .Dy o u=>h.get? a=some o/\dE H h a u
 | .nL ps=>h.get? a=some { cls:=.none,data:=.fields ps }
 | .met f x=>h.get? a=some (PySem.W.methodObj (.ref f) (.ref x))
 | .ext φ=>φ h/\(∃o,h.get? a=some o)/\∀h1 h2:Heap,φ h1->(∀o,h1.get? a=some o->h2.get? a=some o)->φ h2
def gZ(H:Hp)(h:Heap):Prop:=∀a o,H a=some o->dE P w H h a o
end
section
variable {P:Program}{w:World}{H H':Hp}{h h':Heap}{a:Addr}{o:HO}
theorem dE.lt(x:dE P w H h a o):a<h.objs.size:=by
 cases o with
 | lst xs=>obtain⟨_,_,_,_,e⟩:=x;exact bC e
 | tup xs=>obtain⟨_,_,_,p⟩:=x;exact p.lt
 | dK aM=>obtain⟨_,_,_,_,o,_,_,e,_⟩:=x;exact bC e
 | dT aM=>obtain⟨_,_,_,_,o,_,_,e,_⟩:=x;exact bC e
 | set S n=>obtain⟨o,_,_,_,e,_⟩:=x;exact bC e
 | ins C dx fs=>obtain⟨_,_,_,e,_⟩:=x;exact bC e
 | own y=>obtain⟨_,e⟩:=x;exact bC e
 | xd fs=>obtain⟨_,⟨_,_,_,e,_⟩,_⟩:=x;exact bC e
 | rng lo hi=>obtain⟨_,_,_,e⟩:=x;exact bC e
 | Dy ob u=>obtain⟨e,_⟩:=x;exact bC e
 | nL ps=>exact bC (show h.get? a=some _ from x)
 | met f y=>exact bC (show h.get? a=some _ from x)
 | ext φ=>obtain⟨_,⟨_,e⟩,_⟩:=x;exact bC e
theorem Paired.aAM{α β:Type}{F G:α->β->Prop}:∀{l₁:List α} {l₂:List β},Paired F l₁ l₂->(∀a b,F a b->G a b)->Paired G l₁ l₂
 | _,_,.nil,_=>.nil
 | _,_,.cons r t,f=>.cons (f _ _ r) (Paired.aAM t f)
theorem dE.stay(x:dE P w H h a o)(k:∀b u,(b=a\/H b=some (.own a))->h.get? b=some u->h'.get? b=some u)
  (ho:∀b,H b=some (.own a)->H' b=some (.own a)) (ht:∀b xs,H b=some (.tup xs)->H' b=some (.tup xs)):dE P w H' h' a o:=by
 induction o with
 | lst xs=>obtain⟨z,its,n,r,e⟩:=x;exact⟨z,its,n,r,k _ _ (.inl rfl) e⟩
 | tup xs=>obtain⟨z,its,r,ob,e,c⟩:=x;exact⟨z,its,r,ob,k _ _ (.inl rfl) e,c⟩
 | dK aM=>obtain⟨z,y,vs,r,ob,es,ep,e,c⟩:=x;exact⟨z,y,vs,r,ob,es,ep,k _ _ (.inl rfl) e,c⟩
 | dT aM=>
  obtain⟨z,y,xs,r,ob,es,ep,e,c⟩:=x
  exact⟨z,y,xs,Paired.aAM r λp q z=>⟨z.1,ht _ _ z.2.1,z.2.2⟩,ob,es,ep,k _ _ (.inl rfl) e,c⟩
 | set S n=>obtain⟨ob,es,ep,t,e,c⟩:=x;exact⟨ob,es,ep,t,k _ _ (.inl rfl) e,c⟩
 | ins C dx fs=>
  obtain⟨d,z,ne,e,mA,⟨od,es,ep,e2,c⟩,r⟩:=x
  exact⟨ho _ d,z,ne,k _ _ (.inl rfl) e,mA,⟨od,es,ep,k _ _ (.inr d) e2,c⟩,r⟩
 | own y=>obtain⟨ob,e⟩:=x;exact⟨ob,k _ _ (.inl rfl) e⟩
 | xd fs=>obtain⟨mA,⟨od,es,ep,e,c⟩,r⟩:=x;exact⟨mA,⟨od,es,ep,k _ _ (.inl rfl) e,c⟩,r⟩
 | rng lo hi=>obtain⟨t,u,v,e⟩:=x;exact⟨t,u,v,k _ _ (.inl rfl) e⟩
 | Dy ob u ih=>obtain⟨e,q⟩:=x;exact⟨k _ _ (.inl rfl) e,ih q⟩
 | nL ps=>
  have e:h.get? a=some { cls:=.none,data:=.fields ps }:=x
  show h'.get? a=some { cls:=.none,data:=.fields ps }
  exact k a _ (.inl rfl) e
 | met f y=>
  have e:h.get? a=some (PySem.W.methodObj (.ref f) (.ref y)):=x
  show h'.get? a=some (PySem.W.methodObj (.ref f) (.ref y))
  exact k a _ (.inl rfl) e
 | ext φ=>obtain⟨p,⟨o,e⟩,st⟩:=x;exact⟨st _ _ p λo q=>k _ _ (.inl rfl) q,⟨o,k _ _ (.inl rfl) e⟩,st⟩
theorem gZ.lt(x:gZ P w H h)(e:H a=some o):a<h.objs.size:=(x a o e).lt
theorem gZ.fresh(x:gZ P w H h)(e:h.objs.size<=a):H a=none:=by
 cases q:H a with
 | none=>rfl
 | some u=>exact absurd (cV (x.lt q) e) (iJ _)
theorem gZ.kept(x:gZ P w H h)(k:∀b u,h.get? b=some u->h'.get? b=some u):gZ P w H h':=λa o e=>
 (x a o e).stay (λb u _ q=>k b u q) (λ_ q=>q) λ_ _ q=>q
theorem gZ.laid(x:gZ P w H h)(k:∀b u,h.get? b=some u->h'.get? b=some u)(hp:h.objs.size<=a)(new:dE P w (upd H a o) h' a o):gZ P w (upd H a o) h':=λb u e=>by
 have hn:=x.fresh hp
 by_cases hb:b=a
 ·subst hb;rw[ah]at e;cases e;exact new
 ·rw[aj hb]at e
  exact(x b u e).stay (λc v _ q=>k c v q) (λc q=>by rw[aj (av q hn)];exact q) λc xs q=>by rw[aj (av q hn)];exact q
end
def Rd(H:Hp)(a:Addr)(u:HO):Prop:=H a=some u\/∃o,H a=some (.Dy o u)
theorem Rd.ok{P:Program}{w:World}{H:Hp}{h:Heap}{a:Addr}{u:HO}(r:Rd H a u)(x:gZ P w H h):dE P w H h a u:=by
 rcases r with r | ⟨o,r⟩
 ·exact x a u r
 ·obtain⟨_,q⟩:=x a _ r
  exact q
def Mut:Option HO->Prop
 | some (.lst _)=>True
 | some (.dK _)=>True
 | some (.dT _)=>True
 | some (.set _ _)=>True
 | some (.ins _ _ _)=>True
 | some (.ext _)=>True
 | _=>False
section
variable {P:Program}{w:World}{H:Hp}{h h':Heap}{x e:Addr}{o':HO}
theorem gZ.write(ok:gZ P w H h)(mu:Mut (H x))(he:e=x\/H e=some (.own x))(k:∀b u,b≠e->h.get? b=some u->h'.get? b=some u)(heo:∃u,h'.get? e=some u)
  (new:dE P w (upd H x o') h' x o'):gZ P w (upd H x o') h':=λb u q=>by
 have N0:∀c y,H c=some (.own y)->c≠x:=λc y r z=>by subst z;rw[r]at mu;exact mu
 have fP:∀c xs,H c=some (.tup xs)->c≠x:=λc xs r z=>by subst z;rw[r]at mu;exact mu
 by_cases hb:b=x
 ·subst hb;rw[ah]at q;cases q;exact new
 ·rw[aj hb]at q
  by_cases hbe:b=e
  ·have q':H b=some (.own x):=by
    rcases he with z | z
    ·exact absurd (hbe.trans z) hb
    ·rw[hbe];exact z
   rw[q]at q';cases q'
   obtain⟨v,hv⟩:=heo
   exact⟨v,by rw[hbe];exact hv⟩
  ·refine(ok b u q).stay (λc v hc r=>k c v ?_ r) (λc r=>by rw[aj (N0 c b r)];exact r) λc xs r=>by rw[aj (fP c xs r)];exact r
   rcases hc with rfl | hc
   ·exact hbe
   ·rintro rfl
    rcases he with z | z
    ·exact N0 c b hc z
    ·rw[hc]at z;cases z;exact hb rfl
end
structure Un(fs ex:List Addr)(H H':Hp)(h h':Heap):Prop where
 keep:∀b o,h.get? b=some o->H b=none->b∉fs->b∉ex->h'.get? b=some o
 slot:∀b o,h.get? b=some o->H b=none->b∈fs->b∉ex->∃sl,h'.get? b=some { o with slots:=sl }
 free:∀b o,h.get? b=some o->H b=none->b∉ex->H' b=none
 there:∀b o,h.get? b=some o->b∉ex->∃o',h'.get? b=some o'
 tups:∀b xs,H b=some (.tup xs)->H' b=some (.tup xs)
 frzs:∀b o u,H b=some (.Dy o u)->H' b=some (.Dy o u)
 tbls:∀b ps,H b=some (.nL ps)->∃more,H' b=some (.nL (ps++more))
section
variable {fs fs' ex ex':List Addr}{H H1 H2:Hp}{h h1 h2 h':Heap}{a x e:Addr}{o:HO}
theorem Un.any(u:Un fs ex H H1 h h1){b:Addr}{ob:Obj}(q:h.get? b=some ob)(n:H b=none)(hx:b∉ex):∃sl,h1.get? b=some { ob with slots:=sl }:=by
 by_cases hb:b∈fs
 ·exact u.slot b ob q n hb hx
 ·exact⟨ob.slots,u.keep b ob q n hb hx⟩
theorem Un.trans(a:Un fs ex H H1 h h1)(b:Un fs ex H1 H2 h1 h2):Un fs ex H H2 h h2 where
 keep:=λc ob q n hc hx=>b.keep c ob (a.keep c ob q n hc hx) (a.free c ob q n hx) hc hx
 slot:=λc ob q n hc hx=>by
  obtain⟨sl,e1⟩:=a.slot c ob q n hc hx
  obtain⟨sl',e2⟩:=b.slot c _ e1 (a.free c ob q n hx) hc hx
  exact⟨sl',e2⟩
 free:=λc ob q n hx=>by
  obtain⟨o',e1⟩:=a.there c ob q hx
  exact b.free c o' e1 (a.free c ob q n hx) hx
 there:=λc ob q hx=>by
  obtain⟨o',e1⟩:=a.there c ob q hx
  exact b.there c o' e1 hx
 tups:=λc xs q=>b.tups c xs (a.tups c xs q)
 frzs:=λc ob xs q=>b.frzs c ob xs (a.frzs c ob xs q)
 tbls:=λc ps q=>by
  obtain⟨m1,e1⟩:=a.tbls c ps q
  obtain⟨m2,e2⟩:=b.tbls c _ e1
  exact⟨m1++m2,by rw[e2,Array.append_assoc]⟩
theorem Un.kept(k:∀b u,h.get? b=some u->h'.get? b=some u):Un fs ex H H h h':=
 ⟨λb ob q _ _ _=>k b ob q,λb ob q _ _ _=>⟨ob.slots,k b ob q⟩,λ_ _ _ n _=>n,λb ob q _=>⟨ob,k b ob q⟩,λ_ _ q=>q,λ_ _ _ q=>q,λ_ ps q=>⟨#[],by rw[q];simp⟩⟩
theorem Un.refl:Un fs ex H H h h:=Un.kept λ_ _ q=>q
theorem Un.laid(k:∀b u,h.get? b=some u->h'.get? b=some u)(hp:h.objs.size<=a)(hn:H a=none):Un fs ex H (upd H a o) h h' where
 keep:=λb u q _ _ _=>k b u q
 slot:=λb u q _ _ _=>⟨u.slots,k b u q⟩
 free:=λb u q n _=>by rw[aj (bI (cV (bC q) hp))];exact n
 there:=λb u q _=>⟨u,k b u q⟩
 tups:=λb xs q=>by rw[aj (av q hn)];exact q
 frzs:=λb u xs q=>by rw[aj (av q hn)];exact q
 tbls:=λb ps q=>⟨#[],by rw[aj (av q hn),q];simp⟩
theorem Un.write(mu:Mut (H x))(he:e=x\/H e=some (.own x))(k:∀b u,b≠e->h.get? b=some u->h'.get? b=some u)(heo:∃u,h'.get? e=some u):Un fs ex H (upd H x o) h h':=by
 have hx:∀b,H b=none->b≠x:=λb n z=>by subst z;rw[n]at mu;exact mu
 have hb:∀b,H b=none->b≠e:=λb n z=>by
  subst z
  rcases he with r | r
  ·exact hx b n r
  ·rw[n]at r;cases r
 have hm:∀b u,H b=some u->¬Mut (some u)->b≠x:=λb u q nm z=>by subst z;rw[q]at mu;exact nm mu
 refine⟨λb u q n _ _=>k b u (hb b n) q,λb u q n _ _=>⟨u.slots,k b u (hb b n) q⟩,λb u q n _=>by rw[aj (hx b n)];exact n,λb u q _=>?_,
  λb xs q=>by rw[aj (hm b _ q λz=>z)];exact q,λb u xs q=>by rw[aj (hm b _ q λz=>z)];exact q,λb ps q=>⟨#[],by rw[aj (hm b _ q λz=>z),q];simp⟩⟩
 by_cases hbe:b=e
 ·subst hbe;exact heo
 ·exact⟨u,k b u hbe q⟩
end
def trk(h:Heap)(H:Hp):List Addr:=(List.range h.objs.size).filter λa=>(H a).isSome
def yS(h:Heap)(H:Hp):Heap:=PySem.W.hideAll h (trk h H)
theorem Oi(h:Heap)(H:Hp):(yS h H).objs.size=h.objs.size:=PySem.W.hideAll_size _ _
theorem Tj{h:Heap}{H:Hp}{b:Addr}{o:Obj}(e:h.get? b=some o)(n:H b=none):(yS h H).get? b=some o:=
 PySem.W.hideAll_get _ e λhm=>by
  have q:(H b).isSome=true:=(fL.mp hm).2
  rw[n]at q;simp at q
theorem WW{h:Heap}{H:Hp}{b:Addr}{o:Obj}(e:(yS h H).get? b=some o):h.get? b=some o/\H b=none:=by
 have e':h.get? b=some o:=PySem.W.of_hideAll (trk h H) e
 refine⟨e',?_⟩
 cases q:H b with
 | none=>rfl
 | some x=>
  have hm:b∈trk h H:=fL.mpr ⟨List.mem_range.mpr (bC e'),by simp[q]⟩
  have z:(yS h H).get? b=none:=PySem.W.hideAll_none (trk h H) hm
  rw[z]at e;cases e
def Yb(g h:Heap)(L:Addr):List (Addr×Obj):=(List.range h.objs.size).filterMap λa=>if a=L\/(g.get? a).isSome=true then none else (h.get? a).map λo=>(a,o)
def rest(g h:Heap)(L d:Addr):List (Addr×Obj):=(Yb g h L).filter λp=>decide (p.1≠d)
end L2
namespace L2
open PySem PySem.Spec PyProof.Rows
structure Mod(K:PySem.W.Frag)(mg:Str->Option Value)(base:Heap):Prop where
 Sz:K.In base
 glob:base.Ns mainGlobals mg
 blt:∃mb,base.Ns builtinsNs mb/\∀x:Str,x≠"__name__"->mb x=bootBuiltins x
 nolimit:base.NoLimit
structure Cx where
 prog:Program
 w:World
 K:PySem.W.Frag
 mg:Str->Option Value
 base:Heap
 A:Around
 N:List Str
 s₀:Shared
 H₀:Hp
 env:Env
 outer:List Env
 stack:List Env
 ex:List Addr
 fn:Str->Bool
 calm:Bool
 pn:List (Addr×Obj)
 xe:Value->Shared->Prop
def nh(l:List Env):List Addr:=l.filterMap (·.frame)
abbrev Cx.fs(X:Cx):List Addr:=nh X.outer
def G6(X:Cx):Prop:=X.A.handled=none\/∃e o vs,X.A.handled=some (.ref e)/\X.s₀.heap.get? e=some o/\X.H₀ e=none/\e∉X.fs/\e∉X.ex/\o.data=.fields vs/\vs[2]?=some .none
def Vis(sc:Scope)(x:Str):Prop:=sc.names.lookup x=some .local\/sc.names.lookup x=some .cell\/sc.names.lookup x=some .free
def Loc(sc:Scope)(x:Str):Prop:=sc.names.lookup x=some .local\/sc.names.lookup x=some .cell
def Look(env:Env)(h:Heap)(m:Str->Option Value)(x:Str)(u:Value):Prop:=
 (env.kindOf x=some .local/\m x=some u)\/((env.kindOf x=some .cell\/env.kindOf x=some .free)/\∃c,env.cells.lookup x=some c/\h.IsCell c (some u))
structure Cx.Ok(X:Cx):Prop where
 mod:Mod X.K X.mg X.base
 kind:X.env.scope.kind=.function
 glob:X.env.globals=mainGlobals
 blt:X.env.builtins=builtinsNs
 above:X.s₀.heap.objs.size<=X.env.locals
 inj:∀x y c,X.env.cells.lookup x=some c->X.env.cells.lookup y=some c->x=y
 has:∀x,(X.env.kindOf x=some .cell\/X.env.kindOf x=some .free)->∃c,X.env.cells.lookup x=some c
 X5:∀x c,X.fn x=true->X.env.cells.lookup x=some c->X.s₀.heap.objs.size<=c
 hd:X.calm=true->G6 X
 frames:X.A.frames=some X.stack
 ZP:X.stack=X.outer\/(X.stack=X.env::X.outer/\X.env.frame=some X.env.locals)
 exf:∀b∈X.ex,b≠X.env.locals/\∀x c,X.env.cells.lookup x=some c->c≠b
 bs:∀b o,X.base.get? b=some o->X.s₀.heap.get? b=some o/\X.H₀ b=none
 G3:X.base.objs.size<=X.s₀.heap.objs.size
 Ey:∀b o,X.base.get? b=some o->b∉X.ex
 JK:∀b∈X.ex,b∉X.fs
 mr:X.s₀.heap.FunFrames X.base X.outer
 JD:∀b∈X.fs,X.H₀ b=none
structure Inv(X:Cx)(pins:List (Addr×Obj))(σ:List (Option V))(H:Hp)(s:Shared):Prop where
 ok:X.Ok
 os:s.os=X.s₀.os
 bare:AllBare s.gens
 base:Un X.fs X.ex X.H₀ H X.s₀.heap s.heap
 loc:∃m,s.heap.Ns X.env.locals m/\∀(i:Nat) (x:Str) (v:V),X.N[i]?=some x->σ[i]?=some (some v)->Vis X.env.scope x->∃u,RelV v u/\Look X.env s.heap m x u
 cell:∀x c,X.env.cells.lookup x=some c->∃v,s.heap.IsCell c v
 free:H X.env.locals=none
 gx:∀x c,X.env.cells.lookup x=some c->H c=none
 pin:∀p∈X.pn++pins,s.heap.get? p.1=some p.2/\H p.1=none/\p.1≠X.env.locals/\p.1∉X.fs/\∀v,p.2.data≠.cell v
 bx:gZ X.prog X.w H s.heap
 len:σ.length=X.N.length
section
variable {X:Cx}{pins:List (Addr×Obj)}{σ:List (Option V)}{H H':Hp}{s:Shared}{h':Heap}
theorem Cx.Ok.aFp(ok:X.Ok){b:Addr}{o:Obj}(e:X.base.get? b=some o):b∉X.fs:=λhb=>by
 have:=(ok.mr.mem hb).1
 rw[e]at this;cases this
theorem Inv.bs(I:Inv X pins σ H s):∀b o,X.base.get? b=some o->s.heap.get? b=some o/\H b=none:=λb o e=>
 ⟨I.base.keep b o (I.ok.bs b o e).1 (I.ok.bs b o e).2 (I.ok.aFp e) (I.ok.Ey b o e),I.base.free b o (I.ok.bs b o e).1 (I.ok.bs b o e).2 (I.ok.Ey b o e)⟩
theorem Inv.bk(I:Inv X pins σ H s):∀b o,X.base.get? b=some o->s.heap.get? b=some o:=λb o e=>(I.bs b o e).1
theorem Inv.mod(I:Inv X pins σ H s):Mod X.K X.mg X.base:=I.ok.mod
theorem Inv.qc(I:Inv X pins σ H s):X.K.In s.heap:=I.ok.mod.Sz.keeps I.bk
theorem Inv.lt(I:Inv X pins σ H s):X.env.locals<s.heap.objs.size:=let ⟨_,hn,_⟩:=I.loc;hn.lt
theorem Inv.sz(I:Inv X pins σ H s):X.s₀.heap.objs.size<=s.heap.objs.size:=fJ I.ok.above (km I.lt)
theorem Inv.aCt(I:Inv X pins σ H s){a:Addr}(h:s.heap.objs.size<=a):a∉X.fs:=λhb=>by
 obtain⟨_,o,ho,_⟩:=I.ok.mr.mem hb
 exact absurd (cV (bC ho) (fJ I.sz h)) (iJ _)
theorem Inv.Zm(I:Inv X pins σ H s):∀x c,X.env.cells.lookup x=some c->c≠X.env.locals:=λx c e z=>by
 obtain⟨v,o,ho,hd⟩:=I.cell x c e
 obtain⟨m,⟨o',es,ep,Tf,hd',_⟩,_⟩:=I.loc
 rw[z,Tf]at ho;cases ho;rw[hd']at hd;cases hd
theorem Inv.mr(I:Inv X pins σ H s):s.heap.FunFrames X.base X.outer:=by
 have all:∀(l:List Env),(∀b∈nh l,b∈X.fs)->X.s₀.heap.FunFrames X.base l->s.heap.FunFrames X.base l:=by
  intro l
  induction l with
  | nil=>intro _ _;trivial
  | cons env r ih=>
   intro hs hl
   obtain⟨hk,⟨L,o,hf,hn,ho,hd⟩,hr⟩:=hl
   have hL:L∈X.fs:=hs L (by unfold nh;rw[He,hf];exact dD)
   obtain⟨sl,e⟩:=I.base.slot L o ho (I.ok.JD L hL) hL λz=>I.ok.JK L z hL
   exact⟨hk,⟨L,_,hf,hn,e,hd⟩,ih (λb hb=>hs b (by unfold nh;rw[He,hf];exact dW _ hb)) hr⟩
 exact all X.outer (λ_ hb=>hb) I.ok.mr
theorem Inv.stack(I:Inv X pins σ H s):s.heap.FunFrames X.base X.stack:=by
 rcases I.ok.ZP with e | ⟨e,hf⟩
 ·rw[e];exact I.mr
 ·rw[e]
  obtain⟨m,hn,_⟩:=I.loc
  refine .cons (by rw[I.ok.kind];decide) hf hn ?_ I.mr
  exact uh (fJ I.ok.G3 I.ok.above)
theorem Inv.nM(I:Inv X pins σ H s):∀b∈nh X.stack,b∈X.env.locals::X.fs:=λb hb=>by
 rcases I.ok.ZP with e | ⟨e,hf⟩
 ·rw[e]at hb;exact dW _ hb
 ·rw[e]at hb
  unfold nh at hb
  rw[He,hf]at hb
  exact hb
theorem Inv.sU(I:Inv X pins σ H s):∀b∈nh X.stack,H b=none:=λb hb=>by
 rcases bT.mp (I.nM b hb) with e | hb
 ·rw[e];exact I.free
 ·obtain⟨_,o,ho,_⟩:=I.ok.mr.mem hb
  exact I.base.free b o ho (I.ok.JD b hb) λz=>I.ok.JK b z hb
theorem Inv.step{g':Array GenState}{t':Nat}{d':Drawn}{ch:List Addr}(I:Inv X pins σ H s)
  (yT:∀b∈ch,(b∈X.ex\/X.s₀.heap.objs.size<=b)/\b≠X.env.locals/\(∀x c,X.env.cells.lookup x=some c->c≠b)/\∀p∈X.pn++pins,p.1≠b)
  (keep:∀b o,b≠X.env.locals->b∉X.fs->b∉ch->s.heap.get? b=some o->H b=none->h'.get? b=some o)
  (slot:∀b o,b≠X.env.locals->b∈X.fs->b∉ch->s.heap.get? b=some o->H b=none->∃sl,h'.get? b=some { o with slots:=sl }) (free:∀b o,b∉ch->s.heap.get? b=some o->H b=none->H' b=none)
  (there:∀b o,b∉ch->s.heap.get? b=some o->∃o',h'.get? b=some o')
  (tups:∀b xs,H b=some (.tup xs)->H' b=some (.tup xs)) (frzs:∀b o u,H b=some (.Dy o u)->H' b=some (.Dy o u)) (tbls:∀b ps,H b=some (.nL ps)->∃more,H' b=some (.nL (ps++more)))
  (ns:∀m,s.heap.Ns X.env.locals m->h'.Ns X.env.locals m) (bx:gZ X.prog X.w H' h') (hg:AllBare g') :
  Inv X pins σ H' { s with heap:=h',gens:=g',drawn:=d',toks:=t' }:=by
 have neL:∀b o,X.s₀.heap.get? b=some o->b≠X.env.locals:=λb o e=>bI (cV (bC e) I.ok.above)
 have neC:∀b o,X.s₀.heap.get? b=some o->b∉X.ex->b∉ch:=λb o e hx hb=>by
  rcases(yT b hb).1 with z | z
  ·exact hx z
  ·exact absurd (cV (bC e) z) (iJ _)
 have cellK:∀x c,X.env.cells.lookup x=some c->∀v,s.heap.IsCell c v->h'.IsCell c v:=λx c e v ⟨o,ho,hd⟩=>by
  have nch:c∉ch:=λz=>(yT c z).2.2.1 x c e rfl
  by_cases hc:c∈X.fs
  ·obtain⟨sl,q⟩:=slot c o (I.Zm x c e) hc nch ho (I.gx x c e)
   exact⟨_,q,hd⟩
  ·exact⟨o,keep c o (I.Zm x c e) hc nch ho (I.gx x c e),hd⟩
 refine⟨I.ok,I.os,hg,⟨λb o e n hb hx=>?_,λb o e n hb hx=>?_,λb o e n hx=>?_,λb o e hx=>?_,λb xs e=>tups b xs (I.base.tups b xs e),λb o xs e=>frzs b o xs (I.base.frzs b o xs e),λb ps e=>?_⟩,?_,λx c e=>?_,?_,λx c e=>?_,λp hp=>?_,bx,I.len⟩
 ·exact keep b o (neL b o e) hb (neC b o e hx) (I.base.keep b o e n hb hx) (I.base.free b o e n hx)
 ·obtain⟨sl,e1⟩:=I.base.slot b o e n hb hx
  obtain⟨sl',e2⟩:=slot b _ (neL b o e) hb (neC b o e hx) e1 (I.base.free b o e n hx)
  exact⟨sl',e2⟩
 ·obtain⟨o',e1⟩:=I.base.there b o e hx
  exact free b o' (neC b o e hx) e1 (I.base.free b o e n hx)
 ·obtain⟨o',e1⟩:=I.base.there b o e hx
  exact there b o' (neC b o e hx) e1
 ·obtain⟨m1,e1⟩:=I.base.tbls b ps e
  obtain⟨m2,e2⟩:=tbls b _ e1
  exact⟨m1++m2,by rw[e2,Array.append_assoc]⟩
 ·obtain⟨m,hn,hl⟩:=I.loc
  refine⟨m,ns m hn,λi x v e1 e2 e3=>?_⟩
  obtain⟨u,r,l⟩:=hl i x v e1 e2 e3
  refine⟨u,r,?_⟩
  rcases l with l | ⟨k,c,e,z⟩
  ·exact .inl l
  ·exact .inr ⟨k,c,e,cellK x c e _ z⟩
 ·obtain⟨v,z⟩:=I.cell x c e
  exact⟨v,cellK x c e v z⟩
 ·obtain⟨m,⟨o,_,_,ho,_⟩,_⟩:=I.loc
  exact free _ o (λz=>(yT _ z).2.1 rfl) ho I.free
 ·obtain⟨v,o,ho,hd⟩:=I.cell x c e
  exact free c o (λz=>(yT c z).2.2.1 x c e rfl) ho (I.gx x c e)
 ·obtain⟨e,n,ne,nf,d⟩:=I.pin p hp
  have nch:p.1∉ch:=λz=>(yT p.1 z).2.2.2 p hp rfl
  exact⟨keep p.1 p.2 ne nf nch e n,free p.1 p.2 nch e n,ne,nf,d⟩
theorem Inv.un{t':Nat}(I:Inv X pins σ H s)(u:Un X.fs [] H H' s.heap h')(bx:gZ X.prog X.w H' h'):Inv X pins σ H' { s with heap:=h',toks:=t' }:=by
 obtain⟨m,⟨o,es,ep,ho,r⟩,_⟩:=id I.loc
 obtain⟨sl,hL⟩:=u.any ho I.free (by simp)
 exact I.step (g':=s.gens) (d':=s.drawn) (ch:=[]) (λ_ z=>nomatch z) (λb o _ hb _ e n=>u.keep b o e n hb (by simp)) (λb o _ hb _ e n=>u.slot b o e n hb (by simp)) (λb o _ e n=>u.free b o e n (by simp)) (λb o _ e=>u.there b o e (by simp)) u.tups u.frzs u.tbls (λm' hm=>by
  obtain⟨o',es',ep',Tf,r'⟩:=hm
  rw[ho]at Tf;cases Tf
  exact⟨_,es',ep',hL,r'⟩) bx I.bare
theorem Inv.call{g':Array GenState}{t':Nat}{d':Drawn}{ch:List Addr}(I:Inv X pins σ H s)(u:Un (nh X.stack) ch H H' s.heap h')(bx:gZ X.prog X.w H' h')(hg:AllBare g')
  (yT:∀b∈ch,(b∈X.ex\/X.s₀.heap.objs.size<=b)/\b≠X.env.locals/\(∀x c,X.env.cells.lookup x=some c->c≠b)/\∀p∈X.pn++pins,p.1≠b) :
  Inv X pins σ H' { s with heap:=h',gens:=g',drawn:=d',toks:=t' }:=by
 obtain⟨m,⟨o,es,ep,ho,r⟩,_⟩:=id I.loc
 obtain⟨sl,hL⟩:=u.any ho I.free λz=>(yT _ z).2.1 rfl
 exact I.step (ch:=ch) yT (λb o hL hb hc e n=>u.keep b o e n (λz=>(bT.mp (I.nM b z)).elim hL hb) hc) (λb o _ _ hc e n=>u.any e n hc) (λb o hc e n=>u.free b o e n hc) (λb o hc e=>u.there b o e hc) u.tups u.frzs u.tbls (λm' hm=>by
  obtain⟨o',es',ep',Tf,r'⟩:=hm
  rw[ho]at Tf;cases Tf
  exact⟨_,es',ep',hL,r'⟩) bx hg
theorem Inv.turned{t':Nat}{it:Addr}(I:Inv X pins σ H s)(k:∀b o,b≠it->s.heap.get? b=some o->h'.get? b=some o)(hn:H it=none)(hL:it≠X.env.locals)
  (h1:it∈X.ex\/X.s₀.heap.objs.size<=it) (h2:∀x c,X.env.cells.lookup x=some c->c≠it) (h3:∀p∈X.pn++pins,p.1≠it):Inv X pins σ H { s with heap:=h',toks:=t' }:=by
 have nit:∀b u,H b=some u->b≠it:=λb u e z=>by rw[z,hn]at e;cases e
 refine I.step (g':=s.gens) (d':=s.drawn) (ch:=[it]) (λb hb=>?_) (λb o _ _ hc e _=>k b o (λz=>hc (by simp[z])) e) (λb o _ _ hc e _=>⟨o.slots,k b o (λz=>hc (by simp[z])) e⟩) (λ_ _ _ _ n=>n)
  (λb o hc e=>⟨o,k b o (λz=>hc (by simp[z])) e⟩) (λ_ _ e=>e) (λ_ _ _ e=>e) (λb ps e=>⟨#[],by rw[e];simp⟩) (λm hm=>?_) (λb u e=>?_) I.bare
 ·have e:b=it:=by simpa using hb
  subst e
  exact⟨h1,hL,h2,h3⟩
 ·obtain⟨o,es,ep,ho,r⟩:=hm
  exact⟨o,es,ep,k _ o (fO hL) ho,r⟩
 ·refine(I.bx b u e).stay (λc v hc q=>k c v ?_ q) (λ_ q=>q) λ_ _ q=>q
  rcases hc with z | z
  ·rw[z];exact nit b u e
  ·exact nit c _ z
theorem Inv.tok(I:Inv X pins σ H s)(t:Nat):Inv X pins σ H { s with toks:=t }:=I.un (h':=s.heap) (t':=t) Un.refl I.bx
theorem Inv.kept{t':Nat}(I:Inv X pins σ H s)(k:∀b u,s.heap.get? b=some u->h'.get? b=some u):Inv X pins σ H { s with heap:=h',toks:=t' }:=I.un (Un.kept k) (I.bx.kept k)
theorem Inv.laid{a:Addr}{o:HO}{t':Nat}(I:Inv X pins σ H s)(k:∀b u,s.heap.get? b=some u->h'.get? b=some u)(hp:s.heap.objs.size<=a)(new:dE X.prog X.w (upd H a o) h' a o) :
  Inv X pins σ (upd H a o) { s with heap:=h',toks:=t' }:=I.un (Un.laid k hp (I.bx.fresh hp)) (I.bx.laid k hp new)
theorem Inv.write{x e:Addr}{o:HO}{t':Nat}(I:Inv X pins σ H s)(mu:Mut (H x))(he:e=x\/H e=some (.own x))(k:∀b u,b≠e->s.heap.get? b=some u->h'.get? b=some u)(heo:∃u,h'.get? e=some u)
  (new:dE X.prog X.w (upd H x o) h' x o):Inv X pins σ (upd H x o) { s with heap:=h',toks:=t' }:=I.un (Un.write mu he k heo) (I.bx.write mu he k heo new)
theorem Inv.K4{Ep:List (Addr×Obj)}(I:Inv X pins σ H s)(h:∀p∈Ep,s.heap.get? p.1=some p.2/\H p.1=none/\p.1≠X.env.locals/\p.1∉X.fs/\∀v,p.2.data≠.cell v):Inv X Ep σ H s:=
 ⟨I.ok,I.os,I.bare,I.base,I.loc,I.cell,I.free,I.gx,λp hp=>(dq.mp hp).elim (λz=>I.pin p (uj _ z)) (h p),I.bx,I.len⟩
theorem xq{N:List Str}(hN:N.Nodup){i j:Nat}{x:Str}(a:N[i]?=some x)(b:N[j]?=some x):i=j:=by
 obtain⟨h1,e1⟩:=dO.mp a
 obtain⟨h2,e2⟩:=dO.mp b
 exact(Au hN).mp (e1.trans e2.symm)
theorem zr{M:Model}{A:Around}{E:Value->Shared->Prop}{i:Nat}{x:Str}{v:V}{u:Value}{Q:Unit->Shared->Prop}(I:Inv X pins σ H s)(hN:X.N.Nodup)(hi:X.N[i]?=some x)(hx:Loc X.env.scope x)(r:RelV v u)
  (h:∀s',Inv X pins (σ.set i (some v)) H s'->(∃a,Heap.SameBut a s.heap s'.heap/\(a=X.env.locals\/X.env.cells.lookup x=some a))->Q () s') (hf:X.fn x=true\/X.env.scope.names.lookup x=some .local:=by first | exact .inl rfl | exact .inr rfl | assumption):wpAny M A (storeName X.env x u) Q E s:=by
 obtain⟨m,hn,hl⟩:=id I.loc
 have aF7:(X.env.scope.kind == .class||(X.env.scope.kind == .module&&X.env.locals != X.env.globals))=false:=by rw[I.ok.kind];rfl
 have hiσ:i<σ.length:=by rw[I.len];exact(dO.mp hi).1
 have Zm:=I.Zm
 have tracked:∀{a:Addr} {h':Heap},(∃o,s.heap.get? a=some o/\H a=none)->Heap.SameBut a s.heap h'->gZ X.prog X.w H h':=λ{a h'} ha hs b ob e=>by
  obtain⟨_,_,Gb⟩:=ha
  refine(I.bx b ob e).stay (λc w' hc q=>(hs.2 c ?_).trans q) (λ_ q=>q) λ_ _ q=>q
  rintro rfl
  rcases hc with rfl | hc
  ·rw[Gb]at e;cases e
  ·rw[Gb]at hc;cases hc
 rcases hx with hk | hk
 ·refine wpAny_storeName_local hk hn (λh' Xj hs=>?_) aF7
  obtain⟨oL,_,_,U9,_⟩:=id hn
  refine h _ ⟨I.ok,I.os,I.bare,⟨λb o e n hb hx=>?_,λb o e n hb hx=>?_,I.base.free,λb o e hx=>?_,I.base.tups,I.base.frzs,I.base.tbls⟩,⟨_,Xj,λj y v' e1 e2 e3=>?_⟩,λy c e=>?_,I.free,I.gx,λp hp=>?_,tracked ⟨oL,U9,I.free⟩ hs,by simpa using I.len⟩ ⟨_,hs,.inl rfl⟩
  ·exact(hs.2 b (bI (cV (bC e) I.ok.above))).trans (I.base.keep b o e n hb hx)
  ·obtain⟨sl,e1⟩:=I.base.slot b o e n hb hx
   exact⟨sl,(hs.2 b (bI (cV (bC e) I.ok.above))).trans e1⟩
  ·obtain⟨o',e1⟩:=I.base.there b o e hx
   exact⟨o',(hs.2 b (bI (cV (bC e) I.ok.above))).trans e1⟩
  ·by_cases hj:j=i
   ·subst hj
    rw[hi]at e1;cases e1
    rw[List.getElem?_set_self hiσ]at e2
    cases e2
    exact⟨u,r,.inl ⟨hk,by simp⟩⟩
   ·rw[List.getElem?_set_ne (fO hj)]at e2
    obtain⟨u',r',q⟩:=hl j y v' e1 e2 e3
    refine⟨u',r',?_⟩
    rcases q with ⟨k,e⟩ | ⟨k,c,e,z⟩
    ·refine .inl ⟨k,?_⟩
     have:y≠x:=λe=>hj (xq hN e1 (e ▸ hi))
     simp[this,e]
    ·exact .inr ⟨k,c,e,z.sameBut hs (Zm y c e)⟩
  ·obtain⟨w',z⟩:=I.cell y c e
   exact⟨w',z.sameBut hs (Zm y c e)⟩
  ·obtain⟨e,n,ne,nf,d⟩:=I.pin p hp
   exact⟨(hs.2 p.1 ne).trans e,n,ne,nf,d⟩
 ·have Tn:X.fn x=true:=by
   rcases hf with z | z
   ·exact z
   ·rw[z]at hk;cases hk
  obtain⟨c,hc⟩:=I.ok.has x (.inl hk)
  obtain⟨w',z⟩:=I.cell x c hc
  refine wpAny_storeName_cell I.ok.kind hk hc z (λh' vr hs=>?_)
  obtain⟨oc,uB,aF1⟩:=id z
  refine h { s with heap:=h' } ⟨I.ok,I.os,I.bare,⟨λb o e n hb hx=>?_,λb o e n hb hx=>?_,I.base.free,λb o e hx=>?_,I.base.tups,I.base.frzs,I.base.tbls⟩,⟨m,hn.sameBut hs (fO (Zm x c hc)),λj y v' e1 e2 e3=>?_⟩,λy c' e=>?_,I.free,I.gx,λp hp=>?_,tracked ⟨oc,uB,I.gx x c hc⟩ hs,by simpa using I.len⟩ ⟨c,hs,.inr hc⟩
  ·exact(hs.2 b (bI (cV (bC e) (I.ok.X5 x c Tn hc)))).trans (I.base.keep b o e n hb hx)
  ·obtain⟨sl,e1⟩:=I.base.slot b o e n hb hx
   exact⟨sl,(hs.2 b (bI (cV (bC e) (I.ok.X5 x c Tn hc)))).trans e1⟩
  ·obtain⟨o',e1⟩:=I.base.there b o e hx
   exact⟨o',(hs.2 b (bI (cV (bC e) (I.ok.X5 x c Tn hc)))).trans e1⟩
  ·by_cases hj:j=i
   ·subst hj
    rw[hi]at e1;cases e1
    rw[List.getElem?_set_self hiσ]at e2
    cases e2
    exact⟨u,r,.inr ⟨.inl hk,c,hc,vr⟩⟩
   ·rw[List.getElem?_set_ne (fO hj)]at e2
    obtain⟨u',r',q⟩:=hl j y v' e1 e2 e3
    refine⟨u',r',?_⟩
    rcases q with q | ⟨k,c',e,z'⟩
    ·exact .inl q
    ·refine .inr ⟨k,c',e,z'.sameBut hs ?_⟩
     rintro rfl
     exact hj (xq hN e1 (I.ok.inj _ _ _ e hc ▸ hi))
  ·by_cases hcc:c'=c
   ·subst hcc;exact⟨_,vr⟩
   ·obtain⟨w2,z2⟩:=I.cell y c' e
    exact⟨w2,z2.sameBut hs hcc⟩
  ·obtain⟨e,n,ne,nf,d⟩:=I.pin p hp
   refine⟨(hs.2 p.1 ?_).trans e,n,ne,nf,d⟩
   intro q
   rw[q,uB]at e
   have q':oc=p.2:=dU e
   exact d w' (by rw[<-q'];exact aF1)
theorem sQ{M:Model}{A:Around}{E:Value->Shared->Prop}{i:Nat}{x:Str}{v:V}{u:Value}{Q:Unit->Shared->Prop}(I:Inv X pins σ H s)(hN:X.N.Nodup)(hi:X.N[i]?=some x)(hx:Loc X.env.scope x)(r:RelV v u)
  (h:∀s',Inv X pins (σ.set i (some v)) H s'->Q () s') (hf:X.fn x=true\/X.env.scope.names.lookup x=some .local:=by first | exact .inl rfl | exact .inr rfl | assumption):wpAny M A (storeName X.env x u) Q E s:=
 zr I hN hi hx r (λs' I' _=>h s' I') hf
theorem Inv.call'{s':Shared}{ch:List Addr}(I:Inv X pins σ H s)(ho:s'.os=s.os)(u:Un (nh X.stack) ch H H' s.heap s'.heap)(bx:gZ X.prog X.w H' s'.heap)(hg:AllBare s'.gens)
  (yT:∀b∈ch,(b∈X.ex\/X.s₀.heap.objs.size<=b)/\b≠X.env.locals/\(∀x c,X.env.cells.lookup x=some c->c≠b)/\∀p∈X.pn++pins,p.1≠b):Inv X pins σ H' s':=by
 obtain⟨h',g',d',t',o'⟩:=s'
 have e:o'=s.os:=ho
 subst e
 exact I.call (g':=g') (t':=t') (d':=d') u bx hg yT
end
abbrev XK:=Value->Option Addr->Hp->Prop
abbrev St:=List (Option V)
abbrev VK:=V->Hp->Prop
abbrev TE:=St->Hp->VK->Prop
abbrev TT:=St->Hp->(Bool->Hp->Prop)->Prop
abbrev TA:=St->Hp->(List V->Hp->Prop)->Prop
structure Ends where
 nx:St->Hp->Prop
 rt:VK
 bk:St->Hp->Prop:=λ_ _=>False
 ct:St->Hp->Prop:=λ_ _=>False
abbrev TS:=Ends->St->Hp->Prop
def EP(X:Cx)(pins:List (Addr×Obj))(σ:St)(Q:VK)(u:Value)(s':Shared):Prop:=∃v H',Inv X pins σ H' s'/\RelV v u/\Q v H'
def TP(X:Cx)(pins:List (Addr×Obj))(σ:St)(Q:Bool->Hp->Prop)(b:Bool)(s':Shared):Prop:=∃H',Inv X pins σ H' s'/\Q b H'
def AP(X:Cx)(pins:List (Addr×Obj))(σ:St)(Q:List V->Hp->Prop)(us:List Value)(s':Shared):Prop:=∃vs H',Inv X pins σ H' s'/\Vals vs us/\Q vs H'
def SP(X:Cx)(pins:List (Addr×Obj))(D:Ends)(f:Flow)(s':Shared):Prop:=
 match f with
 | .next=>∃σ' H',Inv X pins σ' H' s'/\D.nx σ' H'
 | .brk=>∃σ' H',Inv X pins σ' H' s'/\D.bk σ' H'
 | .cont=>∃σ' H',Inv X pins σ' H' s'/\D.ct σ' H'
 | .ret u=>∃v σ' H',Inv X pins σ' H' s'/\RelV v u/\D.rt v H'
def PE(X:Cx)(e:Expr)(t:TE):Prop:=
 ∀(pins:List (Addr×Obj)) (s:Shared) (σ:St) (H:Hp) (Q:VK),Inv X pins σ H s->t σ H Q->wpAny (model X.prog X.w) X.A (eval e X.env) (EP X pins σ Q) X.xe s
def PT(X:Cx)(e:Expr)(t:TT):Prop:=
 ∀(pins:List (Addr×Obj)) (s:Shared) (σ:St) (H:Hp) (Q:Bool->Hp->Prop),Inv X pins σ H s->t σ H Q->wpAny (model X.prog X.w) X.A (isTrue e X.env (eval e X.env)) (TP X pins σ Q) X.xe s
def PW(X:Cx)(e:Expr)(t:TT):Prop:=
 ∀(whole:Sem Value) (pins:List (Addr×Obj)) (s:Shared) (σ:St) (H:Hp) (Q:Bool->Hp->Prop),Inv X pins σ H s->t σ H Q->wpAny (model X.prog X.w) X.A (isTrue e X.env whole) (TP X pins σ Q) X.xe s
theorem PW.pt{X:Cx}{e:Expr}{t:TT}(h:PW X e t):PT X e t:=h _
def PA(X:Cx)(es:List Expr)(t:TA):Prop:=
 ∀(pos:Pos) (pins:List (Addr×Obj)) (s:Shared) (σ:St) (H:Hp) (Q:List V->Hp->Prop),Inv X pins σ H s->t σ H Q->wpAny (model X.prog X.w) X.A (spliced (backTo pos (starEach es X.env))) (AP X pins σ Q) X.xe s
def PS(X:Cx)(st:Stmt)(t:TS):Prop:=
 ∀(pins:List (Addr×Obj)) (s:Shared) (σ:St) (H:Hp) (D:Ends),Inv X pins σ H s->t D σ H->wpAny (model X.prog X.w) X.A (exec st X.env) (SP X pins D) X.xe s
def yC(X:Cx)(st:List Stmt)(t:TS):Prop:=
 ∀(pins:List (Addr×Obj)) (s:Shared) (σ:St) (H:Hp) (D:Ends),Inv X pins σ H s->t D σ H->wpAny (model X.prog X.w) X.A (execs st X.env) (SP X pins D) X.xe s
theorem cM{α:Type}{t:Sem α}{Q Q':α->Shared->Prop}{M:Model}{A:Around}{E:Value->Shared->Prop}{s:Shared}(h:wpAny M A t Q E s)(hQ:∀a s,Q a s->Q' a s):wpAny M A t Q' E s:=dk h hQ λ_ _ x=>x
end L2
namespace L2
open PySem PySem.Spec PyProof.Rows
section
variable {X:Cx}
theorem bin{a b:Expr}{ta tb:TE}(ha:PE X a ta)(hb:PE X b tb){pins:List (Addr×Obj)}{s:Shared}{σ:St}{H:Hp}{R:V->V->Hp->Prop}(I:Inv X pins σ H s)(h:ta σ H λx H1=>tb σ H1 λy H2=>R x y H2)
  {α:Type} {Q:α->Shared->Prop} {f:Value->Value->Sem α}
  (hf:∀v u s2 x y H2,Inv X pins σ H2 s2->RelV x v->RelV y u->R x y H2->wpAny (model X.prog X.w) X.A (f v u) Q X.xe s2) :
  wpAny (model X.prog X.w) X.A (eval a X.env) (λv s₁=>wpAny (model X.prog X.w) X.A (eval b X.env) (λu s₂=>wpAny (model X.prog X.w) X.A (f v u) Q X.xe s₂) X.xe s₁) X.xe s:=by
 refine cM (ha pins s σ H _ I h) λv s1 ⟨x,H1,I1,r1,q1⟩=>?_
 refine cM (hb pins s1 σ H1 _ I1 q1) λu s2 ⟨y,H2,I2,r2,q2⟩=>?_
 exact hf v u s2 x y H2 I2 r1 r2 q2
def DY(i:Nat):TE:=λσ H Q=>∃v,σ[i]?=some (some v)/\Q v H
def tC(v:V):TE:=λ_ H Q=>Q v H
theorem RM{i:Nat}{x:Str}{pos:Pos}(hN:X.N[i]?=some x)(hv:Vis X.env.scope x)(hd:(x==("__debug__" : Str))=false:=by decide)(vq:(x==("__classdict__" : Str))=false:=by decide):PE X (.Name x pos) (DY i):=by
 intro pins s σ H Q I h
 obtain⟨v,e,h⟩:=h
 obtain⟨m,hn,hl⟩:=I.loc
 obtain⟨u,r,l⟩:=hl i x v hN e hv
 have fin:EP X pins σ Q u s:=⟨v,H,I,r,h⟩
 rcases l with ⟨hk,hm⟩ | ⟨hk,c,hc,qf⟩
 ·exact wpAny_Name (wpAny_loadName_local I.ok.kind hk hn hm fin) hd
 ·rcases hk with hk | hk
  ·exact wpAny_Name (wpAny_loadName_cell I.ok.kind hk hc qf fin) hd
  ·exact wpAny_Name (wpAny_loadName_free I.ok.kind hk hc qf fin vq) hd
theorem aAx{i j pos}:PE X (.Constant (.int i) j pos) (tC (.int i)):=λ_ _ _ H _ I h=>wpAny_Constant_int ⟨.int i,H,I.tok _,⟨_,rfl⟩,h⟩
theorem aCk{b j pos}:PE X (.Constant (.bool b) j pos) (tC (.bl b)):=λ_ _ _ H _ I h=>Constant_bool ⟨.bl b,H,I,rfl,h⟩
theorem aAu{x j pos}:PE X (.Constant (.str x) j pos) (tC (.str x)):=λ_ _ _ H _ I h=>Calls.Constant_str ⟨.str x,H,I.tok _,⟨_,rfl⟩,h⟩
def Gl(X:Cx)(x:Str):Prop:=X.env.kindOf x=some .globalImplicit
theorem hX{E:Value->Shared->Prop}{pins:List (Addr×Obj)}{s:Shared}{σ:St}{H:Hp}{x:Str}{u:Value}{pos:Pos}{Q:Value->Shared->Prop}(I:Inv X pins σ H s)(hg:Gl X x)(hm:X.mg x=some u)(h:Q u s)
  (hd:(x==("__debug__" : Str))=false:=by decide):wpAny (model X.prog X.w) X.A (eval (.Name x pos) X.env) Q E s:=
 Calls.Name_function_global I.ok.kind hg (Calls.loadGlobal_global (by rw[I.ok.glob];exact I.mod.glob.keeps I.bk) hm h) hd
theorem xE{E:Value->Shared->Prop}{pins:List (Addr×Obj)}{s:Shared}{σ:St}{H:Hp}{x:Str}{u:Value}{pos:Pos}{Q:Value->Shared->Prop}(I:Inv X pins σ H s)(hg:Gl X x)(hm:X.mg x=none)(hv:bootBuiltins x=some u)(h:Q u s)
  (hn:x≠"__name__":=by decide) (hd:(x==("__debug__" : Str))=false:=by decide):wpAny (model X.prog X.w) X.A (eval (.Name x pos) X.env) Q E s:=by
 obtain⟨mb,h1,h2⟩:=I.mod.blt
 exact Calls.Name_function_global I.ok.kind hg (Calls.loadGlobal_builtin (by rw[I.ok.glob];exact I.mod.glob.keeps I.bk) hm (by rw[I.ok.blt];exact h1.keeps I.bk) ((h2 x hn).trans hv) h) hd
variable {a b:Expr}{ta tb:TE}{pos:Pos}
def PC(X:Cx)(op:CmpOp)(a b:Expr)(t:TE):Prop:=
 ∀(pins:List (Addr×Obj)) (s:Shared) (σ:St) (H:Hp) (Q:VK),Inv X pins σ H s->t σ H Q->
  wpAny (model X.prog X.w) X.A (eval a X.env) (λv s₁=>wpAny (model X.prog X.w) X.A (eval b X.env) (λu s₂=>wpAny (model X.prog X.w) X.A (compareOp op v u) (EP X pins σ Q) X.xe s₂) X.xe s₁) X.xe s
theorem Sl(b:Expr){op:CmpOp}(h:op≠.In)(h2:op≠.NotIn):behindInMarks op b=false:=by
 have e1:(op==CmpOp.In)=false:=by cases op <;> first | rfl | exact absurd rfl h
 have e2:(op==CmpOp.NotIn)=false:=by cases op <;> first | rfl | exact absurd rfl h2
 cases b <;> simp[behindInMarks,e1,e2]
def tB(t:TE):TT:=λσ H Q=>t σ H λx H1=>∃c,x=.bl c/\Q c H1
theorem Ry{op:CmpOp}{t:TE}(h:PC X op a b t)(h1:behindInMarks op b=false:=by first | exact Sl _ (by decide) (by decide) | rfl):PT X (.Compare a [op] [b] pos) (tB t):=by
 intro pins s σ H Q I hw
 refine wpAny_isTrue_Compare1 (cM (h pins s σ H _ I hw) λv s1 h1=>cM h1 λu s2 h2=>cM h2 λc s3 ⟨x,H1,I1,r1,q1⟩=>?_) h1
 obtain⟨d,rfl,q⟩:=q1
 cases r1
 exact Aq ⟨H1,I1,q⟩
theorem Rx{e:Expr}{t:TE}(h:PE X e t)(he:∀whole,isTrue e X.env whole=(do let v <-whole;standAt e.pos;holding [v] (truthy v)):=by intro _;rfl):PT X e (tB t):=by
 intro pins s σ H Q I hw
 refine isTrue_plain (cM (h pins s σ H _ I hw) λv s1 ⟨x,H1,I1,r1,q1⟩=>?_) (he _)
 obtain⟨d,rfl,q⟩:=q1
 cases r1
 exact Aq ⟨H1,I1,q⟩
variable {tA U1:TT}{rest:List Expr}
def Qw(t u:TT):TT:=λσ H Q=>t σ H λc H1=>if c=true then u σ H1 Q else Q false H1
def tOr(t u:TT):TT:=λσ H Q=>t σ H λc H1=>if c=true then Q true H1 else u σ H1 Q
def Qr(t:TT):TT:=λσ H Q=>t σ H λc H1=>Q (!c) H1
theorem Wb(ha:PT X a tA):PW X (.BoolOp .And [a] pos) tA:=by
 intro wh pins s σ H Q I h
 refine isTrue_and (cM (ha pins s σ H Q I h) λc s1 e=>?_)
 cases c with
 | true=>exact isTrue_and_nil e
 | false=>exact e
theorem aAh(ha:PT X a tA):PW X (.BoolOp .Or [a] pos) tA:=by
 intro wh pins s σ H Q I h
 refine isTrue_or (cM (ha pins s σ H Q I h) λc s1 e=>?_)
 cases c with
 | false=>exact isTrue_or_nil e
 | true=>exact e
theorem aAi(ha:PT X a tA)(hb:PW X (.BoolOp .And (b::rest) pos) U1):PW X (.BoolOp .And (a::b::rest) pos) (Qw tA U1):=by
 intro wh pins s σ H Q I h
 refine isTrue_and (cM (ha pins s σ H _ I h) λc s1 ⟨H1,I1,q1⟩=>?_)
 cases c with
 | true=>exact hb wh pins s1 σ H1 Q I1 q1
 | false=>exact⟨H1,I1,q1⟩
theorem aCf(ha:PT X a tA)(hb:PW X (.BoolOp .Or (b::rest) pos) U1):PW X (.BoolOp .Or (a::b::rest) pos) (tOr tA U1):=by
 intro wh pins s σ H Q I h
 refine isTrue_or (cM (ha pins s σ H _ I h) λc s1 ⟨H1,I1,q1⟩=>?_)
 cases c with
 | true=>exact⟨H1,I1,q1⟩
 | false=>exact hb wh pins s1 σ H1 Q I1 q1
theorem aAj(ha:PT X a tA):PT X (.UnaryOp .Not a pos) (Qr tA):=by
 intro pins s σ H Q I h
 exact isTrue_not (ha pins s σ H (λc H1=>Q (!c) H1) I h)
def Qv(ta tb:TE):TE:=λσ H Q=>ta σ H λx H1=>∃c,x=.bl c/\if c=true then tb σ H1 Q else Q (.bl false) H1
def ZL(ta tb:TE):TE:=λσ H Q=>ta σ H λx H1=>∃c,x=.bl c/\if c=true then Q (.bl true) H1 else tb σ H1 Q
def Eb(ta:TE):TE:=λσ H Q=>ta σ H λx H1=>∃c,x=.bl c/\Q (.bl (!c)) H1
theorem aAv(ha:PE X a ta):PE X (.UnaryOp .Not a pos) (Eb ta):=by
 intro pins s σ H Q I h
 refine UnaryOp_ (cM (ha pins s σ H _ I h) λv s1 ⟨x,H1,I1,r1,q1⟩=>?_)
 obtain⟨c,rfl,q1⟩:=q1
 cases r1
 exact not_of (Aq ⟨.bl (!c),H1,I1,rfl,q1⟩)
def tIf(t:TT)(ta tb:TE):TE:=λσ H Q=>t σ H λc H1=>if c=true then ta σ H1 Q else tb σ H1 Q
end
end L2
namespace L2
open PySem PySem.Spec PyProof.Rows
def qi(K:PySem.W.Frag)(H:Hp)(a:Addr)(xs:List V):Prop:=
 Rd H a (.lst xs)\/
  ∃(o:Obj) (its:Array Value) (n:Nat),K.lookup a=some o/\o.cls=.type "list"/\o.dict=none/\o.data=.seq its n/\its.size<=sizeLine/\Vals xs its.toList
def y3(K:PySem.W.Frag)(H:Hp)(a:Addr)(xs:List V):Prop:=
 Rd H a (.tup xs)\/
  ∃(o:Obj) (its:Array Value) (n:Nat),K.lookup a=some o/\o.cls=.type "tuple"/\o.data=.seq its n/\its.size<=sizeLine/\Vals xs its.toList
def aHc:Value->Option V
 | .none=>some .non
 | .bool b=>some (.bl b)
 | .int i _=>some (.int i)
 | .str x _=>some (.str x)
 | .bytes b _=>some (.Px b)
 | .float b _=>some (.flt b)
 | .ref a=>some (.ref a)
 | .type n=>some (.ty n)
 | _=>none
theorem RelV.abs{x:V}{u:Value}(r:RelV x u):aHc u=some x:=by
 cases x with
 | non=>cases r;rfl
 | bl _=>cases r;rfl
 | int _=>obtain⟨t,rfl⟩:=r;rfl
 | str _=>obtain⟨t,rfl⟩:=r;rfl
 | Px _=>obtain⟨t,rfl⟩:=r;rfl
 | flt _=>obtain⟨t,rfl⟩:=r;rfl
 | ref _=>cases r;rfl
 | ty _=>cases r;rfl
theorem RelV.inj{x y:V}{u:Value}(r:RelV x u)(q:RelV y u):x=y:=dU (r.abs.symm.trans q.abs)
theorem Vals.inj:∀{xs ys:List V} {us:List Value},Vals xs us->Vals ys us->xs=ys
 | _,_,_,.nil,.nil=>rfl
 | _,_,_,.cons r t,.cons r' t'=>by rw[r.inj r',Vals.inj t t']
section
variable {X:Cx}{pins:List (Addr×Obj)}{σ:St}{H:Hp}{s:Shared}{a:Addr}{xs ys:List V}
theorem qi.of{K:PySem.W.Frag}(h:H a=some (.lst xs)):qi K H a xs:=.inl (.inl h)
theorem y3.of{K:PySem.W.Frag}(h:H a=some (.tup xs)):y3 K H a xs:=.inl (.inl h)
theorem Inv.list(I:Inv X pins σ H s)(h:qi X.K H a xs):∃its:List Value,Vals xs its/\PlainL s.heap a its.toArray/\xs.length<=sizeLine:=by
 rcases h with h | ⟨o,its,n,hk,hc,hd,hs,hz,r⟩
 ·obtain⟨z,its,n,r,e⟩:=h.ok I.bx
  exact⟨its,r,⟨_,n,e,rfl,rfl,rfl⟩,z⟩
 ·refine⟨its.toList,r,⟨o,n,I.qc a o hk,hc,hd,by simpa using hs⟩,?_⟩
  have e:=r.length
  simp only[dN]at e
  lia
theorem Inv.tuple(I:Inv X pins σ H s)(h:y3 X.K H a xs):∃its:List Value,Vals xs its/\IsTup s.heap a its.toArray/\xs.length<=sizeLine:=by
 rcases h with h | ⟨o,its,n,hk,hc,hs,hz,r⟩
 ·obtain⟨z,its,r,p⟩:=h.ok I.bx
  exact⟨its,r,p,z⟩
 ·refine⟨its.toList,r,⟨o,I.qc a o hk,hc,n,by simpa using hs⟩,?_⟩
  have e:=r.length
  simp only[dN]at e
  lia
theorem Inv.Fn(I:Inv X pins σ H s)(h:qi X.K H a xs)(h':qi X.K H a ys):xs=ys:=by
 obtain⟨its,r,⟨o,n,e,_,_,d⟩,_⟩:=I.list h
 obtain⟨its',r',⟨o',n',e',_,_,d'⟩,_⟩:=I.list h'
 rw[e]at e';cases e'
 rw[d]at d'
 injection d' with d1 _
 have:its=its':=by simpa using fZ Array.toList d1
 subst this
 exact r.inj r'
theorem Inv.M'(I:Inv X pins σ H s)(h:y3 X.K H a xs)(h':y3 X.K H a ys):xs=ys:=by
 obtain⟨its,r,⟨o,e,_,n,d⟩,_⟩:=I.tuple h
 obtain⟨its',r',⟨o',e',_,n',d'⟩,_⟩:=I.tuple h'
 rw[e]at e';cases e'
 rw[d]at d'
 injection d' with d1 _
 have:its=its':=by simpa using fZ Array.toList d1
 subst this
 exact r.inj r'
end
abbrev Cx.wish(X:Cx)(E:Value->Shared->Prop):Cx:={ X with xe:=E }
abbrev Cx.uw(X:Cx):Cx:=X.wish λ_ _=>False
theorem Cx.Ok.wish{X:Cx}(ok:X.Ok)(E:Value->Shared->Prop):(X.wish E).Ok:=
 ⟨ok.mod,ok.kind,ok.glob,ok.blt,ok.above,ok.inj,ok.has,ok.X5,ok.hd,ok.frames,ok.ZP,ok.exf,ok.bs,ok.G3,ok.Ey,ok.JK,ok.mr,ok.JD⟩
theorem Cx.Ok.nJ{X:Cx}{E:Value->Shared->Prop}(ok:(X.wish E).Ok):X.Ok:=
 ⟨ok.mod,ok.kind,ok.glob,ok.blt,ok.above,ok.inj,ok.has,ok.X5,ok.hd,ok.frames,ok.ZP,ok.exf,ok.bs,ok.G3,ok.Ey,ok.JK,ok.mr,ok.JD⟩
section
variable {X:Cx}{pins:List (Addr×Obj)}{σ:St}{H:Hp}{s:Shared}{E:Value->Shared->Prop}
theorem Inv.wish(I:Inv X pins σ H s)(E:Value->Shared->Prop):Inv (X.wish E) pins σ H s:=⟨I.ok.wish E,I.os,I.bare,I.base,I.loc,I.cell,I.free,I.gx,I.pin,I.bx,I.len⟩
theorem Inv.nJ(I:Inv (X.wish E) pins σ H s):Inv X pins σ H s:=⟨I.ok.nJ,I.os,I.bare,I.base,I.loc,I.cell,I.free,I.gx,I.pin,I.bx,I.len⟩
theorem SP.nJ{D:Ends}{f:Flow}{s':Shared}(h:SP (X.wish E) pins D f s'):SP X pins D f s':=by
 cases f with
 | next=>obtain⟨σ',H',I,q⟩:=h;exact⟨σ',H',I.nJ,q⟩
 | brk=>obtain⟨σ',H',I,q⟩:=h;exact⟨σ',H',I.nJ,q⟩
 | cont=>obtain⟨σ',H',I,q⟩:=h;exact⟨σ',H',I.nJ,q⟩
 | ret u=>obtain⟨v,σ',H',I,r,q⟩:=h;exact⟨v,σ',H',I.nJ,r,q⟩
theorem yC.uw{st:List Stmt}{t:TS}(h:yC X.uw st t):yC X st t:=λpins s σ H D I hw=>
 dk (h pins s σ H D (I.wish _) hw) (λ_ _ q=>q.nJ) λ_ _ z=>False.elim z
end
section
variable {X:Cx}{st:Stmt}{rest:List Stmt}{t u:TS}{e:Expr}{te:TE}{pos:Pos}
def zk:TS:=λD σ H=>D.nx σ H
def tSeq(t u:TS):TS:=λD σ H=>t { D with nx:=u D } σ H
theorem Wf:yC X [] zk:=λ_ _ σ H _ I h=>Al ⟨σ,H,I,h⟩
theorem Rz(h1:PS X st t)(h2:yC X rest u):yC X (st::rest) (tSeq t u):=by
 intro pins s σ H D I h
 refine wpAny_execs_cons (cM (h1 pins s σ H { D with nx:=u D } I h) λf s1 q=>?_)
 cases f with
 | next=>
  obtain⟨σ',H',I',q⟩:=q
  exact h2 pins s1 σ' H' D I' q
 | ret v=>exact q
 | brk=>exact q
 | cont=>exact q
theorem Wd(h1:PS X st t):yC X [st] t:=by
 intro pins s σ H D I h
 refine wpAny_execs_cons (cM (h1 pins s σ H D I h) λf s1 q=>?_)
 cases f with
 | next=>exact Al q
 | ret v=>exact q
 | brk=>exact q
 | cont=>exact q
theorem Inv.quiet{pins:List (Addr×Obj)}{σ:St}{H:Hp}{s:Shared}(I:Inv X pins σ H s):interactive X.env=false:=by simp[interactive,I.ok.kind]
def Ec(te:TE):TS:=λD σ H=>te σ H λ_ H1=>D.nx σ H1
theorem KZ(he:PE X e te)(hs:swapsWith e none pos.line X.env=pure false:=by rfl):PS X (.Expr e pos) (Ec te):=by
 intro pins s σ H D I h
 exact wpAny_Expr_any (cM (he pins s σ H _ I h) λv s1 ⟨x,H1,I1,r1,q1⟩=>⟨σ,H1,I1,q1⟩) I.quiet hs
def Qp(te:TE):TS:=λD σ H=>te σ H D.rt
theorem aAl(he:PE X e te):PS X (.Return (some e) pos) (Qp te):=by
 intro pins s σ H D I h
 exact wpAny_Return_some (cM (he pins s σ H _ I h) λv s1 ⟨x,H1,I1,r1,q1⟩=>⟨x,σ,H1,I1,r1,q1⟩)
def Qo:TS:=λD _ H=>D.rt .non H
def Nf(c:TT)(t u:TS):TS:=λD σ H=>c σ H λb H1=>if b=true then t D σ H1 else u D σ H1
theorem aCg{c:Expr}{a b:List Stmt}{tc:TT}(hc:PT X c tc)(ha:yC X a t)(hb:yC X b u):PS X (.If c a b pos) (Nf tc t u):=by
 intro pins s σ H D I h
 refine wpAny_If (cM (hc pins s σ H _ I h) λd s1 ⟨H1,I1,q1⟩=>?_)
 cases d with
 | true=>exact ha pins s1 σ H1 D I1 q1
 | false=>exact hb pins s1 σ H1 D I1 q1
def wU:TS:=λ_ _ _=>False
theorem RC:PS X st wU:=λ_ _ _ _ _ _ h=>h.elim
end
abbrev TG:=V->St->Hp->(St->Hp->Prop)->Prop
abbrev TGs:=List V->St->Hp->(St->Hp->Prop)->Prop
def PG(X:Cx)(target:Expr)(t:TG):Prop:=
 ∀(pins:List (Addr×Obj)) (s:Shared) (σ:St) (H:Hp) (v:V) (u:Value) (Q:St->Hp->Prop),Inv X pins σ H s->RelV v u->t v σ H Q->
  wpAny (model X.prog X.w) X.A (assign target X.env u) (λ_ s'=>∃σ' H',Inv X pins σ' H' s'/\Q σ' H') X.xe s
abbrev J6:=V->V->V->Hp->(Hp->Prop)->Prop
def Pb(X:Cx)(t:J6):Prop:=
 ∀(pins:List (Addr×Obj)) (s:Shared) (σ:St) (H:Hp) (o i v:V) (ov iv u:Value) (Q:Hp->Prop),Inv X pins σ H s->RelV o ov->RelV i iv->RelV v u->t o i v H Q->
  wpAny (model X.prog X.w) X.A (setItem ov iv u) (λ_ s'=>∃H',Inv X pins σ H' s'/\Q H') X.xe s
abbrev Yd:=V->V->Hp->VK->Prop
def PIp(X:Cx)(op:Operator)(t:Yd):Prop:=
 ∀(pins:List (Addr×Obj)) (s:Shared) (σ:St) (H:Hp) (x y:V) (v u:Value) (Q:VK),Inv X pins σ H s->RelV x v->RelV y u->t x y H Q->
  wpAny (model X.prog X.w) X.A (inplaceOp op v u) (EP X pins σ Q) X.xe s
section
variable {X:Cx}{pos:Pos}
def dR(i:Nat):TG:=λv σ H Q=>Q (σ.set i (some v)) H
theorem K7{i:Nat}{x:Str}(hN:X.N.Nodup)(hi:X.N[i]?=some x)(hx:Loc X.env.scope x)(hf:X.fn x=true\/X.env.scope.names.lookup x=some .local:=by first | exact .inl rfl | exact .inr rfl | assumption):PG X (.Name x pos) (dR i):=by
 intro pins s σ H v u Q I r h
 exact wpAny_assign_Name (sQ I hN hi hx r (λs' I'=>⟨_,H,I',h⟩) hf)
def aDt:TGs:=λvs σ H Q=>vs=[]/\Q σ H
def Zi(t:TG)(u:TGs):TGs:=λvs σ H Q=>∃v r,vs=v::r/\t v σ H λσ' H'=>u r σ' H' Q
def aDs(K:PySem.W.Frag)(n:Nat)(t:TGs):TG:=λv σ H Q=>∃a xs,v=.ref a/\y3 K H a xs/\xs.length=n/\t xs σ H Q
def T2(to ti:TE)(t:J6):TG:=λv σ H Q=>to σ H λo H1=>ti σ H1 λi H2=>t o i v H2 λH3=>Q σ H3
theorem RL{o i:Expr}{to ti:TE}{t:J6}(ho:PE X o to)(hi:PE X i ti)(hs:Pb X t)
  (ha:∀v,assign (.Subscript o i pos) X.env v=(do
   let ov <-holding [v] (eval o X.env)
   let iv <-holding [v,ov] (eval i X.env)
   standAt pos
   holding [v,ov,iv] (setItem ov iv v)
   release [v,ov,iv] []):=by intro _;rfl):PG X (.Subscript o i pos) (T2 to ti t):=by
 intro pins s σ H v u Q I r h
 rw[ha]
 refine ay (jh (cM (ho pins s σ H _ I h) λov s1 ⟨x,H1,I1,r1,q1⟩=>?_))
 refine ay (jh (cM (hi pins s1 σ H1 _ I1 q1) λiv s2 ⟨y,H2,I2,r2,q2⟩=>?_))
 refine ay (t6 (ay (jh (cM (hs pins s2 σ H2 x y v ov iv u _ I2 r1 r2 r q2) λ_ s3 ⟨H3,I3,q3⟩=>?_))))
 exact wpAny_release ⟨σ,H3,I3,q3⟩
def wZ(te:TE)(g:TG):TS:=λD σ H=>te σ H λx H1=>g x σ H1 D.nx
theorem Cj{tg e:Expr}{te:TE}{g:TG}(he:PE X e te)(hg:PG X tg g)(hs:swapsWithSole [tg] e pos.line X.env=pure false:=by rfl)(hw:swappedStores [tg] e X.env=pure none:=by rfl)
  (h1:(assignEach [tg] X.env).map (·.2)=[assign tg X.env]:=by rfl):PS X (.Assign [tg] e pos) (wZ te g):=by
 intro pins s σ H D I h
 refine wpAny_Assign_stores (cM (he pins s σ H _ I h) λv s1 ⟨x,H1,I1,r1,q1⟩=>?_) hs hw
 rw[h1]
 exact cM (hg pins s1 σ H1 x v _ I1 r1 q1) λ_ s2 q=>q
theorem aAk{i:Nat}{x:Str}{e:Expr}{te:TE}{pos':Pos}(hN:X.N.Nodup)(hi:X.N[i]?=some x)(hx:Loc X.env.scope x)(he:PE X e te)(hs:swapsWith e (some (.Name x pos')) pos.line X.env=pure false:=by rfl)(hf:X.fn x=true\/X.env.scope.names.lookup x=some .local:=by first | exact .inl rfl | exact .inr rfl | assumption) :
  PS X (.Assign [.Name x pos'] e pos) (wZ te (dR i)):=by
 intro pins s σ H D I h
 refine wpAny_Assign_Name (cM (he pins s σ H _ I h) λv s1 ⟨y,H1,I1,r1,q1⟩=>?_) hs
 exact sQ I1 hN hi hx r1 (λs2 I2=>⟨_,H1,I2,q1⟩) hf
def aBY(i j:Nat)(ta:TA):TS:=λD σ H=>ta σ H λvs H1=>∃v w,vs=[v,w]/\D.nx ((σ.set i (some v)).set j (some w)) H1
def Vu(i:Nat)(te:TE)(ti:Yd):TS:=λD σ H=>∃x,σ[i]?=some (some x)/\te σ H λy H1=>ti x y H1 λz H2=>D.nx (σ.set i (some z)) H2
theorem aAp{i:Nat}{x:Str}{e:Expr}{te:TE}{op:Operator}{ti:Yd}{pos':Pos}(hN:X.N.Nodup)(hi:X.N[i]?=some x)(hx:Loc X.env.scope x)(he:PE X e te)(ho:PIp X op ti)(hf:X.fn x=true\/X.env.scope.names.lookup x=some .local:=by first | exact .inl rfl | exact .inr rfl | assumption) :
  PS X (.AugAssign (.Name x pos') op e pos) (Vu i te ti):=by
 intro pins s σ H D I h
 obtain⟨v,e1,h⟩:=h
 obtain⟨m,hn,hl⟩:=I.loc
 have vis:Vis X.env.scope x:=by rcases hx with k | k;exact .inl k;exact .inr (.inl k)
 obtain⟨u,r,l⟩:=hl i x v hi e1 vis
 refine wpAny_AugAssign_Name ?_
 have go:wpAny (model X.prog X.w) X.A (eval e X.env) (λw s₂=>wpAny (model X.prog X.w) X.A (inplaceOp op u w) (λr s₃=>wpAny (model X.prog X.w) X.A (storeName X.env x r) (λ_=>SP X pins D .next) X.xe s₃) X.xe s₂) X.xe s:=by
  refine cM (he pins s σ H _ I h) λw s1 ⟨y,H1,I1,r1,q1⟩=>?_
  refine cM (ho pins s1 σ H1 v y u w _ I1 r r1 q1) λz s2 ⟨zv,H2,I2,r2,q2⟩=>?_
  exact sQ I2 hN hi hx r2 (λs3 I3=>⟨_,H2,I3,q2⟩) hf
 rcases l with ⟨hk,hm⟩ | ⟨hk,c,hc,qf⟩
 ·exact wpAny_loadName_local I.ok.kind hk hn hm go
 ·rcases hk with hk | hk
  ·exact wpAny_loadName_cell I.ok.kind hk hc qf go
  ·rcases hx with k | k
   ·have:X.env.scope.names.lookup x=some .free:=hk
    rw[k]at this;cases this
   ·have:X.env.scope.names.lookup x=some .free:=hk
    rw[k]at this;cases this
def Ed(to ti te:TE)(HD:V->V->Hp->VK->Prop)(ZD:Yd)(HB:J6):TS:=λD σ H=>to σ H λo H1=>ti σ H1 λi H2=>HD o i H2 λx H3=>te σ H3 λy H4=>ZD x y H4 λz H5=>HB o i z H5 λH6=>D.nx σ H6
def aBJ(X:Cx)(t:V->V->Hp->VK->Prop):Prop:=
 ∀(pins:List (Addr×Obj)) (s:Shared) (σ:St) (H:Hp) (o i:V) (ov iv:Value) (Q:VK),Inv X pins σ H s->RelV o ov->RelV i iv->t o i H Q->
  wpAny (model X.prog X.w) X.A (getItem ov iv) (EP X pins σ Q) X.xe s
theorem K0{o i e:Expr}{to ti te:TE}{HD:V->V->Hp->VK->Prop}{ZD:Yd}{HB:J6}{op:Operator}{Qi:Pos}(ho:PE X o to)(hi:PE X i ti)(hg:aBJ X HD)(he:PE X e te)(hp:PIp X op ZD)(hs:Pb X HB)
  (ha:∀ov iv new,augStore i ov iv new=(do holding [new,ov,iv] (setItem ov iv new);release [new,ov,iv] [];pure .next):=by intros;rfl):PS X (.AugAssign (.Subscript o i Qi) op e pos) (Ed to ti te HD ZD HB):=by
 intro pins s σ H D I h
 refine wpAny_AugAssign_SubscriptAny (cM (ho pins s σ H _ I h) λov s1 ⟨x1,H1,I1,r1,q1⟩=>?_) ha
 refine cM (hi pins s1 σ H1 _ I1 q1) λiv s2 ⟨x2,H2,I2,r2,q2⟩=>?_
 refine cM (hg pins s2 σ H2 x1 x2 ov iv _ I2 r1 r2 q2) λold s3 ⟨x3,H3,I3,r3,q3⟩=>?_
 refine cM (he pins s3 σ H3 _ I3 q3) λv s4 ⟨x4,H4,I4,r4,q4⟩=>?_
 refine cM (hp pins s4 σ H4 x3 x4 old v _ I4 r3 r4 q4) λnew s5 ⟨x5,H5,I5,r5,q5⟩=>?_
 exact cM (hs pins s5 σ H5 x1 x2 x5 ov iv new _ I5 r1 r2 r5 q5) λ_ s6 ⟨H6,I6,q6⟩=>⟨σ,H6,I6,q6⟩
def ipI(f:Int->Int->Int):Yd:=λx y H Q=>∃i j,x=.int i/\y=.int j/\Q (.int (f i j)) H
theorem S4:PIp X .Add (ipI λi j=>i+j):=by
 intro pins s σ H x y v u Q I r1 r2 h
 obtain⟨i,j,e1,e2,q⟩:=h
 subst e1;subst e2
 obtain⟨t,rfl⟩:=r1
 obtain⟨t',rfl⟩:=r2
 exact iadd_int ⟨.int _,H,I.tok _,⟨_,rfl⟩,q⟩
theorem aAY:PIp X .Sub (ipI λi j=>i-j):=by
 intro pins s σ H x y v u Q I r1 r2 h
 obtain⟨i,j,e1,e2,q⟩:=h
 subst e1;subst e2
 obtain⟨t,rfl⟩:=r1
 obtain⟨t',rfl⟩:=r2
 exact isub_int ⟨.int _,H,I.tok _,⟨_,rfl⟩,q⟩
def HF(c:TT)(tb:TS):TS:=λD σ H=>∃W:Nat->St->Hp->Prop,(∃m,W m σ H)/\∀m σ H,W m σ H->
 c σ H λb H1=>if b=true then ∃N:St->Hp->Prop,(∀σ' H',N σ' H'->∃m',m'<m/\W m' σ' H')/\tb { D with nx:=N,ct:=N,bk:=D.nx } σ H1 else D.nx σ H1
theorem RB{c:Expr}{body:List Stmt}{tc:TT}{tb:TS}(hp:PassesOwn (model X.prog X.w) X.A X.env X.xe)(hc:PT X c tc)(hb:yC X body tb):PS X (.While c body [] pos) (HF tc tb):=by
 intro pins s σ H D I h
 obtain⟨W,⟨m0,w0⟩,turn⟩:=h
 refine wpAny_While (codeAny_whileLoop (λn s'=>∃σ' H',Inv X pins σ' H' s'/\W n σ' H') ?_ m0 ⟨σ,H,I,w0⟩)
 rintro n s1 ⟨σ1,H1,I1,w1⟩
 refine qt hp (cM (hc pins s1 σ1 H1 _ I1 (turn n σ1 H1 w1)) λb s2 ⟨H2,I2,q2⟩=>?_)
 cases b with
 | true=>
  obtain⟨N,hN,q2⟩:=q2
  rw[aC rfl]
  refine qt hp (cM (hb pins s2 σ1 H2 _ I2 q2) λf s3 q3=>?_)
  cases f with
  | next=>
   obtain⟨σ3,H3,I3,n3⟩:=q3
   obtain⟨m',hm,w3⟩:=hN σ3 H3 n3
   exact⟨m',hm,σ3,H3,I3,w3⟩
  | cont=>
   obtain⟨σ3,H3,I3,n3⟩:=q3
   obtain⟨m',hm,w3⟩:=hN σ3 H3 n3
   exact⟨m',hm,σ3,H3,I3,w3⟩
  | brk=>exact q3
  | ret v=>exact q3
 | false=>
  rw[aB fi]
  exact Al ⟨σ1,H2,I2,q2⟩
end
def iS(A:Around)(h:Heap):Prop:=A.handled=none\/∃e o vs,A.handled=some (.ref e)/\h.get? e=some o/\o.data=.fields vs/\vs[2]?=some .none
theorem iS.keep{A:Around}{h h':Heap}(x:iS A h)(k:∀e,A.handled=some (.ref e)->∀o,h.get? e=some o->h'.get? e=some o):iS A h':=by
 rcases x with x | ⟨e,o,vs,x,y,z⟩
 ·exact .inl x
 ·exact .inr ⟨e,o,vs,x,k e x o y,z⟩
section
variable {prog:Program}{w:World}{A:Around}{E:Value->Shared->Prop}{s:Shared}
theorem Bp{v:Value}{e:Addr}{o:Obj}{vs:Array Value}{Q:Value->Shared->Prop}(he:s.heap.get? e=some o)(hd:o.data=.fields vs)(h2:vs[2]?=some .none)(h:Q .none s) :
  wpAny (model prog w) A (runValue (.builtin "proto.unchain" ⟨[v,.ref e,.ref e,.bool false],[]⟩)) Q E s:=by
 refine v8 (pQ (b:=Builtin.«proto.unchain») (entryFor_of_tree (by kernel_rfl)) ?_)
 show wpAny _ _ (field (.ref e) 2 >>= _) _ _ s
 refine ay (ib he hd h2 ?_)
 refine t8 (λ_=>?_) λz=>absurd rfl z
 first | exact aJ h | exact ay (aJ h)
theorem Ia{α:Type}{x:Addr}{ox:Obj}{vx:Array Value}{Q:α->Shared->Prop}(hh:iS A s.heap)(hx:s.heap.get? x=some ox)(dx:ox.data=.fields vx)(zx:2<vx.size)(ne:A.handled≠some (.ref x))
  (h:∀h',(∀b o,b≠x->s.heap.get? b=some o->h'.get? b=some o)->(∃Zx,h'.get? x=some { ox with data:=.fields Zx })->E (.ref x) { s with heap:=h' }):wpAny (model prog w) A (raiseNew (.ref x):Sem α) Q E s:=by
 unfold raiseNew
 refine ay (wpAny_handled ?_)
 rcases hh with hh | ⟨e,o,vs,hh,he,hd,h2⟩
 ·rw[hh]
  refine ay (aJ (wpAny_throw ?_))
  have:=h s.heap (λ_ _ _ z=>z) ⟨vx,by rw[hx];obtain⟨a,b,c,d⟩:=ox;simp only at dx;subst dx;rfl⟩
  exact this
 ·rw[hh]
  have nex:e≠x:=λz=>ne (by rw[hh,z])
  refine t8 (λ_=>?_) λz=>absurd (by simp[nex]) z
  refine ay (jh (Bp he hd h2 ?_))
  unfold updateField
  refine ay (ay (wpAny_load hx ?_))
  rw[dx]
  refine t8 (λ_=>?_) λz=>absurd zx z
  refine wpAny_update hx ?_
  refine wpAny_throw (h _ (λb o hb z=>(mP _ _ hb.symm).trans z) ⟨vx.setIfInBounds 2 (.ref e),?_⟩)
  have d3:=uW dx (·.setIfInBounds 2 (Value.ref e))
  rw[mO (Obj.mapFields (·.setIfInBounds 2 (Value.ref e))) hx (wu d3)]
  obtain⟨oc,od,oda,Dv⟩:=ox
  dsimp only at dx
  subst dx
  rfl
theorem iS.old{h:Heap}(x:iS A h){b:Addr}(hb:h.objs.size<=b):A.handled≠some (.ref b):=λz=>by
 rcases x with x | ⟨e,o,vs,x,y,_⟩
 ·rw[x]at z;cases z
 ·rw[x]at z;cases z
  exact absurd (bC y) (kj.mpr hb)
theorem By{α:Type}{hp:Heap}{o1 o2:Obj}{vx:Array Value}{Q:α->Shared->Prop}{E':Value->Shared->Prop}(hh:iS A hp)(f2:o2.isFreed=false)(d2:o2.data=.fields vx)(z2:2<vx.size)
  (h:∀h',(∀b o,hp.get? b=some o->h'.get? b=some o)->(∃Zx,h'.get? (hp.push o1).objs.size=some { o2 with data:=.fields Zx })->E' (.ref (hp.push o1).objs.size) { s with heap:=h' }) :
  wpAny (model prog w) A (raiseNew (.ref (hp.push o1).objs.size):Sem α) Q E' { s with heap:=(hp.push o1).push o2 }:=by
 have k:∀b o,hp.get? b=some o->((hp.push o1).push o2).get? b=some o:=λb o z=>bR _ (bR _ z)
 have sz:hp.objs.size<=(hp.push o1).objs.size:=by simp[Heap.push]
 refine Ia (s:={ s with heap:=(hp.push o1).push o2 }) (hh.keep λe _ o z=>k e o z) (cH _ f2) d2 z2 (hh.old sz) (λh' kp hx=>h h' (λb o z=>kp b o (λy=>?_) (k b o z)) hx)
 have:=bC z
 rw[y]at this
 exact absurd this (kj.mpr sz)
theorem Hz{it t:Addr}{i:Nat}{items:Array Value}{Q:Option Value->Shared->Prop}(hh:iS A s.heap)(ni:A.handled≠some (.ref it))
  (hit:s.heap.IsTupleIter it t i) (ht:s.heap.IsTuple t items) (hx:items[i]?=none)
  (hQ:∀h',Heap.ExtBut it s.heap h'->Q none { s with heap:=h' }):wpAny (model prog w) A (pyNext (.ref it)) Q E s:=by
 obtain⟨o,ho,hc,hd⟩:=id hit
 obtain⟨ol,Xh,_,nl,Pn⟩:=ht
 unfold pyNext
 refine ay (lO (pU (name:=Str.ofString "__next__") hit.typeIs PN
  (ji PN hit.typeIs PySem.F.entry_tuple_iterator_next ?_ (PySem.F.args_tuple_iterator_next_1 _))))
 show wpAny _ _ (field (.ref it) 0 >>= _) _ _ s
 refine ay (ib ho hd (x:=.ref t) rfl ?_)
 show wpAny _ _ (if (Value.ref t==Value.none)=true then _ else _) _ _ s
 rw[aB (show ¬((Value.ref t==Value.none)=true) from fi)]
 show wpAny _ _ (field (.ref it) 1 >>= _) _ _ s
 refine ay (ib ho hd (x:=.int i 0) rfl ?_)
 show wpAny _ _ (seqItems? (.ref t) >>= _) _ _ s
 refine ay (wpAny_seqItems Xh Pn ?_)
 simp only[pR,hx]
 refine ay (lN (ay (qp ho hd (by simp) ?_)))
 show wpAny _ _ (newExc (.type "StopIteration") [] >>= _) _ _ _
 refine ay ?_
 simp only[newExc,newTuple]
 refine ay (eZ ?_ (by size_fits))
 refine ay (m:=firstArgMember _ _) (kl (a:=Value.none) (by first | rfl | (simp only[firstArgMember];rfl)) ?_)
 refine eZ ?_ (by size_fits)
 refine By (A:=A.in1) (hh.keep λe he o z=>(mP _ _ (λy=>ni (by rw[he,y]))).trans z) rfl rfl (by simp;omega) λh' kp ⟨Zx,Jt⟩=>?_
 refine ay (uV (T:="StopIteration") (b:=true) ⟨_,Jt,rfl⟩ qo ?_)
 exact aJ (hQ _ λb o hb z=>kp b o ((sj ..).extBut b o hb z))
theorem zM{it l:Addr}{i:Nat}{items:Array Value}{Q:Option Value->Shared->Prop}(hh:iS A s.heap)(ni:A.handled≠some (.ref it))
  (hit:s.heap.IsListIter it l i) (hl:s.heap.IsList l items) (hx:items[i]?=none)
  (hQ:∀h',Heap.ExtBut it s.heap h'->Q none { s with heap:=h' }):wpAny (model prog w) A (pyNext (.ref it)) Q E s:=by
 obtain⟨o,ho,hc,hd⟩:=id hit
 obtain⟨ol,Xh,_,nl,Pn⟩:=hl
 unfold pyNext
 refine ay (lO (pU (name:=Str.ofString "__next__") hit.typeIs slot_listiter_next
  (ji slot_listiter_next hit.typeIs entry_listiter_next ?_ (args_listiter_next _))))
 show wpAny _ _ (field (.ref it) 0 >>= _) _ _ s
 refine ay (ib ho hd (x:=.ref l) rfl ?_)
 show wpAny _ _ (if (Value.ref l==Value.none)=true then _ else _) _ _ s
 rw[aB (show ¬((Value.ref l==Value.none)=true) from fi)]
 show wpAny _ _ (field (.ref it) 1 >>= _) _ _ s
 refine ay (ib ho hd (x:=.int i 0) rfl ?_)
 show wpAny _ _ (seqItems? (.ref l) >>= _) _ _ s
 refine ay (wpAny_seqItems Xh Pn ?_)
 simp only[pR,hx]
 refine ay (lN (ay (qp ho hd (by simp) ?_)))
 show wpAny _ _ (newExc (.type "StopIteration") [] >>= _) _ _ _
 refine ay ?_
 simp only[newExc,newTuple]
 refine ay (eZ ?_ (by size_fits))
 refine ay (m:=firstArgMember _ _) (kl (a:=Value.none) (by first | rfl | (simp only[firstArgMember];rfl)) ?_)
 refine eZ ?_ (by size_fits)
 refine By (A:=A.in1) (hh.keep λe he o z=>(mP _ _ (λy=>ni (by rw[he,y]))).trans z) rfl rfl (by simp;omega) λh' kp ⟨Zx,Jt⟩=>?_
 refine ay (uV (T:="StopIteration") (b:=true) ⟨_,Jt,rfl⟩ qo ?_)
 exact aJ (hQ _ λb o hb z=>kp b o ((sj ..).extBut b o hb z))
theorem HY{it:Addr}{x left step:Int}{Q:Option Value->Shared->Prop}(hh:iS A s.heap)(hit:IsRangeIter s.heap it x left step)(aCU:left<=0)
  (hQ:∀h',Heap.ExtBut it s.heap h'->Q none { s with heap:=h' }):wpAny (model prog w) A (pyNext (.ref it)) Q E s:=by
 have hT:s.TypeIs (.ref it) "range_iterator":=⟨_,hit,rfl⟩
 unfold pyNext
 refine ay (lO (pU (name:=Str.ofString "__next__") hT PL
  (ji PL hT PySem.F.entry_range_iterator_next ?_ (PySem.F.args_range_iterator_next_1 _))))
 show wpAny _ _ (field (.ref it) 0 >>= _) _ _ s
 refine ay (ib hit rfl (x:=rawInt x) rfl ?_)
 show wpAny _ _ (field (.ref it) 1 >>= _) _ _ s
 refine ay (ib hit rfl (x:=rawInt left) rfl ?_)
 show wpAny _ _ (field (.ref it) 2 >>= _) _ _ s
 refine ay (ib hit rfl (x:=rawInt step) rfl ?_)
 show wpAny _ _ (if left<=0 then _ else _) _ _ s
 rw[aC aCU]
 refine ay (lN ?_)
 refine ay ?_
 show wpAny _ _ (newExc (.type "StopIteration") [] >>= _) _ _ _
 refine ay ?_
 simp only[newExc,newTuple]
 refine ay (eZ ?_ (by size_fits))
 refine ay (m:=firstArgMember _ _) (kl (a:=Value.none) (by first | rfl | (simp only[firstArgMember];rfl)) ?_)
 refine eZ ?_ (by size_fits)
 refine By (A:=A.in1) hh rfl rfl (by simp;omega) λh' kp ⟨Zx,Jt⟩=>?_
 refine ay (uV (T:="StopIteration") (b:=true) ⟨_,Jt,rfl⟩ qo ?_)
 exact aJ (hQ _ λb o _ z=>kp b o z)
end
section
variable {X:Cx}{pins:List (Addr×Obj)}{σ:St}{H:Hp}{s:Shared}
theorem G6.now(x:G6 X)(I:Inv X pins σ H s):iS X.A s.heap:=by
 rcases x with x | ⟨e,o,vs,x,y,n,f,g,d⟩
 ·exact .inl x
 ·exact .inr ⟨e,o,vs,x,I.base.keep e o y n f g,d⟩
theorem G6.fresh(x:G6 X){b:Addr}(h:b∈X.ex\/X.s₀.heap.objs.size<=b):X.A.handled≠some (.ref b):=λz=>by
 rcases x with x | ⟨e,o,vs,x,y,n,f,g,d⟩
 ·rw[x]at z;cases z
 ·rw[x]at z;cases z
  rcases h with h | h
  ·exact g h
  ·exact absurd (bC y) (kj.mpr h)
end
structure It where
 go:Nat->Hp->Prop
 M3:Nat->Hp->V->Hp->Prop
 stop:Nat->Hp->Prop
def y8(X:Cx)(pins:List (Addr×Obj))(H:Hp)(b:Addr):Prop:=
 H b=none/\b≠X.env.locals/\b∉X.fs/\(b∈X.ex\/X.s₀.heap.objs.size<=b)/\(∀x c,X.env.cells.lookup x=some c->c≠b)/\∀p∈X.pn++pins,p.1≠b
theorem Inv.Xy{X:Cx}{pins:List (Addr×Obj)}{σ:St}{H H':Hp}{s:Shared}{b:Addr}(I:Inv X pins σ H s)(hb:s.heap.objs.size<=b)(hn:H' b=none):y8 X pins H' b:=by
 refine⟨hn,jK (cV I.lt hb),I.aCt hb,.inr (fJ I.sz hb),λx c e z=>?_,λp hp z=>?_⟩
 ·obtain⟨v,q⟩:=I.cell x c e
  exact absurd (cV q.lt (by rw[z];exact hb)) (iJ _)
 ·exact absurd (cV (bC (I.pin p hp).1) (by rw[z];exact hb)) (iJ _)
structure Turn(P:Program)(w:World)(K:PySem.W.Frag)(tg:Expr)(J:It)(fp:List Addr)(it:Addr)(tn:Nat->Heap->Prop):Prop where
 mem:it∈fp
 obj:∀i h,tn i h->∀b∈fp,∃o,h.get? b=some o/\∀v,o.data≠.cell v
 keep:∀i h h',tn i h->(∀b∈fp,∀o,h.get? b=some o->h'.get? b=some o)->tn i h'
 item:∀(X:Cx),X.prog=P->X.w=w->X.K=K->X.calm=true->∀(i:Nat) (pins:List (Addr×Obj)) (s:Shared) (σ:St) (H:Hp) (E:Value->Shared->Prop),Inv X pins σ H s->(∀b∈fp,y8 X pins H b)->tn i s.heap->J.go i H->
  wpAny (model P w) X.A (pyNext (.ref it)) (λr s1=>∃u,r=some u/\
   wpAny (model P w) X.A (letOwnedTupleGo tg (.ref it) u) (λ_ s2=>∃x H',Inv X pins σ H' s2/\RelV x u/\J.M3 i H x H'/\tn (i+1) s2.heap/\∀b∈fp,H' b=none) E s1) E s
 done:∀(X:Cx),X.prog=P->X.w=w->X.K=K->X.calm=true->∀(i:Nat) (pins:List (Addr×Obj)) (s:Shared) (σ:St) (H:Hp) (E:Value->Shared->Prop),Inv X pins σ H s->(∀b∈fp,y8 X pins H b)->tn i s.heap->J.stop i H->
  wpAny (model P w) X.A (pyNext (.ref it)) (λr s1=>r=none/\Inv X pins σ H s1) E s
 self:∀(A:Around) (i:Nat) (s:Shared) (Q:Value->Shared->Prop) (E:Value->Shared->Prop),tn i s.heap->Q (.ref it) s->wpAny (model P w) A (pyIter (.ref it)) Q E s
abbrev TI:=St->Hp->(It->Hp->Prop)->Prop
def PIE(X:Cx)(pins:List (Addr×Obj))(σ:St)(tg:Expr)(R:It->Hp->Prop)(itv:Value)(s2:Shared):Prop:=
 ∃(it:Addr) (fp:List Addr) (tn:Nat->Heap->Prop) (J:It) (H':Hp),itv=.ref it/\Inv X pins σ H' s2/\Turn X.prog X.w X.K tg J fp it tn/\tn 0 s2.heap/\(∀b∈fp,y8 X pins H' b)/\R J H'
def PI(X:Cx)(tg iter:Expr)(wi:TI):Prop:=
 ∀(pins:List (Addr×Obj)) (s:Shared) (σ:St) (H:Hp) (R:It->Hp->Prop),Inv X pins σ H s->wi σ H R->
  wpAny (model X.prog X.w) X.A (eval iter X.env) (λv s1=>wpAny (model X.prog X.w) X.A (pyIter v) (PIE X pins σ tg R) X.xe s1) X.xe s
theorem Ls{M : Model}{A : Around}{E : Value → Shared → Prop}{s : Shared}{tg : Expr}{it : Addr}{u : Value}{o : Obj}{n : String}{vs : Array Value}{Q : Unit → Shared → Prop}(ho : s.heap.get? it=some o)(hc : o.cls=.type n)(hd : o.data=.fields vs)
    (hn : ["enumerate", "zip", "dict_itemiterator", "dict_reverseitemiterator", "odict_iterator", "itertools.zip_longest", "itertools.pairwise"].contains n=false) (hQ : Q () s) : wpAny M A (letOwnedTupleGo tg (.ref it) u) Q E s := by
  unfold letOwnedTupleGo
  cases tg <;> first
    | exact aJ hQ
    | (cases u <;> first
        | exact aJ hQ
        | (refine ay (wpAny_load ho ?_)
           rw[hc, hd]
           show wpAny M A (if (["enumerate", "zip", "dict_itemiterator", "dict_reverseitemiterator", "odict_iterator", "itertools.zip_longest", "itertools.pairwise"].contains n&&vs[0]? == some (rawInt _))=true then _ else _) Q E s
           rw[aB (by intro h; rw[hn, v9]at h; cases h)]
           exact aJ hQ))
def J9(K:PySem.W.Frag)(a:Addr):It:=
 ⟨λi H=>∃xs x,qi K H a xs/\xs[i]?=some x,λi H x H'=>H'=H/\∀xs,qi K H a xs->xs[i]?=some x,λi H=>∃xs,qi K H a xs/\xs.length<=i⟩
def Yh(K:PySem.W.Frag)(a:Addr):It:=
 ⟨λi H=>∃xs x,y3 K H a xs/\xs[i]?=some x,λi H x H'=>H'=H/\∀xs,y3 K H a xs->xs[i]?=some x,λi H=>∃xs,y3 K H a xs/\xs.length<=i⟩
def J8(lo:Int)(n:Nat):It:=⟨λi _=>i<n,λi H x H'=>H'=H/\x=.int (lo+i),λi _=>n<=i⟩
theorem M8{P:Program}{w:World}{K:PySem.W.Frag}{tg:Expr}(a it:Addr):Turn P w K tg (J9 K a) [it] it (λi h=>h.IsListIter it a i) where
 mem:=by simp
 obj:=λi h st b hb=>by
  have e:b=it:=by simpa using hb
  subst e
  obtain⟨o,e,c,d⟩:=st
  exact⟨o,e,λv z=>by rw[d]at z;cases z⟩
 keep:=λi h h' st k=>st.at λo e=>k it (by simp) o e
 item:=by
  intro X hP hw hK hc i pins s σ H E I hf st hg
  subst hP hw hK
  obtain⟨xs,x,hq,hx⟩:=hg
  obtain⟨its,rv,p,hz⟩:=I.list hq
  obtain⟨u,hu,ru⟩:=rv.get hx
  obtain⟨f0,f1,f2,f3,f4,f5⟩:=hf it (by simp)
  refine wpAny_pyNext_list_item st p.isList (x:=u) (by simpa using hu) λh' Bz sb=>?_
  have I1:Inv X pins σ H { s with heap:=h' }:=I.turned (t':=s.toks) (λb o hb e=>(sb.2 b hb).trans e) f0 f1 f3 f4 f5
  obtain⟨o,e,c,d⟩:=id Bz
  exact⟨u,rfl,Ls (s:={ s with heap:=h' }) e c d (by decide) ⟨x,H,I1,ru,⟨rfl,λys hy=>by rw[I.Fn hy hq];exact hx⟩,Bz,λb hb=>(hf b hb).1⟩⟩
 done:=by
  intro X hP hw hK hc i pins s σ H E I hf st hg
  subst hP hw hK
  obtain⟨xs,hq,hx⟩:=hg
  obtain⟨its,rv,p,hz⟩:=I.list hq
  obtain⟨f0,f1,f2,f3,f4,f5⟩:=hf it (by simp)
  have hl:=rv.length
  exact zM ((I.ok.hd hc).now I) ((I.ok.hd hc).fresh f3) st p.isList (by simp;lia) λh' eb=>⟨rfl,I.turned (t':=s.toks) (λb o hb e=>eb b o hb e) f0 f1 f3 f4 f5⟩
 self:=λ_ _ _ _ _ st h=>wpAny_pyIter_listiter st h
theorem Hw{P:Program}{w:World}{K:PySem.W.Frag}{tg:Expr}(a it:Addr):Turn P w K tg (Yh K a) [it] it (λi h=>h.IsTupleIter it a i) where
 mem:=by simp
 obj:=λi h st b hb=>by
  have e:b=it:=by simpa using hb
  subst e
  obtain⟨o,e,c,d⟩:=st
  exact⟨o,e,λv z=>by rw[d]at z;cases z⟩
 keep:=λi h h' st k=>st.at λo e=>k it (by simp) o e
 item:=by
  intro X hP hw hK hc i pins s σ H E I hf st hg
  subst hP hw hK
  obtain⟨xs,x,hq,hx⟩:=hg
  obtain⟨its,rv,p,hz⟩:=I.tuple hq
  obtain⟨u,hu,ru⟩:=rv.get hx
  obtain⟨f0,f1,f2,f3,f4,f5⟩:=hf it (by simp)
  refine wpAny_pyNext_tuple_item st (show s.heap.IsTuple a its.toArray from p) (x:=u) (by simpa using hu) λh' Bz sb=>?_
  have I1:Inv X pins σ H { s with heap:=h' }:=I.turned (t':=s.toks) (λb o hb e=>(sb.2 b hb).trans e) f0 f1 f3 f4 f5
  obtain⟨o,e,c,d⟩:=id Bz
  exact⟨u,rfl,Ls (s:={ s with heap:=h' }) e c d (by decide) ⟨x,H,I1,ru,⟨rfl,λys hy=>by rw[I.M' hy hq];exact hx⟩,Bz,λb hb=>(hf b hb).1⟩⟩
 done:=by
  intro X hP hw hK hc i pins s σ H E I hf st hg
  subst hP hw hK
  obtain⟨xs,hq,hx⟩:=hg
  obtain⟨its,rv,p,hz⟩:=I.tuple hq
  obtain⟨f0,f1,f2,f3,f4,f5⟩:=hf it (by simp)
  have hl:=rv.length
  exact Hz ((I.ok.hd hc).now I) ((I.ok.hd hc).fresh f3) st (show s.heap.IsTuple a its.toArray from p) (by simp;lia) λh' eb=>⟨rfl,I.turned (t':=s.toks) (λb o hb e=>eb b o hb e) f0 f1 f3 f4 f5⟩
 self:=λ_ _ _ _ _ st h=>wpAny_pyIter_tupleiter st h
theorem Hy{P:Program}{w:World}{K:PySem.W.Frag}{tg:Expr}(it:Addr)(lo:Int)(n:Nat):Turn P w K tg (J8 lo n) [it] it (λi h=>IsRangeIter h it (lo+(i:Nat)*1) ((n:Int)-(i:Nat)) 1) where
 mem:=by simp
 obj:=λi h st b hb=>by
  have e:b=it:=by simpa using hb
  subst e
  exact⟨_,st,λv z=>by
   have z':Data.fields _=Data.cell v:=z
   cases z'⟩
 keep:=λi h h' st k=>k it (by simp) _ st
 item:=by
  intro X hP hw hK hc i pins s σ H E I hf st hg
  subst hP hw hK
  obtain⟨f0,f1,f2,f3,f4,f5⟩:=hf it (by simp)
  have hi:i<n:=hg
  refine wpAny_pyNext_range_item st (by omega) λh' aBd hs'=>?_
  have Bz:IsRangeIter h' it (lo+((i+1:Nat):Int)*1) ((n:Int)-((i+1:Nat):Int)) 1:=by
   have e1:lo+((i+1:Nat):Int)*1=lo+(i:Int)*1+1:=by push_cast;omega
   have e2:(n:Int)-((i+1:Nat):Int)=(n:Int)-(i:Int)-1:=by push_cast;omega
   rw[e1,e2];exact aBd
  have I1:Inv X pins σ H { s with heap:=h',toks:=s.toks+1 }:=I.turned (λb o hb e=>hs'.extBut b o hb e) f0 f1 f3 f4 f5
  refine⟨_,rfl,Ls (s:={ s with heap:=h',toks:=s.toks+1 }) (n:="range_iterator") Bz rfl rfl (by decide) ⟨.int (lo+i),H,I1,⟨s.toks,?_⟩,⟨rfl,rfl⟩,Bz,λb hb=>(hf b hb).1⟩⟩
  rw[Int.mul_one]
 done:=by
  intro X hP hw hK hc i pins s σ H E I hf st hg
  subst hP hw hK
  obtain⟨f0,f1,f2,f3,f4,f5⟩:=hf it (by simp)
  exact HY ((I.ok.hd hc).now I) st (by have:n<=i:=hg;lia) λh' eb=>⟨rfl,I.turned (t':=s.toks) (λb o hb e=>eb b o hb e) f0 f1 f3 f4 f5⟩
 self:=λ_ _ _ _ _ st h=>wpAny_pyIter_rangeiter st h
end L2
namespace L2
open PySem PySem.Spec PyProof.Rows
section
variable {X:Cx}{tg:Expr}
def FX(K:PySem.W.Frag)(tl:TE):TI:=λσ H R=>tl σ H λx H1=>∃a,x=.ref a/\(∃xs,qi K H1 a xs)/\R (J9 K a) H1
def S5(K:PySem.W.Frag)(tl:TE):TI:=λσ H R=>tl σ H λx H1=>∃a,x=.ref a/\(∃xs,y3 K H1 a xs)/\R (Yh K a) H1
theorem Wr{l:Expr}{tl:TE}(hl:PE X l tl):PI X tg l (FX X.K tl):=by
 intro pins s σ H R I h
 refine cM (hl pins s σ H _ I h) λv s1 ⟨x,H1,I1,r1,q1⟩=>?_
 obtain⟨a,e,⟨xs,hq⟩,q⟩:=q1
 subst e
 cases r1
 obtain⟨its,rv,p,hz⟩:=I1.list hq
 refine wd p.isList ?_
 refine⟨s1.heap.objs.size,[s1.heap.objs.size],_,_,H1,rfl,I1.kept (t':=s1.toks) λb o e=>bR _ e,M8 a _,⟨_,cH _ rfl,rfl,rfl⟩,λb hb=>?_,q⟩
 have e:b=s1.heap.objs.size:=by simpa using hb
 subst e
 exact I1.Xy (bB _) (I1.bx.fresh (bB _))
theorem aAr{l:Expr}{tl:TE}(hl:PE X l tl):PI X tg l (S5 X.K tl):=by
 intro pins s σ H R I h
 refine cM (hl pins s σ H _ I h) λv s1 ⟨x,H1,I1,r1,q1⟩=>?_
 obtain⟨a,e,⟨xs,hq⟩,q⟩:=q1
 subst e
 cases r1
 obtain⟨its,rv,p,hz⟩:=I1.tuple hq
 refine wpAny_pyIter_tuple (show s1.heap.IsTuple a its.toArray from p) ?_
 refine⟨s1.heap.objs.size,[s1.heap.objs.size],_,_,H1,rfl,I1.kept (t':=s1.toks) λb o e=>bR _ e,Hw a _,⟨_,cH _ rfl,rfl,rfl⟩,λb hb=>?_,q⟩
 have e:b=s1.heap.objs.size:=by simpa using hb
 subst e
 exact I1.Xy (bB _) (I1.bx.fresh (bB _))
theorem Ra{pins:List (Addr×Obj)}{σ:St}{H:Hp}{s:Shared}{R:It->Hp->Prop}{E:Value->Shared->Prop}{lo hi:Int}{t u v:Tok}{tk:Nat}(I:Inv X pins σ H s)(h1 : -(2 ^ 62)<=lo)(h2:lo<2 ^ 62)(h3 : -(2 ^ 62)<=hi)(h4:hi<2 ^ 62)
  (q:R (J8 lo (hi-lo).toNat) H):wpAny (model X.prog X.w) X.A (pyIter (.ref s.heap.objs.size)) (PIE X pins σ tg R) E { s with heap:=s.heap.push { cls:=.type "range",data:=.fields #[.int lo t,.int hi u,.int 1 v] },toks:=tk }:=by
 refine wpAny_pyIter_range (IsRange.new ..) (small_one h1 h2 h3 h4) ?_
 have I1:Inv X pins σ H { s with heap:=s.heap.push { cls:=.type "range",data:=.fields #[.int lo t,.int hi u,.int 1 v] },toks:=tk }:=I.kept λb o e=>bR _ e
 refine⟨(s.heap.push { cls:=.type "range",data:=.fields #[.int lo t,.int hi u,.int 1 v] }).objs.size,[(s.heap.push { cls:=.type "range",data:=.fields #[.int lo t,.int hi u,.int 1 v] }).objs.size],_,_,H,rfl,
  I1.kept (t':=tk) λb o e=>bR _ e,Hy _ lo (hi-lo).toNat,?_,λb hb=>?_,q⟩
 ·have e1:lo+((0:Nat):Int)*1=lo:=by simp
  have e2:(((hi-lo).toNat:Nat):Int)-((0:Nat):Int)=Builtin.Range.rangeSize lo hi 1:=by rw[rangeSize_one];split <;> lia
  show IsRangeIter _ _ (lo+((0:Nat):Int)*1) ((((hi-lo).toNat:Nat):Int)-((0:Nat):Int)) 1
  rw[e1,e2]
  exact cH _ rfl
 ·have e:b=(s.heap.push { cls:=.type "range",data:=.fields #[.int lo t,.int hi u,.int 1 v] }).objs.size:=by simpa using hb
  subst e
  exact I1.Xy (bB _) (I1.bx.fresh (bB _))
def FW(ta:TA):TI:=λσ H R=>ta σ H λvs H1=>∃j:Int,vs=[.int j]/\-(2 ^ 62)<=j/\j<2 ^ 62/\R (J8 0 j.toNat) H1
def S7(ta:TA):TI:=λσ H R=>ta σ H λvs H1=>∃i j:Int,vs=[.int i,.int j]/\(-(2 ^ 62)<=i/\i<2 ^ 62/\-(2 ^ 62)<=j/\j<2 ^ 62)/\R (J8 i (j-i).toNat) H1
theorem zC{a:Expr}{ta:TA}{p pos:Pos}(hg:Gl X "range")(hm:X.mg "range" = none)(ha:PA X [a] ta)(hs:starEach [a] X.env=[(false,eval a X.env)]:=by rfl):PI X tg (.Call (.Name "range" p) [a] [] pos) (FW ta):=by
 intro pins s σ H R I h
 refine Call_ (xE I hg hm boot_range (Ht (cM (ha pos pins s σ H _ I h) λus s1 ⟨vs,H1,I1,r1,q1⟩=>?_) hs rfl))
 obtain⟨j,e,q1,q2,q⟩:=q1
 subst e
 cases r1 with
 | cons r rr=>
  cases rr
  obtain⟨t,rfl⟩:=r
  exact call_range_1 (Ra I1 (by lia) (by lia) q1 q2 (by simpa using q))
def Vs(wi:TI)(g:TG)(tb:TS):TS:=λD σ H=>wi σ H λJ H1=>∃W:Nat->Nat->St->Hp->Prop,(∃m,W 0 m σ H1)/\∀i m σ H,W i m σ H->
 (J.stop i H/\D.nx σ H)\/(J.go i H/\∃N:St->Hp->Prop,(∀σ' H',N σ' H'->∃m',m'<m/\W (i+1) m' σ' H')/\∀x H',J.M3 i H x H'->g x σ H' λσ2 H2=>tb { D with nx:=N,ct:=N,bk:=D.nx } σ2 H2)
def xj(fp:List Addr)(h:Heap):List (Addr×Obj):=fp.filterMap λb=>(h.get? b).map λo=>(b,o)
theorem lZ{fp:List Addr}{h:Heap}{b:Addr}{o:Obj}(hb:b∈fp)(e:h.get? b=some o):(b,o)∈xj fp h:=List.mem_filterMap.mpr ⟨b,hb,by rw[e];rfl⟩
theorem NZ{fp:List Addr}{h:Heap}{p:Addr×Obj}(hp:p∈xj fp h):p.1∈fp/\h.get? p.1=some p.2:=by
 obtain⟨b,hb,e⟩:=List.mem_filterMap.mp hp
 cases q:h.get? b with
 | none=>rw[q]at e;cases e
 | some o=>
  rw[q]at e
  have e':(b,o)=p:=dU e
  subst e'
  exact⟨hb,q⟩
theorem Inv.pinned{pins:List (Addr×Obj)}{σ:St}{H:Hp}{s:Shared}{fp:List Addr}(I:Inv X pins σ H s)(hf:∀b∈fp,y8 X pins H b)(ho:∀b∈fp,∃o,s.heap.get? b=some o/\∀v,o.data≠.cell v):Inv X (pins++xj fp s.heap) σ H s:=
 I.K4 λp hp=>(dq.mp hp).elim (λz=>I.pin p (nB _ z)) λz=>by
  obtain⟨hb,e⟩:=NZ z
  obtain⟨f0,f1,f2,_⟩:=hf p.1 hb
  obtain⟨o,e',d⟩:=ho p.1 hb
  rw[e]at e';cases e'
  exact⟨e,f0,f1,f2,d⟩
theorem Inv.sO{pins pl:List (Addr×Obj)}{σ:St}{H:Hp}{s:Shared}(I:Inv X (pins++pl) σ H s):Inv X pins σ H s:=I.K4 λp hp=>I.pin p (nB _ (uj _ hp))
theorem aAm{iter:Expr}{body:List Stmt}{wi:TI}{g:TG}{tb:TS}{pos:Pos}(hp:PassesOwn (model X.prog X.w) X.A X.env X.xe)(hc:X.calm=true)(hi:PI X tg iter wi)(hg:PG X tg g)(hb:yC X body tb)
  (hs:∀x,foldedSetIterable iter X.env x=pure x:=by intro _;rfl):PS X (.For tg iter body [] pos) (Vs wi g tb):=by
 intro pins s σ H D I h
 refine wpAny_For (cM (hi pins s σ H _ I h) λv s1 h1=>cM h1 λitv s2 h2=>?_) hs
 obtain⟨it,fp,tn,J,H2,e,I2,T,Pj,f2,W,⟨m0,w0⟩,turn⟩:=h2
 subst e
 have stat:∀{H':Hp},(∀b∈fp,H' b=none)->∀b∈fp,y8 X pins H' b:=λhn b hb=>⟨hn b hb,(f2 b hb).2⟩
 refine codeAny_forLoop_any (λn s'=>∃i σ' H',Inv X pins σ' H' s'/\tn i s'.heap/\(∀b∈fp,H' b=none)/\W i n σ' H') ?_ m0 ⟨0,σ,H2,I2,Pj,λb hb=>(f2 b hb).1,w0⟩
 rintro n s3 ⟨i,σ3,H3,I3,st3,fr3,w3⟩
 rcases turn i n σ3 H3 w3 with ⟨stop,qn⟩ | ⟨go,N,hN,step⟩
 ·refine qt hp (cM (T.done X rfl rfl rfl hc i pins s3 σ3 H3 X.xe I3 (stat fr3) st3 stop) λr s4 ⟨hr,I4⟩=>?_)
  subst hr
  exact Al ⟨σ3,H3,I4,qn⟩
 ·refine qt hp (cM (T.item X rfl rfl rfl hc i pins s3 σ3 H3 X.xe I3 (stat fr3) st3 go) λr s4 ⟨u,hr,h4⟩=>?_)
  subst hr
  refine qt hp (cM h4 λ_ s5 ⟨x,H5,I5,r5,y5,st5,fr5⟩=>?_)
  have I5':=I5.pinned (stat fr5) (T.obj _ _ st5)
  refine qt hp (cM (hg _ s5 σ3 H5 x u _ I5' r5 (step x H5 y5)) λ_ s6 ⟨σ6,H6,I6,q6⟩=>?_)
  refine qt hp (cM (hb _ s6 σ6 H6 _ I6 q6) λf s7 q7=>?_)
  have again:∀{σ7:St} {H7:Hp},Inv X (pins++xj fp s5.heap) σ7 H7 s7->N σ7 H7->∃m,m<n/\∃i σ' H',Inv X pins σ' H' s7/\tn i s7.heap/\(∀b∈fp,H' b=none)/\W i m σ' H':=λ{σ7 H7} I7 n7=>by
   obtain⟨m',hm,w7⟩:=hN σ7 H7 n7
   refine⟨m',hm,i+1,σ7,H7,I7.sO,T.keep _ _ _ st5 λb hb o e=>(I7.pin (b,o) (nB _ (nB _ (lZ hb e)))).1,λb hb=>?_,w7⟩
   obtain⟨o,e,d⟩:=T.obj _ _ st5 b hb
   exact(I7.pin (b,o) (nB _ (nB _ (lZ hb e)))).2.1
  cases f with
  | next=>obtain⟨σ7,H7,I7,n7⟩:=q7;exact again I7 n7
  | cont=>obtain⟨σ7,H7,I7,n7⟩:=q7;exact again I7 n7
  | brk=>obtain⟨σ7,H7,I7,q7⟩:=q7;exact⟨σ7,H7,I7.sO,q7⟩
  | ret v=>obtain⟨x7,σ7,H7,I7,r7,q7⟩:=q7;exact⟨x7,σ7,H7,I7.sO,r7,q7⟩
end
theorem T3{K:PySem.W.Frag}{a:Addr}{xs:List V}{g:TG}{tb:TS}{D:Ends}{σ:St}{H:Hp}(Pv:Nat->St->Hp->Prop)(h0:Pv 0 σ H)(hl:∀i σ H,i<=xs.length->Pv i σ H->qi K H a xs)
  (hs:∀i x σ H,xs[i]?=some x->Pv i σ H->g x σ H λσ2 H2=>tb { D with nx:=Pv (i+1),ct:=Pv (i+1),bk:=D.nx } σ2 H2) (hd:∀σ H,Pv xs.length σ H->D.nx σ H) :
  ∃W:Nat->Nat->St->Hp->Prop,(∃m,W 0 m σ H)/\∀i m σ H,W i m σ H->
   ((J9 K a).stop i H/\D.nx σ H)\/((J9 K a).go i H/\∃N:St->Hp->Prop,(∀σ' H',N σ' H'->∃m',m'<m/\W (i+1) m' σ' H')/\∀x H',(J9 K a).M3 i H x H'->g x σ H' λσ2 H2=>tb { D with nx:=N,ct:=N,bk:=D.nx } σ2 H2):=by
 refine⟨λi m σ H=>m=xs.length-i/\i<=xs.length/\Pv i σ H,⟨xs.length,by simp,dc _,h0⟩,?_⟩
 rintro i m σ H ⟨rfl,hi,p⟩
 have q:=hl i σ H hi p
 by_cases jF:i<xs.length
 ·refine .inr ⟨⟨xs,xs[i],q,by simp[jF]⟩,Pv (i+1),λσ' H' p'=>⟨xs.length-(i+1),by lia,rfl,jF,p'⟩,λx H' y=>?_⟩
  obtain⟨e,y⟩:=y
  subst e
  exact hs i x σ _ (y xs q) p
 ·have e:i=xs.length:=by lia
  subst e
  exact .inl ⟨⟨xs,q,bB _⟩,hd σ H p⟩
theorem XB{K:PySem.W.Frag}{a:Addr}{xs:List V}{g:TG}{tb:TS}{D:Ends}{σ:St}{H:Hp}(Pv:Nat->St->Hp->Prop)(h0:Pv 0 σ H)(hl:∀i σ H,i<=xs.length->Pv i σ H->y3 K H a xs)
  (hs:∀i x σ H,xs[i]?=some x->Pv i σ H->g x σ H λσ2 H2=>tb { D with nx:=Pv (i+1),ct:=Pv (i+1),bk:=D.nx } σ2 H2) (hd:∀σ H,Pv xs.length σ H->D.nx σ H) :
  ∃W:Nat->Nat->St->Hp->Prop,(∃m,W 0 m σ H)/\∀i m σ H,W i m σ H->
   ((Yh K a).stop i H/\D.nx σ H)\/((Yh K a).go i H/\∃N:St->Hp->Prop,(∀σ' H',N σ' H'->∃m',m'<m/\W (i+1) m' σ' H')/\∀x H',(Yh K a).M3 i H x H'->g x σ H' λσ2 H2=>tb { D with nx:=N,ct:=N,bk:=D.nx } σ2 H2):=by
 refine⟨λi m σ H=>m=xs.length-i/\i<=xs.length/\Pv i σ H,⟨xs.length,by simp,dc _,h0⟩,?_⟩
 rintro i m σ H ⟨rfl,hi,p⟩
 have q:=hl i σ H hi p
 by_cases jF:i<xs.length
 ·refine .inr ⟨⟨xs,xs[i],q,by simp[jF]⟩,Pv (i+1),λσ' H' p'=>⟨xs.length-(i+1),by lia,rfl,jF,p'⟩,λx H' y=>?_⟩
  obtain⟨e,y⟩:=y
  subst e
  exact hs i x σ _ (y xs q) p
 ·have e:i=xs.length:=by lia
  subst e
  exact .inl ⟨⟨xs,q,bB _⟩,hd σ H p⟩
theorem Ow{lo:Int}{n:Nat}{g:TG}{tb:TS}{D:Ends}{σ:St}{H:Hp}(Pv:Nat->St->Hp->Prop)(h0:Pv 0 σ H)
  (hs:∀i σ H,i<n->Pv i σ H->g (.int (lo+i)) σ H λσ2 H2=>tb { D with nx:=Pv (i+1),ct:=Pv (i+1),bk:=D.nx } σ2 H2) (hd:∀σ H,Pv n σ H->D.nx σ H) :
  ∃W:Nat->Nat->St->Hp->Prop,(∃m,W 0 m σ H)/\∀i m σ H,W i m σ H->
   ((J8 lo n).stop i H/\D.nx σ H)\/((J8 lo n).go i H/\∃N:St->Hp->Prop,(∀σ' H',N σ' H'->∃m',m'<m/\W (i+1) m' σ' H')/\∀x H',(J8 lo n).M3 i H x H'->g x σ H' λσ2 H2=>tb { D with nx:=N,ct:=N,bk:=D.nx } σ2 H2):=by
 refine⟨λi m σ H=>m=n-i/\i<=n/\Pv i σ H,⟨n,by simp,dc _,h0⟩,?_⟩
 rintro i m σ H ⟨rfl,hi,p⟩
 by_cases jF:i<n
 ·refine .inr ⟨jF,Pv (i+1),λσ' H' p'=>⟨n-(i+1),by lia,rfl,jF,p'⟩,λx H' y=>?_⟩
  obtain⟨e,y⟩:=y
  subst e y
  exact hs i σ _ jF p
 ·have e:i=n:=by lia
  subst e
  exact .inl ⟨bB _,hd σ H p⟩
end L2
namespace L2
open PySem PySem.Spec PyProof.Rows
abbrev R2:=V->V->Hp->VK->Prop
def nj(X:Cx)(f:Value->Value->Sem Value)(r:R2):Prop:=
 ∀(pins:List (Addr×Obj)) (s:Shared) (σ:St) (H:Hp) (x y:V) (v u:Value) (Q:VK),Inv X pins σ H s->RelV x v->RelV y u->r x y H Q->
  wpAny (model X.prog X.w) X.A (f v u) (EP X pins σ Q) X.xe s
def fX(X:Cx)(f:Value)(r:List V->Hp->VK->Prop):Prop:=
 ∀(pins:List (Addr×Obj)) (s:Shared) (σ:St) (H:Hp) (xs:List V) (us:List Value) (Q:VK),Inv X pins σ H s->Vals xs us->r xs H Q->
  wpAny (model X.prog X.w) X.A (call f us) (EP X pins σ Q) X.xe s
def Qq(r:R2)(ta tb:TE):TE:=λσ H Q=>ta σ H λx H1=>tb σ H1 λy H2=>r x y H2 Q
def tUn(r:V->Hp->VK->Prop)(ta:TE):TE:=λσ H Q=>ta σ H λx H1=>r x H1 Q
def rI(C:Int->Int->Prop)(g:Int->Int->V):R2:=λx y H Q=>∃i j,x=.int i/\y=.int j/\C i j/\Q (g i j) H
def Rb(g:Int->Int->V):R2:=λx y H Q=>∃i j,x=.int i/\y=.int j/\Q (g i j) H
def rU(g:Int->V):V->Hp->VK->Prop:=λx H Q=>∃i,x=.int i/\Q (g i) H
section
variable {X:Cx}{a b c:Expr}{ta tb tc:TE}{pos:Pos}
theorem aBG(ha:PE X a ta)(hb:PE X b tb){pins:List (Addr×Obj)}{s:Shared}{σ:St}{H:Hp}{R:V->V->Hp->Prop}(I:Inv X pins σ H s)
  (h:ta σ H λx H1=>tb σ H1 λy H2=>R x y H2) {Q:Value->Shared->Prop} {f:Value->Value->Sem Value}
  (hf:∀v u s2 x y H2,Inv X pins σ H2 s2->RelV x v->RelV y u->R x y H2->wpAny (model X.prog X.w) X.A (f v u) Q X.xe s2) :
  wpAny (model X.prog X.w) X.A (eval a X.env) (λv s₁=>wpAny (model X.prog X.w) X.A (eval b X.env) (λu s₂=>wpAny (model X.prog X.w) X.A (f v u) Q X.xe s₂) X.xe s₁) X.xe s:=by
 refine cM (ha pins s σ H _ I h) λv s1 ⟨x,H1,I1,r1,q1⟩=>?_
 refine cM (hb pins s1 σ H1 _ I1 q1) λu s2 ⟨y,H2,I2,r2,q2⟩=>?_
 exact hf v u s2 x y H2 I2 r1 r2 q2
theorem aCi{op:Operator}{r:R2}(ho:nj X (binaryOp op) r)(ha:PE X a ta)(hb:PE X b tb):PE X (.BinOp a op b pos) (Qq r ta tb):=by
 intro pins s σ H Q I h
 exact wpAny_BinOp (aBG ha hb I h λv u s2 x y H2 I2 rx ry q=>ho pins s2 σ H2 x y v u Q I2 rx ry q)
theorem opI{f:Value->Value->Sem Value}{C:Int->Int->Prop}{g:Int->Int->Int}
  (rule:∀(i j:Int) (t u:Tok) (s:Shared) (Q:Value->Shared->Prop) (E:Value->Shared->Prop),C i j->Q (.int (g i j) s.toks) { s with toks:=s.toks+1 }->wpAny (model X.prog X.w) X.A (f (.int i t) (.int j u)) Q E s) :
  nj X f (rI C λi j=>.int (g i j)):=by
 intro pins s σ H x y v u Q I rx ry h
 obtain⟨i,j,rfl,rfl,hc,q⟩:=h
 obtain⟨t,rfl⟩:=rx
 obtain⟨t',rfl⟩:=ry
 exact rule i j t t' s _ _ hc ⟨.int (g i j),H,I.tok _,⟨_,rfl⟩,q⟩
theorem aCp{f:Value->Value->Sem Value}{g:Int->Int->Int}
  (rule:∀(i j:Int) (t u:Tok) (s:Shared) (Q:Value->Shared->Prop) (E:Value->Shared->Prop),Q (.int (g i j) s.toks) { s with toks:=s.toks+1 }->wpAny (model X.prog X.w) X.A (f (.int i t) (.int j u)) Q E s) :
  nj X f (Rb λi j=>.int (g i j)):=by
 intro pins s σ H x y v u Q I rx ry h
 obtain⟨i,j,rfl,rfl,q⟩:=h
 obtain⟨t,rfl⟩:=rx
 obtain⟨t',rfl⟩:=ry
 exact rule i j t t' s _ _ ⟨.int (g i j),H,I.tok _,⟨_,rfl⟩,q⟩
theorem WN{f:Value->Value->Sem Value}{g:Int->Int->Bool}
  (rule:∀(i j:Int) (t u:Tok) (s:Shared) (Q:Value->Shared->Prop) (E:Value->Shared->Prop),Q (.bool (g i j)) s->wpAny (model X.prog X.w) X.A (f (.int i t) (.int j u)) Q E s) :
  nj X f (Rb λi j=>.bl (g i j)):=by
 intro pins s σ H x y v u Q I rx ry h
 obtain⟨i,j,rfl,rfl,q⟩:=h
 obtain⟨t,rfl⟩:=rx
 obtain⟨t',rfl⟩:=ry
 exact rule i j t t' s _ _ ⟨.bl (g i j),H,I,rfl,q⟩
def aD0(i j:Int):Prop:=0<=j/\j<=1000000/\i.natAbs<2 ^ 64
def mL(i j:Int):Prop:=(-(2 ^ 64)<i/\i<2 ^ 64)\/(-(2 ^ 64)<j/\j<2 ^ 64)
theorem mL.ok{i j:Int}(h:mL i j):IntMulOk i j:=by
 rcases h with ⟨h1,h2⟩ | ⟨h1,h2⟩
 ·exact .of_left (intBits_le_64 h1 h2)
 ·exact .of_right (intBits_le_64 h1 h2)
theorem gQ:nj X (binaryOp .Add) (Rb λi j=>.int (i+j)):=aCp λ_ _ _ _ _ _ _ q=>add_int q
theorem Il:nj X (binaryOp .Sub) (Rb λi j=>.int (i-j)):=aCp λ_ _ _ _ _ _ _ q=>sub_int q
theorem qU:nj X (binaryOp .Mult) (rI mL λi j=>.int (i*j)):=opI λ_ _ _ _ _ _ _ hc q=>mul_int q hc.ok
theorem gP:nj X (binaryOp .Mod) (rI (λ_ j=>0<j) λi j=>.int (i%j)):=opI λi j _ _ _ _ _ hc q=>by
 have h1:(0:Int)<j:=hc
 exact mod_int' (by lia) (by rw[Int.fmod_eq_emod_of_nonneg i (by lia)];exact q)
theorem Ck:nj X (binaryOp .Pow) (rI aD0 λi j=>.int (i ^ j.toNat)):=opI λ_ _ _ _ _ _ _ hc q=>pow_int_small hc.1 hc.2.1 hc.2.2 q
end
def QT:V->V->Bool
 | .non,.non=>true | .non,.int _=>true | .int _,.non=>true | .non,.bl _=>true | .bl _,.non=>true | .non,.str _=>true | .str _,.non=>true
 | .int _,.int _=>true | .bl _,.bl _=>true | .str _,.str _=>true | .Px _,.Px _=>true
 | .int _,.str _=>true | .str _,.int _=>true | .bl _,.str _=>true | .str _,.bl _=>true
 | _,_=>false
def rEq:R2:=λx y H Q=>QT x y=true/\Q (.bl (decide (x=y))) H
def rNe:R2:=λx y H Q=>QT x y=true/\Q (.bl (!decide (x=y))) H
theorem LR{i j:Int}:decide (V.int i=V.int j)=(i==j):=by
 rw[rY]
 simp
theorem Ug{i j:Bool}:decide (V.bl i=V.bl j)=(i==j):=by
 rw[rY]
 simp
theorem LK{i j:Str}:decide (V.str i=V.str j)=(i==j):=by
 rw[rY]
 simp
theorem L1{i j:Array UInt8}:decide (V.Px i=V.Px j)=(i.toList==j.toList):=by
 rw[rY]
 cases i
 cases j
 simp
section
variable {X:Cx}{a b c:Expr}{ta tb tc:TE}{pos:Pos}
theorem ck{pins:List (Addr×Obj)}{σ:St}{H:Hp}{s:Shared}{Q:VK}{k k':Bool}(I:Inv X pins σ H s)(q:Q (.bl k) H)(e:k=k'):EP X pins σ Q (.bool k') s:=by
 subst e
 exact⟨.bl k,H,I,rfl,q⟩
theorem js:nj X (compareOp .Eq) rEq:=by
 intro pins s σ H x y v u Q I rx ry h
 obtain⟨hs,q⟩:=h
 cases x with
 | non=>
  cases rx
  cases y with
  | non=>cases ry;exact PySem.EqNone.eq_none_none (ck I q (by simp))
  | bl j=>cases ry;exact PySem.EqNone.eq_none_bool (ck I q (by simp))
  | int j=>obtain⟨t',rfl⟩:=ry;exact PySem.EqNone.eq_none_int (ck I q (by simp))
  | str j=>obtain⟨t',rfl⟩:=ry;exact PySem.EqNone.eq_none_str (ck I q (by simp))
  | _=>exact absurd (show false=true from hs) fi
 | bl i=>
  cases rx
  cases y with
  | non=>cases ry;exact PySem.EqNone.eq_bool_none (ck I q (by simp))
  | bl j=>cases ry;exact eq_bool (ck I q Ug)
  | str j=>obtain⟨t',rfl⟩:=ry;exact PySem.EqMixed.eq_bool_str (ck I q (by simp))
  | _=>exact absurd (show false=true from hs) fi
 | int i=>
  obtain⟨t,rfl⟩:=rx
  cases y with
  | non=>cases ry;exact PySem.EqNone.eq_int_none (ck I q (by simp))
  | int j=>obtain⟨t',rfl⟩:=ry;exact eq_int (ck I q LR)
  | str j=>obtain⟨t',rfl⟩:=ry;exact PySem.EqMixed.eq_int_str (ck I q (by simp))
  | _=>exact absurd (show false=true from hs) fi
 | str i=>
  obtain⟨t,rfl⟩:=rx
  cases y with
  | non=>cases ry;exact PySem.EqNone.eq_str_none (ck I q (by simp))
  | bl j=>cases ry;exact PySem.EqMixed.eq_str_bool (ck I q (by simp))
  | int j=>obtain⟨t',rfl⟩:=ry;exact PySem.EqMixed.eq_str_int (ck I q (by simp))
  | str j=>obtain⟨t',rfl⟩:=ry;exact eq_str (ck I q LK)
  | _=>exact absurd (show false=true from hs) fi
 | Px i=>
  obtain⟨t,rfl⟩:=rx
  cases y with
  | Px j=>obtain⟨t',rfl⟩:=ry;exact PySem.W.eq_bytes (ck I q L1)
  | _=>exact absurd (show false=true from hs) fi
 | _=>cases y <;> exact absurd (show false=true from hs) fi
theorem YF:nj X (compareOp .NotEq) rNe:=by
 intro pins s σ H x y v u Q I rx ry h
 obtain⟨hs,q⟩:=h
 cases x with
 | non=>
  cases rx
  cases y with
  | non=>cases ry;exact PySem.EqNone.ne_none_none (ck I q (by simp))
  | bl j=>cases ry;exact PySem.EqNone.ne_none_bool (ck I q (by simp))
  | int j=>obtain⟨t',rfl⟩:=ry;exact PySem.EqNone.ne_none_int (ck I q (by simp))
  | str j=>obtain⟨t',rfl⟩:=ry;exact PySem.EqNone.ne_none_str (ck I q (by simp))
  | _=>exact absurd (show false=true from hs) fi
 | bl i=>
  cases rx
  cases y with
  | non=>cases ry;exact PySem.EqNone.ne_bool_none (ck I q (by simp))
  | bl j=>cases ry;exact ne_bool (ck I q (fZ not Ug))
  | str j=>obtain⟨t',rfl⟩:=ry;exact PySem.EqMixed.ne_bool_str (ck I q (by simp))
  | _=>exact absurd (show false=true from hs) fi
 | int i=>
  obtain⟨t,rfl⟩:=rx
  cases y with
  | non=>cases ry;exact PySem.EqNone.ne_int_none (ck I q (by simp))
  | int j=>obtain⟨t',rfl⟩:=ry;exact ne_int (ck I q (fZ not LR))
  | str j=>obtain⟨t',rfl⟩:=ry;exact PySem.EqMixed.ne_int_str (ck I q (by simp))
  | _=>exact absurd (show false=true from hs) fi
 | str i=>
  obtain⟨t,rfl⟩:=rx
  cases y with
  | non=>cases ry;exact PySem.EqNone.ne_str_none (ck I q (by simp))
  | bl j=>cases ry;exact PySem.EqMixed.ne_str_bool (ck I q (by simp))
  | int j=>obtain⟨t',rfl⟩:=ry;exact PySem.EqMixed.ne_str_int (ck I q (by simp))
  | str j=>obtain⟨t',rfl⟩:=ry;exact ne_str (ck I q (fZ not LK))
  | _=>exact absurd (show false=true from hs) fi
 | Px i=>
  obtain⟨t,rfl⟩:=rx
  cases y with
  | Px j=>obtain⟨t',rfl⟩:=ry;exact PySem.W.ne_bytes (ck I q (fZ not L1))
  | _=>exact absurd (show false=true from hs) fi
 | _=>cases y <;> exact absurd (show false=true from hs) fi
theorem R5:nj X (compareOp .Lt) (Rb λi j=>.bl (decide (i<j))):=WN λ_ _ _ _ _ _ _ q=>lt_int q
theorem aCn:nj X (compareOp .LtE) (Rb λi j=>.bl (decide (i<=j))):=WN λ_ _ _ _ _ _ _ q=>le_int q
theorem K8:nj X (compareOp .Gt) (Rb λi j=>.bl (decide (j<i))):=WN λ_ _ _ _ _ _ _ q=>gt_int q
theorem aCo:nj X (compareOp .GtE) (Rb λi j=>.bl (decide (j<=i))):=WN λ_ _ _ _ _ _ _ q=>ge_int q
theorem cj(b:Expr){op:CmpOp}(h:op≠.In:=by decide)(h2:op≠.NotIn:=by decide):behindInMarks op b=false:=by
 have e1:(op==CmpOp.In)=false:=by cases op <;> first | rfl | exact absurd rfl h
 have e2:(op==CmpOp.NotIn)=false:=by cases op <;> first | rfl | exact absurd rfl h2
 cases b <;> simp[behindInMarks,e1,e2]
theorem Wx{op:CmpOp}{r:R2}(ho:nj X (compareOp op) r)(ha:PE X a ta)(hb:PE X b tb)(hm:behindInMarks op b=false):PE X (.Compare a [op] [b] pos) (Qq r ta tb):=by
 intro pins s σ H Q I h
 exact wpAny_Compare1 (aBG ha hb I h λv u s2 x y H2 I2 rx ry q=>ho pins s2 σ H2 x y v u Q I2 rx ry q) hm
def D'(t:TE):TT:=λσ H Q=>t σ H λx H'=>∃k,x=.bl k/\Q k H'
theorem Wc{op:CmpOp}{r:R2}(ho:nj X (compareOp op) r)(ha:PE X a ta)(hb:PE X b tb)(hm:behindInMarks op b=false):PT X (.Compare a [op] [b] pos) (D' (Qq r ta tb)):=by
 intro pins s σ H Q I h
 refine wpAny_isTrue_Compare1 (cM (ha pins s σ H _ I h) λv s1 ⟨x,H1,I1,r1,q1⟩=>cM (hb pins s1 σ H1 _ I1 q1) λu s2 ⟨y,H2,I2,r2,q2⟩=>
  cM (ho pins s2 σ H2 x y v u _ I2 r1 r2 q2) λc s3 ⟨z,H3,I3,r3,k,e,q3⟩=>?_) hm
 subst e
 cases r3
 exact Aq ⟨H3,I3,q3⟩
theorem xu:(sizeLine:Nat)<2 ^ 63:=by rw[sizeLine_eq];decide
theorem vals1{x:V}{us:List Value}(r:Vals [x] us):∃u,us=[u]/\RelV x u:=by
 cases r with
 | cons r1 r2=>cases r2;exact⟨_,rfl,r1⟩
theorem Us:fX X (.builtin "abs") (λxs H Q=>∃i,xs=[.int i]/\Q (.int (if i<0 then -i else i)) H):=by
 intro pins s σ H xs us Q I r h
 obtain⟨i,rfl,q⟩:=h
 obtain⟨u,rfl,t,rfl⟩:=vals1 r
 exact call_abs_int λu tk=>⟨.int (if i<0 then -i else i),H,I.tok _,⟨_,rfl⟩,q⟩
end
end L2
namespace L2
open PySem PySem.Spec PyProof.Rows
structure J7(h:Heap)(x dx C:Addr)(mA:Str->Option Value):Prop where
 obj:h.get? x=some (PySem.W.instObj C dx)
 ns:h.Ns1 dx mA
 ne:dx≠x
theorem N4{h:Heap}{dx:Addr}{mA:Str->Option Value}(n:h.Ns1 dx mA):∃od,h.get? dx=some od/\∀name,PySem.W.lookIn name od=some (mA name):=by
 obtain⟨o,es,ep,ho,hd,hk,_,hm⟩:=n
 refine⟨o,ho,λname=>?_⟩
 have e:=hm name
 unfold nsFind findBy at e
 rw[<-Array.find?_toList]at e
 unfold PySem.W.lookIn
 rw[hd]
 dsimp only
 split
 ·rename_i y q
  rw[q]at e
  exact fZ some e
 ·rename_i q
  rw[q]at e
  have a:es.toList.any (·.refKey)=false:=by
   rw[List.any_eq_false]
   intro y hy
   obtain⟨z,t,hkey⟩:=hk y (Array.mem_toList_iff.mp hy)
   simp[DictEntry.refKey,hkey]
  have a':¬es.toList.any (·.refKey)=true:=by rw[a];exact fi
  rw[aB a']
  exact fZ some e
theorem J7.look{h:Heap}{x dx C:Addr}{mA:Str->Option Value}(I:J7 h x dx C mA):∃od,PySem.W.InstAt h x (PySem.W.instObj C dx) C (some od)/\∀name,PySem.W.lookIn name od=some (mA name):=
 let ⟨od,ho,hl⟩:=N4 I.ns
 ⟨od,⟨I.obj,rfl,rfl,ho⟩,hl⟩
section
variable {prog:Program}{w:World}{A:Around}{E:Value->Shared->Prop}{s:Shared}{K:PySem.W.Frag}{x dx C f:Addr}{mA:Str->Option Value}{name:Str}{v:Value}
theorem get_map{expr:Bool}{Q:Value->Shared->Prop}(X:K.In s.heap)(I:J7 s.heap x dx C mA)(hg:PySem.W.plainGet K C name=true)(hh:PySem.W.hasDictIn K C=true)
  (ha:PySem.W.findIn K (.ref C) name=some none) (hv:mA name=some v) (Xa:PySem.W.handedIn v=true) (h:Q v { s with toks:=s.toks+1 }) :
  wpAny (model prog w) A (getAttr (.ref x) name expr) Q E s:=by
 obtain⟨od,J,hl⟩:=I.look
 exact PySem.W.get_value X J (Hg hg).1 (PySem.W.findObj_own hh ha rfl (by rw[hl,hv])) Xa h
theorem TX{pl:Sem Bool}{Q:Value×List Value->Shared->Prop}(X:K.In s.heap)(I:J7 s.heap x dx C mA)(hg:PySem.W.plainGet K C name=true)
  (hf:PySem.W.findIn K (.ref C) name=some (some (.ref f))) (ht:PySem.W.isFn K (.ref f)=true) (hv:mA name=none) (h:Q (.ref f,[.ref x]) s) :
  wpAny (model prog w) A (getMethod (.ref x) name pl) Q E s:=by
 obtain⟨od,J,hl⟩:=I.look
 exact PySem.W.method_fn X J (Hg hg).1 (Hg hg).2 hf (beq_iff_eq.mp ht) (by show(PySem.W.lookIn name od).map (·.isSome)=some false;rw[hl,hv];rfl) h
theorem VH{ns:List Str}{Q:Unit->Shared->Prop}(X:K.In s.heap)(I:J7 s.heap x dx C mA)
  (hs:PySem.W.findIn K (.ref C) "__setattr__" = some (some (.builtin "object.__setattr__"))) (hp:PySem.W.plainOver K C=true) (ht:PySem.W.takerIn K C name=some none) (hh:PySem.W.hasDictIn K C=true)
  (hw:PySem.Within mA ns) (hsz:ns.length<=sizeLine)
  (h:∀h',J7 h' x dx C (λy=>if y=name then some v else mA y)->Heap.SameBut dx s.heap h'->Q () { s with heap:=h',toks:=s.toks+2 }) :
  wpAny (model prog w) A (setAttr (.ref x) name v) Q E s:=by
 obtain⟨od,J,hl⟩:=I.look
 refine PySem.W.set_plain X J hs (PySem.W.osa_open (s:={ s with toks:=s.toks+1 }) (r:=none) X J hp ht λb=>?_)
 obtain⟨cd,hc,hd'⟩:=PySem.W.any_some hh
 have hx:s.heap.get? x=some ⟨.ref C,some dx,.plain,#[]⟩:=I.obj
 refine ay (aJ (ay (ay (wpAny_loadPart hx (ay (PySem.W.Looks.here (s:={ s with toks:=s.toks+1 }) (PySem.W.looks_clsIn X hc) ?_))))))
 rw[hd']
 refine aJ (a:=some dx) (ay (aJ (ay ?_)))
 refine wpAny_nsSet1 (s:={ s with toks:=s.toks+1 }) I.ns λh' hn2 hs2=>?_
 obtain⟨oD,esD,epD,hoD,hdD,hcD⟩:=hn2.count (PySem.Within.cons name v hw)
 refine ay (wpAny_lookBehind hoD (by rw[hdD];exact pastItsLine_dict (fJ hcD (by rw[fh];lia))) ?_)
 exact aJ (h _ ⟨(hs2.2 _ (fO I.ne)).trans I.obj,hn2,I.ne⟩ hs2)
theorem Ss{R:Result->Shared->Prop}{vs:List Value}{kw:List (Str×Value)}(X:K.In s.heap)(hm:PySem.W.makesIn K C=true)
  (hi:PySem.W.findIn K (.ref C) "__init__" = some (some (.ref f))) (hf:PySem.W.typeIn K (.ref f)=some (.type "function"))
  (h:codeAny (model prog w) (A.under (.builtin "type.__call__" ⟨.ref C::vs,kw⟩)) (.call (.ref f) ⟨.ref (s.heap.objs.size+1)::vs,kw⟩) (PySem.W.InitBack (s.heap.objs.size+1) R)
   { s with heap:=(s.heap.push PySem.W.emptyDict).push (PySem.W.instObj C s.heap.objs.size) }) :
  codeAny (model prog w) A (.call (.ref C) ⟨vs,kw⟩) R s:=by
 obtain⟨hh,g,d,t,os⟩:=s
 exact PySem.W.make_core (PySem.W.makes_of X hm) (Hi X hi) (λself=>PySem.W.bind_fn X self hf) (.inl rfl) h
end
def nU(f:Str)(v:V):List (Str×V)->List (Str×V)
 | []=>[(f,v)]
 | (g,x)::r=>if g=f then (g,v)::r else (g,x)::nU f v r
theorem vk(f g:Str)(v:V):∀fs:List (Str×V),(nU f v fs).lookup g=if g=f then some v else fs.lookup g
 | []=>by
  show List.lookup g [(f,v)]=_
  by_cases h:g=f
  ·have hb:(g==f)=true:=beq_iff_eq.mpr h
   simp only[List.lookup,hb,aC h]
  ·have hb:(g==f)=false:=uY.mpr h
   simp only[List.lookup,hb,aB h]
 | (k,x)::r=>by
  have ih:=vk f g v r
  rw[show nU f v ((k,x)::r)=(if k=f then (k,v)::r else (k,x)::nU f v r) from rfl]
  by_cases hk:k=f
  ·rw[aC hk]
   by_cases h:g=k
   ·have hb:(g==k)=true:=beq_iff_eq.mpr h
    simp only[List.lookup,hb,aC (h.trans hk)]
   ·have hb:(g==k)=false:=uY.mpr h
    simp only[List.lookup,hb,aB (λe:g=f=>h (e.trans hk.symm))]
  ·rw[aB hk]
   by_cases h:g=k
   ·have hb:(g==k)=true:=beq_iff_eq.mpr h
    simp only[List.lookup,hb,aB (λe:g=f=>hk (h.symm.trans e))]
   ·have hb:(g==k)=false:=uY.mpr h
    simp only[List.lookup,hb]
    exact ih
theorem uy(f:Str)(v:V):∀fs:List (Str×V),f∈(nU f v fs).map (·.1)/\∀g,g∈fs.map (·.1)->g∈(nU f v fs).map (·.1)
 | []=>⟨by simp[nU],λg h=>by simp at h⟩
 | (k,x)::r=>by
  obtain⟨i1,i2⟩:=uy f v r
  rw[show nU f v ((k,x)::r)=(if k=f then (k,v)::r else (k,x)::nU f v r) from rfl]
  by_cases hk:k=f
  ·rw[aC hk]
   subst hk
   exact⟨by simp,λg h=>by simpa using h⟩
  ·rw[aB hk]
   refine⟨?_,λg h=>?_⟩
   ·rw[fc]
    exact dW _ i1
   ·rw[fc]at h ⊢
    rcases bT.mp h with e | e
    ·exact bT.mpr (.inl e)
    ·exact dW _ (i2 g e)
theorem vm(f:Str)(v:V):∀fs:List (Str×V),(nU f v fs).length<=fs.length+1
 | []=>by simp[nU]
 | (k,x)::r=>by
  have ih:=vm f v r
  rw[show nU f v ((k,x)::r)=(if k=f then (k,v)::r else (k,x)::nU f v r) from rfl]
  by_cases hk:k=f
  ·rw[aC hk,fh,fh];lia
  ·rw[aB hk,fh,fh];lia
theorem pM.some_of{v:V}{o:Option Value}(r:pM (some v) o):∃u,o=some u/\RelV v u:=by
 cases o with
 | none=>exact(show False from r).elim
 | some u=>exact⟨u,rfl,r⟩
theorem pM.none_of{o:Option Value}(r:pM none o):o=none:=by
 cases o with
 | none=>rfl
 | some u=>exact(show False from r).elim
theorem Oo{v:V}{u:Value}(r:RelV v u):PySem.W.handedIn u=true:=by
 cases v with
 | non=>cases (show u=Value.none from r);rfl
 | bl b=>cases (show u=Value.bool b from r);rfl
 | int i=>obtain⟨t,e⟩:=(show ∃t,u=Value.int i t from r);cases e;rfl
 | str x=>obtain⟨t,e⟩:=(show ∃t,u=Value.str x t from r);cases e;rfl
 | Px b=>obtain⟨t,e⟩:=(show ∃t,u=Value.bytes b t from r);cases e;rfl
 | flt b=>obtain⟨t,e⟩:=(show ∃t,u=Value.float b t from r);cases e;rfl
 | ref a=>cases (show u=Value.ref a from r);rfl
 | ty n=>cases (show u=Value.type n from r);rfl
section
variable {P:Program}{w:World}{H H':Hp}{h h':Heap}{a C dx:Addr}{fs fs':List (Str×V)}
theorem vV(bx:gZ P w H h)(e:H a=some (.ins C dx fs)):∃mA,J7 h a dx C mA/\(∀f,pM (fs.lookup f) (mA f))/\PySem.Within mA (fs.map (·.1))/\fs.length<=1000/\H dx=some (.own a):=by
 obtain⟨d,z,ne,ob,mA,n,r,q⟩:=(show dE P w H h a (.ins C dx fs) from bx a _ e)
 exact⟨mA,⟨ob,n,ne⟩,r,q,z,d⟩
end
structure Cls(K:PySem.W.Frag)(C:Addr):Prop where
 pg:PySem.W.plainGet K C Str.empty=true
 hd:PySem.W.hasDictIn K C=true
 po:PySem.W.plainOver K C=true
 sa:PySem.W.findIn K (.ref C) "__setattr__" = some (some (.builtin "object.__setattr__"))
theorem Cls.get{K:PySem.W.Frag}{C:Addr}(c:Cls K C)(f:Str):PySem.W.plainGet K C f=true:=c.pg
def iG(K:PySem.W.Frag)(C:Addr)(f:Str):Prop:=PySem.W.findIn K (.ref C) f=some none
theorem iG.aBS{K:PySem.W.Frag}{C:Addr}{f:Str}(n:iG K C f):PySem.W.takerIn K C f=some none:=by
 unfold PySem.W.takerIn
 rw[show PySem.W.findIn K (.ref C) f=some none from n]
 rfl
structure Meth(K:PySem.W.Frag)(C:Addr)(m:Str)(f:Addr):Prop where
 at_:PySem.W.findIn K (.ref C) m=some (some (.ref f))
 fn:PySem.W.isFn K (.ref f)=true
 kp:PySem.W.keepIn K (.ref f)=true
section
variable {X:Cx}{pins:List (Addr×Obj)}{σ:St}{H:Hp}{s:Shared}{a C dx:Addr}{fs:List (Str×V)}{f:Str}{v:V}{A:Around}{E:Value->Shared->Prop}
theorem xW{b:Bool}{Q:Value->Shared->Prop}(I:Inv X pins σ H s)(e:H a=some (.ins C dx fs))(c:Cls X.K C)(n:iG X.K C f)(l:fs.lookup f=some v)
  (h:∀u s',Inv X pins σ H s'->RelV v u->Q u s'):wpAny (model X.prog X.w) A (getAttr (.ref a) f b) Q E s:=by
 obtain⟨mA,O,r,_,_,_⟩:=vV I.bx e
 obtain⟨u,hu,ru⟩:=pM.some_of (v:=v) (o:=mA f) (by rw[<-l];exact r f)
 exact get_map I.qc O (c.get f) c.hd n hu (Oo ru) (h u _ (I.tok _) ru)
theorem xV{m:Str}{g:Addr}{pl:Sem Bool}{Q:Value×List Value->Shared->Prop}(I:Inv X pins σ H s)(e:H a=some (.ins C dx fs))(c:Cls X.K C)(k:Meth X.K C m g)(l:fs.lookup m=none)
  (h:Q (.ref g,[.ref a]) s):wpAny (model X.prog X.w) A (getMethod (.ref a) m pl) Q E s:=by
 obtain⟨mA,O,r,_,_,_⟩:=vV I.bx e
 have hn:mA m=none:=pM.none_of (by rw[<-l];exact r m)
 exact TX I.qc O (c.get m) k.at_ k.fn hn h
theorem HW{y:V}{u:Value}{Q:Unit->Shared->Prop}(I:Inv X pins σ H s)(e:H a=some (.ins C dx fs))(c:Cls X.K C)(n:iG X.K C f)(hl:fs.length<1000)(ry:RelV y u)
  (h:∀s',Inv X pins σ (upd H a (.ins C dx (nU f y fs))) s'->Q () s'):wpAny (model X.prog X.w) A (setAttr (.ref a) f u) Q E s:=by
 obtain⟨mA,O,r,wi,_,ho⟩:=vV I.bx e
 have hz:(fs.map (·.1)).length<=sizeLine:=by rw[aQ,sizeLine_eq];lia
 refine VH I.qc O c.sa c.po n.aBS c.hd wi hz λh' O' sb=>h _ ?_
 have hd:∃o,h'.get? dx=some o:=let ⟨o,_,_,e',_⟩:=O'.ns;⟨o,e'⟩
 refine I.write (x:=a) (e:=dx) (by rw[e];exact True.intro) (.inr ho) (λb q hb z=>(sb.2 b hb).trans z) hd ?_
 refine⟨by rw[aj O.ne];exact ho,?_,O.ne,O'.obj,_,O'.ns,λg=>?_,λg hg=>?_⟩
 ·have:=vm f y fs;lia
 ·show pM ((nU f y fs).lookup g) (if g=f then some u else mA g)
  rw[vk]
  by_cases q:g=f
  ·rw[aC q,aC q];exact ry
  ·rw[aB q,aB q];exact r g
 ·by_cases q:g=f
  ·rw[q];exact(uy f y fs).1
  ·refine(uy f y fs).2 g (wi g λz=>hg ?_)
   show(if g=f then some u else mA g)=none
   rw[aB q];exact z
theorem Inv.made(I:Inv X pins σ H s):Inv X pins σ (upd (upd H s.heap.objs.size (.own (s.heap.objs.size+1))) (s.heap.objs.size+1) (.ins C s.heap.objs.size []))
  { s with heap:=(s.heap.push PySem.W.emptyDict).push (PySem.W.instObj C s.heap.objs.size) }:=by
 have e1:(s.heap.push PySem.W.emptyDict).get? s.heap.objs.size=some PySem.W.emptyDict:=cH s.heap rfl
 have e2:((s.heap.push PySem.W.emptyDict).push (PySem.W.instObj C s.heap.objs.size)).get? (s.heap.objs.size+1)=some (PySem.W.instObj C s.heap.objs.size):=by
  have:=cH (s.heap.push PySem.W.emptyDict) (o:=PySem.W.instObj C s.heap.objs.size) rfl
  rwa [pP]at this
 have e3:(s.heap.push PySem.W.emptyDict).Ns s.heap.objs.size (λ_=>none):=⟨PySem.W.emptyDict,#[],_,e1,rfl,(λe he=>absurd he (by simp)),λ_=>rfl⟩
 have I1:=I.laid (a:=s.heap.objs.size) (o:=.own (s.heap.objs.size+1)) (h':=s.heap.push PySem.W.emptyDict) (t':=s.toks) (λb u q=>bR _ q) (bB _) ⟨_,e1⟩
 refine I1.laid (a:=s.heap.objs.size+1) (o:=.ins C s.heap.objs.size []) (t':=s.toks) (λb u q=>bR _ q) (Nat.le_of_eq (pP _ _)) ?_
 have ne:s.heap.objs.size≠s.heap.objs.size+1:=bI (qv _)
 refine⟨by rw[aj ne,ah],dc _,ne,e2,λ_=>none,(Heap.Ns1.of_empty e3).at λo q=>bR _ q,λ_=>True.intro,λy hy=>absurd rfl hy⟩
theorem X7{prog:Program}{w:World}{env:Env}{e:Expr}{f:Str}{pos:Pos}{s:Shared}{Q:Value->Shared->Prop}(hb:attributeBase e f env (eval e env)=eval e env)
  (h:wpAny (model prog w) A (eval e env) (λo s₁=>wpAny (model prog w) A (getAttr o f true) Q E s₁) E s):wpAny (model prog w) A (eval (.Attribute e f pos) env) Q E s:=
 Attribute_any_ h (by rw[arm_eval_Attribute,hb])
end
def Vt(K:PySem.W.Frag)(ta:TE)(f:Str):TE:=λσ H Q=>ta σ H λx H1=>∃a C dx fs v,x=.ref a/\H1 a=some (.ins C dx fs)/\Cls K C/\iG K C f/\fs.lookup f=some v/\Q v H1
def VL(K:PySem.W.Frag)(ta tv:TE)(f:Str):TS:=λD σ H=>tv σ H λy H1=>ta σ H1 λx H2=>∃a C dx fs,x=.ref a/\H2 a=some (.ins C dx fs)/\Cls K C/\iG K C f/\fs.length<1000/\
 D.nx σ (upd H2 a (.ins C dx (nU f y fs)))
section
variable {X:Cx}{o e value:Expr}{f:Str}{pos pos' Qi:Pos}{ta tv:TE}
theorem aAy(he:PE X e ta)(hb:attributeBase e f X.env (eval e X.env)=eval e X.env):PE X (.Attribute e f pos) (Vt X.K ta f):=by
 intro pins s σ H Q I h
 refine X7 hb (cM (he pins s σ H _ I h) λu s1 ⟨x,H1,I1,rx,a,C,dx,fs,v,ex,ea,c,n,l,q⟩=>?_)
 subst ex
 obtain rfl:u=Value.ref a:=rx
 exact xW I1 ea c n l λu' s2 I2 ru=>⟨v,H1,I2,ru,q⟩
theorem aAn(ha:PE X o ta)(hv:PE X value tv)(hs:swapsWith value (some (.Attribute o f pos')) pos.line X.env=pure false):PS X (.Assign [.Attribute o f pos'] value pos) (VL X.K ta tv f):=by
 intro pins s σ H D I h
 refine plainObj_wpAny_Assign_Attribute (cM (hv pins s σ H _ I h) λu s1 ⟨y,H1,I1,ry,q⟩=>cM (ha pins s1 σ H1 _ I1 q) λov s2 ⟨x,H2,I2,rx,a,C,dx,fs,ex,ea,c,n,l,q2⟩=>?_) hs
 subst ex
 obtain rfl:ov=Value.ref a:=rx
 exact HW I2 ea c n l ry λs3 I3=>⟨σ,_,I3,q2⟩
theorem YH{pl:Sem Bool}{m:Str}{apos:Pos}{args:List Expr}{pins:List (Addr×Obj)}{s:Shared}{σ:St}{H:Hp}{Q:Value->Shared->Prop}{te:TE}(he:PE X e te)(I:Inv X pins σ H s)
  (h:te σ H λx H1=>∃a C dx fs g,x=.ref a/\H1 a=some (.ins C dx fs)/\Cls X.K C/\Meth X.K C m g/\fs.lookup m=none/\
   ∀s1,Inv X pins σ H1 s1->wpAny (model X.prog X.w) X.A (callWith pos (.ref g) [.ref a] (backTo pos (starEach args X.env)) (backToKw pos (keywordEach [] X.env))) Q X.xe s1)
  (ht:eval (.Call (.Attribute e m apos) args [] pos) X.env=(do
   let ov <-eval e X.env
   standAt apos.atName
   let (f,first) <-holding [ov] (getMethod ov m pl)
   callWith pos f first (backTo pos (starEach args X.env)) (backToKw pos (keywordEach [] X.env)))) :
  wpAny (model X.prog X.w) X.A (eval (.Call (.Attribute e m apos) args [] pos) X.env) Q X.xe s:=by
 refine Bf (pl:=pl) (cM (he pins s σ H _ I h) λu s1 ⟨x,H1,I1,rx,a,C,dx,fs,g,ex,ea,c,k,l,q⟩=>?_) ht
 subst ex
 obtain rfl:u=Value.ref a:=rx
 exact xV I1 ea c k l (q s1 I1)
end
section
variable {X:Cx}{pins:List (Addr×Obj)}{σ:St}{H:Hp}{s:Shared}{A:Around}{E:Value->Shared->Prop}{Q:Value->Shared->Prop}{c:Value}{b:Bool}
inductive vL (K:PySem.W.Frag) (H:Hp):V->Value->Prop where
 | non:vL K H .non (.type "NoneType")
 | bl (x:Bool):vL K H (.bl x) (.type "bool")
 | int (i:Int):vL K H (.int i) (.type "int")
 | str (x:Str):vL K H (.str x) (.type "str")
 | flt (x:UInt64):vL K H (.flt x) (.type "float")
 | lst {a:Addr} {xs:List V} (e:H a=some (.lst xs)):vL K H (.ref a) (.type "list")
 | Dy {a:Addr} {o:Obj} {xs:List V} (e:H a=some (.Dy o (.lst xs))):vL K H (.ref a) (.type "list")
 | tup {a:Addr} {xs:List V} (e:H a=some (.tup xs)):vL K H (.ref a) (.type "tuple")
 | dK {a:Addr} {aM:List (Key×V)} (e:H a=some (.dK aM)):vL K H (.ref a) (.type "dict")
 | dT {a:Addr} {aM:List (List Key×V)} (e:H a=some (.dT aM)):vL K H (.ref a) (.type "dict")
 | ins {a C dx:Addr} {fs:List (Str×V)} (e:H a=some (.ins C dx fs)) (cl:Cls K C) (ha:PySem.W.findIn K (.ref C) "__class__" = some (some (.builtin "object.__class__")))
   (hn:PySem.W.specialIn K (.builtin "object.__class__") "__get__" = some (some (.builtin "getset_descriptor.__get__"))) (htk:PySem.W.takesIn K (.builtin "object.__class__")=some true)
   (hm:PySem.W.mroIn K C (.type "object")=some true):vL K H (.ref a) (.ref C)
end
end L2
namespace L2
open PySem PySem.Spec PyProof.Rows
structure cv(k:Nat)(A:Around):Prop where
 hd:A.handled=none
 dp:A.depth+3*k+5<recursionLimit
 un:A.units+16*k+200<cLine
theorem cv.mono{j k:Nat}{A:Around}(r:cv k A)(h:j<=k:=by lia):cv j A:=⟨r.hd,by have:=r.dp;lia,by have:=r.un;lia⟩
theorem cv.deeper{k:Nat}{A:Around}(r:cv (k+1) A)(env:Env):cv k (A.deeper env):=
 ⟨r.hd,by have:=r.dp;show A.depth+1+3*k+5<_;lia,by have:=r.un;show A.units+3+16*k+200<_;lia⟩
theorem cv.in1{k:Nat}{A:Around}(r:cv (k+1) A):cv k A.in1:=
 ⟨r.hd,by have:=r.dp;show A.depth+3*k+5<_;lia,by have:=r.un;show A.units+1+16*k+200<_;lia⟩
theorem Iz{A:Around}{C:Addr}{us:List Value}{kw:List (Str×Value)}:(A.under (.builtin "type.__call__" ⟨.ref C::us,kw⟩)).depth=A.depth+1:=by
 first | rfl | simp[Around.under,Code.weight,Code.isCreation,Code.isGuard,Code.isCaller,Code.frames,Code.isFrame,guardIds]
theorem Iy{A:Around}{C:Addr}{us:List Value}{kw:List (Str×Value)}:(A.under (.builtin "type.__call__" ⟨.ref C::us,kw⟩)).units=A.units+1:=by
 first | rfl | simp[Around.under,Code.cUnits,Code.frames,Code.isFrame]
theorem cv.make{k:Nat}{A:Around}(r:cv (k+1) A)(C:Addr)(us:List Value)(kw:List (Str×Value)):cv k (A.under (.builtin "type.__call__" ⟨.ref C::us,kw⟩)):=
 ⟨r.hd,by have:=r.dp;rw[Iz];lia,by have:=r.un;rw[Iy];lia⟩
theorem cv.depth{k:Nat}{A:Around}(r:cv k A):A.depth<recursionLimit:=by have:=r.dp;lia
theorem cv.units{k:Nat}{A:Around}(r:cv k A):A.units+64<cLine:=by have:=r.un;lia
theorem cv.jn{k:Nat}{A:Around}(r:cv k A):A.units<cLine:=by have:=r.un;lia
def Nc:TA:=λ_ H Q=>Q [] H
def zp(ta:TE)(tr:TA):TA:=λσ H Q=>ta σ H λx H1=>tr σ H1 λxs H2=>Q (x::xs) H2
section
variable {X:Cx}{e:Expr}{es:List Expr}{te:TE}{t:TA}{pos:Pos}
theorem Ii:PA X [] Nc:=λ_ _ _ _ H Q I h=>Calls.spliced_nil ⟨[],H,I,.nil,h⟩
theorem vT(ha:PE X e te)(hr:PA X es t)(hs:starEach (e::es) X.env=(false,eval e X.env)::starEach es X.env:=by rfl):PA X (e::es) (zp te t):=by
 intro pos pins s σ H Q I h
 rw[hs]
 show wpAny _ _ (spliced ((false,eval e X.env)::backTo pos (starEach es X.env))) _ _ s
 refine Calls.spliced_cons (cM (ha pins s σ H _ I h) λu s1 ⟨x,H1,I1,r1,q1⟩=>?_)
 exact cM (hr pos pins s1 σ H1 _ I1 q1) λus s2 ⟨xs,H2,I2,r2,q2⟩=>⟨x::xs,H2,I2,.cons r1 r2,q2⟩
def Qm(t:TA):TE:=λσ H Q=>t σ H λxs H1=>xs.length<=sizeLine/\∀p,H1 p=none->Q (.ref p) (upd H1 p (.tup xs))
def Qs(t:TA):TE:=λσ H Q=>t σ H λxs H1=>xs.length<=sizeLine/\∀p,H1 p=none->Q (.ref p) (upd H1 p (.lst xs))
theorem aAt{x1}(h:PA X es t):PE X (.Tuple es x1 pos) (Qm t):=by
 intro pins s σ H Q I hq
 refine wpAny_Tuple_spliced (cM (h pos pins s σ H _ I hq) λus s1 ⟨xs,H1,I1,r,z,q⟩=>⟨by rw[<-r.length];exact z,?_⟩)
 have hf:H1 s1.heap.objs.size=none:=I1.bx.fresh (bB _)
 refine⟨.ref s1.heap.objs.size,upd H1 s1.heap.objs.size (.tup xs),I1.laid (t':=s1.toks) (λb u e=>bR _ e) (bB _) ?_,rfl,q _ hf⟩
 exact⟨z,us,r,⟨_,cH _ rfl,rfl,_,rfl⟩⟩
theorem aAw(h:PA X es t):PE X (.List es pos) (Qs t):=by
 intro pins s σ H Q I hq
 refine wpAny_List_spliced (cM (h pos pins s σ H _ I hq) λus s1 ⟨xs,H1,I1,r,z,q⟩=>⟨by rw[<-r.length];exact z,?_⟩)
 have hf:H1 s1.heap.objs.size=none:=I1.bx.fresh (bB _)
 refine⟨.ref s1.heap.objs.size,upd H1 s1.heap.objs.size (.lst xs),I1.laid (t':=s1.toks) (λb u e=>bR _ e) (bB _) ?_,rfl,q _ hf⟩
 exact⟨z,us,0,r,cH _ rfl⟩
end
abbrev Sp:=List V->Hp->VK->XK->Prop
abbrev Mz:=List Env->Hp->Shared->XK->Value->Shared->Prop
structure oV(P:Program)(w:World)(K:PySem.W.Frag)(mg:Str->Option Value)(base:Heap)(A:Around)(outer:List Env)(s:Shared)(H:Hp):Prop where
 frames:A.frames=some outer
 mod:Mod K mg base
 bs:∀b o,base.get? b=some o->s.heap.get? b=some o/\H b=none
 G3:base.objs.size<=s.heap.objs.size
 mr:s.heap.FunFrames base outer
 JD:∀b∈nh outer,H b=none
 bx:gZ P w H s.heap
 bare:AllBare s.gens
def CE(outer:List Env)(P:Program)(w:World)(H:Hp)(s:Shared)(Q:VK)(u:Value)(s':Shared):Prop:=
 ∃v H',s'.os=s.os/\AllBare s'.gens/\Un (nh outer) [] H H' s.heap s'.heap/\gZ P w H' s'.heap/\RelV v u/\Q v H'
def CR(CX:Mz)(outer:List Env)(P:Program)(w:World)(H:Hp)(s:Shared)(Q:VK)(E:XK)(r:Result)(s':Shared):Prop:=
 match r with
 | .ok (.ret u)=>CE outer P w H s Q u s'
 | .ok _=>False
 | .error e=>CX outer H s E e s'
structure cq(P:Program)(w:World)(K:PySem.W.Frag)(mg:Str->Option Value)(base:Heap)(CX:Mz)(k:Nat)(f:Addr)(fd:FuncData)(ps:List Str)(sp:Sp):Prop where
 len:∀vs H Q E,sp vs H Q E->vs.length=ps.length
 run:∀(A:Around) (outer:List Env) (s:Shared) (H:Hp) (args:Args) (us:List Value) (vs:List V) (Q:VK) (E:XK),cv k A->oV P w K mg base A outer s H->BindsTo s fd args (ps.zip us)->Vals vs us->sp vs H Q E->
  codeAny (model P w) A (.call (.ref f) args) (CR CX outer P w H s Q E) s
theorem oV.make{P:Program}{w:World}{K:PySem.W.Frag}{mg:Str->Option Value}{base:Heap}{A:Around}{outer:List Env}{s:Shared}{H:Hp}(e:oV P w K mg base A outer s H)(C:Addr)(us:List Value)(kw:List (Str×Value)) :
  oV P w K mg base (A.under (.builtin "type.__call__" ⟨.ref C::us,kw⟩)) outer s H:=⟨by first | exact e.frames | (simpa [Around.under,Code.envs,Code.isFrame,pushEnvs]using e.frames),e.mod,e.bs,e.G3,e.mr,e.JD,e.bx,e.bare⟩
theorem oV.in1{P:Program}{w:World}{K:PySem.W.Frag}{mg:Str->Option Value}{base:Heap}{A:Around}{outer:List Env}{s:Shared}{H:Hp}(e:oV P w K mg base A outer s H) :
  oV P w K mg base A.in1 outer s H:=⟨e.frames,e.mod,e.bs,e.G3,e.mr,e.JD,e.bx,e.bare⟩
section
variable {X:Cx}{pins:List (Addr×Obj)}{σ:St}{H:Hp}{s s':Shared}
theorem Inv.yW(I:Inv X pins σ H s):oV X.prog X.w X.K X.mg X.base X.A X.stack s H:=
 ⟨I.ok.frames,I.ok.mod,I.bs,fJ I.ok.G3 I.sz,I.stack,I.sU,I.bx,I.bare⟩
theorem Inv.after{Q:VK}{u:Value}(I:Inv X pins σ H s)(h:CE X.stack X.prog X.w H s Q u s'):EP X pins σ Q u s':=by
 obtain⟨v,H',os,bare,un,bx,r,q⟩:=h
 obtain⟨hh,g,d,t,os'⟩:=s'
 obtain rfl:os'=s.os:=os
 exact⟨v,H',I.call (h':=hh) (g':=g) (d':=d) (t':=t) (ch:=[]) un bx bare (λb z=>absurd z (by simp)),r,q⟩
end
def zq(sp:Sp)(uE:List V)(E:XK)(t:TA):TE:=λσ H Q=>t σ H λvs H1=>sp (vs++uE) H1 Q E
def Ko(C:Addr)(m:Str)(sp:Sp)(uE:List V)(E:XK)(ta:TE)(t:TA):TE:=λσ H Q=>ta σ H λx H1=>∃a dx fs,x=.ref a/\H1 a=some (.ins C dx fs)/\fs.lookup m=none/\
 t σ H1 λvs H2=>sp (x::(vs++uE)) H2 Q E
def Kq(C:Addr)(sp:Sp)(uE:List V)(E:XK)(t:TA):TE:=λσ H Q=>t σ H λvs H1=>∀x dx,H1 x=none->H1 dx=none->dx≠x->
 sp (.ref x::(vs++uE)) (upd (upd H1 dx (.own x)) x (.ins C dx [])) (λv H2=>v=.non/\Q (.ref x) H2) E
def Binds(K:PySem.W.Frag)(fd:FuncData)(ps:List Str)(ds:List Value):Prop:=
 ∀(s:Shared) (us:List Value),K.In s.heap->(us++ds).length=ps.length->BindsTo s fd ⟨us,[]⟩ (ps.zip (us++ds))
theorem Binds.all{K:PySem.W.Frag}{fd:FuncData}{ps:List Str}(h:∀us:List Value,us.length=ps.length->bindArgs fd ⟨us,[]⟩=pure (ps.zip us)):Binds K fd ps []:=λs us _ hl=>by
 rw[gh]at hl ⊢
 exact .of_eq (h us hl)
def Passes(CX:Mz)(X:Cx)(E:XK):Prop:=∀(pins:List (Addr×Obj)) (σ:St) (H:Hp) (s:Shared) (e:Value) (s':Shared),Inv X pins σ H s->CX X.stack H s E e s'->X.xe e s'
section
variable {X:Cx}{CX:Mz}{k:Nat}{f C:Addr}{fd:FuncData}{ps:List Str}{sp:Sp}{uE:List V}{ds:List Value}{E:XK}{x m:Str}{p pos apos:Pos}{e o:Expr}{es:List Expr}{ta:TE}{t:TA}
theorem QZ{pins:List (Addr×Obj)}{σ:St}{H:Hp}{s:Shared}{Q:VK}{us:List Value}{vs:List V}(F:cq X.prog X.w X.K X.mg X.base CX k f fd ps sp)(hr:cv k X.A)(hb:Binds X.K fd ps ds)(hd:Vals uE ds)(hx:Passes CX X E)
  (I:Inv X pins σ H s) (r:Vals vs us) (h:sp (vs++uE) H Q E):wpAny (model X.prog X.w) X.A (call (.ref f) us) (EP X pins σ Q) X.xe s:=by
 have r2:Vals (vs++uE) (us++ds):=r.append hd
 have hl:(us++ds).length=ps.length:=by rw[<-r2.length];exact F.len _ _ _ _ h
 refine jJ (ic (F.run X.A X.stack s H ⟨us,[]⟩ (us++ds) (vs++uE) Q E hr I.yW (hb s us I.qc hl) r2 h) λr s' hq=>?_)
 cases r with
 | error e=>exact hx pins σ H s e s' I hq
 | ok fl=>
  cases fl with
  | ret u=>exact I.after hq
  | next=>exact False.elim hq
  | brk=>exact False.elim hq
  | cont=>exact False.elim hq
theorem vS(F:cq X.prog X.w X.K X.mg X.base CX k f fd ps sp)(hr:cv k X.A)(hg:Gl X x)(hm:X.mg x=some (.ref f))(hk:PySem.W.keepIn X.K (.ref f)=true)(hb:Binds X.K fd ps ds)(hd:Vals uE ds)(hx:Passes CX X E)
  (ha:PA X (e::es) t) (lA:(x==("__debug__" : Str))=false:=by decide) (he:starEach (e::es) X.env=(false,eval e X.env)::starEach es X.env:=by rfl) (iF:(backTo pos (starEach es X.env)).any (·.1)=false:=by rfl) :
  PE X (.Call (.Name x p) (e::es) [] pos) (zq sp uE E t):=by
 intro pins s σ H Q I h
 refine mM (hX I hg hm ?_ lA)
 refine uX (h₀:=X.base) I.ok.mod.Sz hk (cM (ha pos pins s σ H _ I h) λus s1 ⟨vs,H1,I1,r,q⟩=>⟨I1.qc,?_⟩) he iF
 exact QZ F hr hb hd hx I1 r q
theorem Wt{pl:Sem Bool}(he:PE X o ta)(c:Cls X.K C)(hm:Meth X.K C m f)(F:cq X.prog X.w X.K X.mg X.base CX k f fd ps sp)(hr:cv k X.A)(hb:Binds X.K fd ps ds)(hd:Vals uE ds)(hx:Passes CX X E)(ha:PA X (e::es) t)
  (Dw:starEach (e::es) X.env=(false,eval e X.env)::starEach es X.env:=by rfl) (iF:(backTo pos (starEach es X.env)).any (·.1)=false:=by rfl)
  (ht:eval (.Call (.Attribute o m apos) (e::es) [] pos) X.env=(do
   let ov <-eval o X.env
   standAt apos.atName
   let (f,first) <-holding [ov] (getMethod ov m pl)
   callWith pos f first (backTo pos (starEach (e::es) X.env)) (backToKw pos (keywordEach [] X.env))):=by rfl) :
  PE X (.Call (.Attribute o m apos) (e::es) [] pos) (Ko C m sp uE E ta t):=by
 intro pins s σ H Q I h
 refine Bf (pl:=pl) (cM (he pins s σ H _ I h) λu s1 ⟨x,H1,I1,rx,a,dx,fs,ex,ea,l,q⟩=>?_) ht
 subst ex
 obtain rfl:u=Value.ref a:=rx
 refine xV I1 ea c hm l ?_
 refine uX (first:=[.ref a]) (h₀:=X.base) I.ok.mod.Sz hm.kp (cM (ha pos pins s1 σ H1 _ I1 q) λus s2 ⟨vs,H2,I2,r,q2⟩=>⟨I2.qc,?_⟩) Dw iF
 exact QZ (us:=.ref a::us) (vs:=.ref a::vs) F hr hb hd hx I2 (.cons rfl r) q2
structure Mk(K:PySem.W.Frag)(C f:Addr):Prop where
 makes:PySem.W.makesIn K C=true
 init:PySem.W.findIn K (.ref C) "__init__" = some (some (.ref f))
 fn:PySem.W.isFn K (.ref f)=true
 kp:PySem.W.keepIn K (.ref C)=true
theorem QX{pins:List (Addr×Obj)}{σ:St}{H:Hp}{s:Shared}{Q:VK}{us:List Value}{vs:List V}(M:Mk X.K C f)(F:cq X.prog X.w X.K X.mg X.base CX k f fd ps sp)(hr:cv (k+1) X.A)(hb:Binds X.K fd ps ds)(hd:Vals uE ds)
  (hx:Passes CX X E) (I:Inv X pins σ H s) (r:Vals vs us)
  (h:∀x dx,H x=none->H dx=none->dx≠x->sp (.ref x::(vs++uE)) (upd (upd H dx (.own x)) x (.ins C dx [])) (λv H2=>v=.non/\Q (.ref x) H2) E) :
  wpAny (model X.prog X.w) X.A (call (.ref C) us) (EP X pins σ Q) X.xe s:=by
 have hq:=h (s.heap.objs.size+1) s.heap.objs.size (I.bx.fresh (nk _)) (I.bx.fresh (bB _)) (bI (qv _))
 have I2:=Inv.made (C:=C) I
 have r2:Vals (V.ref (s.heap.objs.size+1)::(vs++uE)) (Value.ref (s.heap.objs.size+1)::(us++ds)):=.cons rfl (r.append hd)
 have hl:(Value.ref (s.heap.objs.size+1)::us++ds).length=ps.length:=by
  have e:=r2.length
  rw[F.len _ _ _ _ hq]at e
  exact e.symm
 refine jJ (Ss (f:=f) I.qc M.makes M.init (beq_iff_eq.mp M.fn) (ic (F.run _ X.stack _ _ ⟨Value.ref (s.heap.objs.size+1)::us,[]⟩ (Value.ref (s.heap.objs.size+1)::(us++ds)) _ _ E (hr.make C us [])
  (I2.yW.make C us []) (hb _ (Value.ref (s.heap.objs.size+1)::us) I2.qc hl) r2 hq) λr s' Jv=>?_))
 cases r with
 | error e=>exact hx pins σ _ _ e s' I2 Jv
 | ok fl=>
  cases fl with
  | ret u=>
   obtain⟨v,H',I3,rv,ev,q3⟩:=I2.after Jv
   subst ev
   exact⟨rv,⟨V.ref (s.heap.objs.size+1),H',I3,rfl,q3⟩⟩
  | next=>exact False.elim Jv
  | brk=>exact False.elim Jv
  | cont=>exact False.elim Jv
theorem Wu(M:Mk X.K C f)(F:cq X.prog X.w X.K X.mg X.base CX k f fd ps sp)(hr:cv (k+1) X.A)(hg:Gl X x)(hm:X.mg x=some (.ref C))(hb:Binds X.K fd ps ds)(hd:Vals uE ds)(hx:Passes CX X E)
  (ha:PA X (e::es) t) (lA:(x==("__debug__" : Str))=false:=by decide) (he:starEach (e::es) X.env=(false,eval e X.env)::starEach es X.env:=by rfl) (iF:(backTo pos (starEach es X.env)).any (·.1)=false:=by rfl) :
  PE X (.Call (.Name x p) (e::es) [] pos) (Kq C sp uE E t):=by
 intro pins s σ H Q I h
 refine mM (hX I hg hm ?_ lA)
 refine uX (h₀:=X.base) I.ok.mod.Sz M.kp (cM (ha pos pins s σ H _ I h) λus s1 ⟨vs,H1,I1,r,q⟩=>⟨I1.qc,?_⟩) he iF
 exact QX M F hr hb hd hx I1 r q
end
def PK(X:Cx)(kws:List Keyword)(t:TA):Prop:=
 ∀(pos:Pos) (pins:List (Addr×Obj)) (s:Shared) (σ:St) (H:Hp) (Q:List V->Hp->Prop),Inv X pins σ H s->t σ H Q->wpAny (model X.prog X.w) X.A (evalAll ((backToKw pos (keywordEach kws X.env)).map (·.2))) (AP X pins σ Q) X.xe s
section
variable {X:Cx}{CX:Mz}{k:Nat}{f C:Addr}{fd:FuncData}{ps ks:List Str}{sp:Sp}{E:XK}{x m:Str}{p pos apos kpos:Pos}{e o:Expr}{es:List Expr}{kws:List Keyword}{te ta:TE}{t tk:TA}{nm:Option Str}
theorem aAq:PK X [] Nc:=λ_ _ _ _ H Q I h=>wpAny_evalAll_nil ⟨[],H,I,.nil,h⟩
theorem Wq(ha:PE X e te)(hr:PK X kws t):PK X (⟨nm,e,kpos⟩::kws) (zp te t):=by
 intro pos pins s σ H Q I h
 show wpAny _ _ (evalAll ((do let v <-eval e X.env;standAt pos;pure v)::(backToKw pos (keywordEach kws X.env)).map (·.2))) _ _ s
 refine wpAny_evalAll_cons (ay (cM (ha pins s σ H _ I h) λu s1 ⟨x,H1,I1,r1,q1⟩=>ay (t6 (aJ ?_))))
 exact cM (hr pos pins s1 σ H1 _ I1 q1) λus s2 ⟨xs,H2,I2,r2,q2⟩=>⟨x::xs,H2,I2,.cons r1 r2,q2⟩
variable {g:List Value->List Value->List Value}{gV:List V->List V->List V}
end
structure aU(N P:List Str)(sc:Scope):Prop where
 kind:sc.kind=.function
 co:sc.isCoroutine=false
 gen:sc.isGenerator=false
 nd:N.Nodup
 pre:N.take P.length=P
 par:∀x∈P,sc.names.lookup x=some .local\/sc.names.lookup x=some .cell
 aAG:∀y∈sc.names,y.2≠.free
theorem z8{kindOf:Str->Option NameKind}{x:Str}:∀{binds:List (Str×Value)} {m:Str->Option Value},(∀v,(x,v)∉binds)->bindL kindOf binds m x=m x
 | [],_,_=>rfl
 | (n,v)::r,m,h=>by
  unfold bindL
  rw[z8 λw hw=>h w (dW _ hw)]
  split
  ·have:x≠n:=by rintro rfl;exact h v dD
   simp[this]
  ·rfl
theorem Ab{kindOf:Str->Option NameKind}{x:Str}:∀{binds:List (Str×Value)} {m:Str->Option Value},(∀v,(x,v)∉binds)->bindC kindOf binds m x=m x
 | [],_,_=>rfl
 | (n,v)::r,m,h=>by
  unfold bindC
  rw[Ab λw hw=>h w (dW _ hw)]
  split
  ·rfl
  ·have:x≠n:=by rintro rfl;exact h v dD
   simp[this]
theorem Aa{kindOf:Str->Option NameKind}{x:Str}{v:Value}:∀{P:List Str} {vs:List Value} {i:Nat} {m:Str->Option Value},P.Nodup->P[i]?=some x->vs[i]?=some v->kindOf x=some .local->
  bindL kindOf (P.zip vs) m x=some v
 | [],_,_,_,_,h,_,_=>by simp at h
 | _::_,[],_,_,_,_,h,_=>by simp at h
 | p::P,w::vs,0,m,nd,h1,h2,hk=>by
  simp at h1 h2;subst h1;subst h2
  show bindL kindOf ((p,w)::P.zip vs) m p=_
  unfold bindL
  rw[z8 λv hv=>(nq.mp nd).1 (uc hv).1,aC hk]
  simp
 | p::P,w::vs,i+1,m,nd,h1,h2,hk=>by
  show bindL kindOf ((p,w)::P.zip vs) m x=_
  unfold bindL
  exact Aa (i:=i) (nq.mp nd).2 (by simpa using h1) (by simpa using h2) hk
theorem Ac{kindOf:Str->Option NameKind}{x:Str}{v:Value}:∀{P:List Str} {vs:List Value} {i:Nat} {m:Str->Option Value},P.Nodup->P[i]?=some x->vs[i]?=some v->kindOf x≠some .local->
  bindC kindOf (P.zip vs) m x=some v
 | [],_,_,_,_,h,_,_=>by simp at h
 | _::_,[],_,_,_,_,h,_=>by simp at h
 | p::P,w::vs,0,m,nd,h1,h2,hk=>by
  simp at h1 h2;subst h1;subst h2
  show bindC kindOf ((p,w)::P.zip vs) m p=_
  unfold bindC
  rw[Ab λv hv=>(nq.mp nd).1 (uc hv).1,aB hk]
  simp
 | p::P,w::vs,i+1,m,nd,h1,h2,hk=>by
  show bindC kindOf ((p,w)::P.zip vs) m x=_
  unfold bindC
  exact Ac (i:=i) (nq.mp nd).2 (by simpa using h1) (by simpa using h2) hk
def start(N:List Str)(vs:List V):St:=vs.map some++List.replicate (N.length-vs.length) none
def dF(CX:Mz)(P:Program)(w:World)(K:PySem.W.Frag)(mg:Str->Option Value)(base:Heap)(N:List Str)(qual:Str)(scope:Scope)(f:Addr)(cd:Value)(A:Around)(outer:List Env)(s:Shared)(H:Hp)(E:XK):Cx where
 prog:=P
 w:=w
 K:=K
 mg:=mg
 base:=base
 A:=A.deeper (envOfC qual scope s.heap.objs.size f cd)
 N:=N
 s₀:=s
 H₀:=H
 env:=envOfC qual scope s.heap.objs.size f cd
 outer:=outer
 stack:=envOfC qual scope s.heap.objs.size f cd::outer
 ex:=[]
 calm:=true
 fn:=λ_=>true
 pn:=[]
 xe:=λe s'=>wpAny (model P w) (A.deeper (envOfC qual scope s.heap.objs.size f cd)) (leaving (envOfC qual scope s.heap.objs.size f cd) e) (λ_ s''=>CX outer H s E e s'') (λe' s''=>CX outer H s E e' s'') s'
theorem Gu{sc:Scope}{n:Nat}{x:Str}(h:sc.names.lookup x=some .cell):∃c,(cellsFrom n sc.names []).lookup x=some c:=by
 have q:=Hn sc.names n [] (.inl h)
 exact Option.isSome_iff_exists.mp q
theorem zT{CX:Mz}{P:Program}{w:World}{K:PySem.W.Frag}{mg:Str->Option Value}{base:Heap}{N ps:List Str}{qual:Str}{scope:Scope}{f:Addr}{cd:Value}{A:Around}{outer:List Env}{s s1:Shared}{H:Hp}{E:XK}{us:List Value}{vs:List V}
  (S:aU N ps scope) (hd:G6 (dF CX P w K mg base N qual scope f cd A outer s H E)) (e0:oV P w K mg base A outer s H) (hl:vs.length=ps.length) (r:Vals vs us)
  (x:InCallC s s.heap.objs.size (bindL (envOfC qual scope s.heap.objs.size f cd).kindOf (ps.zip us) λ_=>none) (cellsFrom (s.heap.objs.size+1) scope.names []) (bindC (envOfC qual scope s.heap.objs.size f cd).kindOf (ps.zip us) λ_=>none) s1) :
  Inv (dF CX P w K mg base N qual scope f cd A outer s H E) [] (start N vs) H s1:=by
 have iF:ps.length<=N.length:=by have:=fZ List.length S.pre;rw[jL]at this;lia
 obtain⟨h1,tk,rfl,hk⟩:=x.done
 have U5:∀b:Addr,b∉(dF CX P w K mg base N qual scope f cd A outer s H E).ex:=λb z=>absurd (show b∈([]:List Addr) from z) (by simp)
 refine⟨⟨e0.mod,S.kind,rfl,rfl,bB _,λy z c h1 h2=>?_,λy hy=>?_,λy c _ h=>?_,λ_=>hd,Around.frames_deeper e0.frames,.inr ⟨rfl,rfl⟩,λb z=>absurd z (U5 b),e0.bs,e0.G3,λb _ _=>U5 b,λb z=>absurd z (U5 b),e0.mr,e0.JD⟩,
  rfl,e0.bare,Un.kept hk,⟨_,x.toInCall.ns,λi y v h1 h2 h3=>?_⟩,λy c h=>⟨_,x.cell y c h⟩,e0.bx.fresh (bB _),λy c h=>?_,λp hp=>absurd (show p∈([]:List (Addr×Obj)) from hp) (by simp),e0.bx.kept hk,?_⟩
 ·exact name_of_addr x.apart (jM h1) (jM h2)
 ·have hy:scope.names.lookup y=some .cell\/scope.names.lookup y=some .free:=hy
  rcases hy with hy | hy
  ·exact Gu hy
  ·exact absurd rfl (S.aAG _ (jM hy))
 ·exact km (x.above y c (jM h))
 ·have hi:i<vs.length:=by
   unfold start at h2
   by_cases hi:i<vs.length
   ·exact hi
   ·rw[mQ (by simpa using hi)]at h2
    rw[List.getElem?_replicate]at h2
    split at h2 <;> cases h2
  have ha:vs[i]?=some v:=by
   unfold start at h2
   rw[nE (by simpa using hi),cU]at h2
   cases e:vs[i]? with
   | none=>rw[e]at h2;cases h2
   | some a=>rw[e]at h2;cases h2;rfl
  obtain⟨u,hu,rv⟩:=r.get ha
  have hp:ps[i]?=some y:=by
   rw[<-S.pre,List.getElem?_take_of_lt (by lia)];exact h1
  have ndP:ps.Nodup:=by rw[<-S.pre];exact S.nd.sublist (List.take_sublist _ _)
  refine⟨u,rv,?_⟩
  rcases S.par y (ny hp) with k | k
  ·exact .inl ⟨k,Aa ndP hp hu k⟩
  ·obtain⟨c,e⟩:=Gu (n:=s.heap.objs.size+1) k
   refine .inr ⟨.inl k,c,e,?_⟩
   have q:=x.cell y c e
   rw[Ac ndP hp hu (by show scope.names.lookup y≠_;rw[k];decide)]at q
   exact q
 ·exact e0.bx.fresh (km (x.above y c (jM h)))
 ·unfold start
  show _=N.length
  rw[cP,aQ,Be]
  lia
theorem T4{CX:Mz}{P:Program}{w:World}{K:PySem.W.Frag}{mg:Str->Option Value}{base:Heap}{k:Nat}{f:Addr}{name qual:Str}{params:Arguments}{body:List Stmt}{scope:Scope}{dV kV doc pm cD ct oc:Value}{an od:Option Addr}
  {Dv:Array (Option Value)} {N ps:List Str} {sp:Sp} (lk:K.lookup f=some ⟨oc,od,.func (PySem.W.fnOf name qual params body scope dV kV doc pm an cD ct),Dv⟩) (vq:PySem.W.codeIn K cD qual=true) (S:aU N ps scope)
  (len:∀vs H Q E,sp vs H Q E->vs.length=ps.length)
  (eI:∀(A:Around) (outer:List Env) (s:Shared) (H:Hp) (vs:List V) (Q:VK) (E:XK),cv k (A.deeper (envOfC qual scope s.heap.objs.size f cD))->sp vs H Q E->
   ∃t,yC (dF CX P w K mg base N qual scope f cD A outer s H E) body t/\t { nx:=λ_ H'=>Q .non H',rt:=Q } (start N vs) H) :
  cq P w K mg base CX (k+1) f (PySem.W.fnOf name qual params body scope dV kV doc pm an cD ct) ps sp:=by
 refine⟨len,λA outer s H args us vs Q E hr e0 hb r yR=>?_⟩
 have hl:=len _ _ _ _ yR
 have KX:K.In s.heap:=e0.mod.Sz.keeps λb o e=>(e0.bs b o e).1
 have lim:s.heap.NoLimit:=e0.mod.nolimit.keeps λb o e=>(e0.bs b o e).1
 have Ti:∀y∈ps.zip us,scope.names.lookup y.1=some .local\/(scope.names.lookup y.1=some .cell/\((cellsFrom (s.heap.objs.size+1) scope.names []).lookup y.1).isSome=true):=λ⟨n,v⟩ hy=>by
  rcases S.par n (uc hy).1 with q | q
  ·exact .inl q
  ·exact .inr ⟨q,Hn _ _ _ (.inl q)⟩
 refine codeAny_call_function hr.depth (KX _ _ lk) rfl S.co S.gen rfl (PySem.W.codeRec_of KX vq) (hb _ _ _ _ ?_)
 refine wpAny_newFunctionEnv_cells S.kind Ti λenv he s1 x=>?_
 subst he
 refine⟨lim.keeps x.toInCall.keep,codeAny_func ?_⟩
 obtain⟨t,ht,hq⟩:=eI A outer s H vs Q E (hr.deeper _) yR
 have I:Inv (dF CX P w K mg base N qual scope f cD A outer s H E) [] (start N vs) H s1:=zT S (.inl hr.hd) e0 hl r x
 refine dk (ht [] s1 (start N vs) H _ I hq) (λfl s' hs=>?_) λe s' hs=>hs
 have fin:∀{σ':St} {H':Hp} {v:V} {u:Value},Inv (dF CX P w K mg base N qual scope f cD A outer s H E) [] σ' H' s'->RelV v u->Q v H'->CE outer P w H s Q u s':=
  λ{σ' H' v u} J rv q=>⟨v,H',J.os,J.bare,J.base,J.bx,rv,q⟩
 cases fl with
 | ret u=>
  obtain⟨v,σ',H',J,rv,q⟩:=hs
  exact fin J rv q
 | next=>
  obtain⟨σ',H',J,q⟩:=hs
  exact fin (v:=V.non) (u:=Value.none) J rfl q
 | brk=>
  obtain⟨_,_,_,q⟩:=hs
  exact False.elim q
 | cont=>
  obtain⟨_,_,_,q⟩:=hs
  exact False.elim q
end L2
namespace L2
open PySem PySem.Spec PyProof.Rows
section
variable {X:Cx}{x:Str}{p pos:Pos}{e:Expr}{es:List Expr}{t:TA}{id T:String}{r:List V->Hp->VK->Prop}
def ZM(r:List V->Hp->VK->Prop)(t:TA):TE:=λσ H Q=>t σ H λvs H1=>r vs H1 Q
theorem nW(hc:fX X (.builtin id) r)(hg:Gl X x)(hm:X.mg x=none)(hv:bootBuiltins x=some (.builtin id))(ha:PA X (e::es) t)(hn:x≠"__name__":=by decide)(lA:(x==("__debug__" : Str))=false:=by decide)
  (he:starEach (e::es) X.env=(false,eval e X.env)::starEach es X.env:=by rfl) (iF:(backTo pos (starEach es X.env)).any (·.1)=false:=by rfl):PE X (.Call (.Name x p) (e::es) [] pos) (ZM r t):=by
 intro pins s σ H Q I h
 refine mM (xE I hg hm hv ?_ hn lA)
 exact PJ (cM (ha pos pins s σ H _ I h) λus s1 ⟨vs,H1,I1,r1,q1⟩=>hc pins s1 σ H1 vs us Q I1 r1 q1) he iF
theorem kY(hc:fX X (.type T) r)(hg:Gl X x)(hm:X.mg x=none)(hv:bootBuiltins x=some (.type T))(ha:PA X (e::es) t)(hn:x≠"__name__":=by decide)(lA:(x==("__debug__" : Str))=false:=by decide)
  (he:starEach (e::es) X.env=(false,eval e X.env)::starEach es X.env:=by rfl) (iF:(backTo pos (starEach es X.env)).any (·.1)=false:=by rfl):PE X (.Call (.Name x p) (e::es) [] pos) (ZM r t):=by
 intro pins s σ H Q I h
 refine mM (xE I hg hm hv ?_ hn lA)
 exact Ht (cM (ha pos pins s σ H _ I h) λus s1 ⟨vs,H1,I1,r1,q1⟩=>hc pins s1 σ H1 vs us Q I1 r1 q1) he iF
end
end L2
namespace HT
open PySem PyProof.Rows
def lexLt:List Int->List Int->Bool
 | [],[]=>false
 | [],_::_=>true
 | _::_,[]=>false
 | x::xs,y::ys=>if x=y then lexLt xs ys else decide (x<y)
theorem Jf(x y:Int)(xs ys:List Int):lexLt (x::xs) (y::ys)=if x=y then lexLt xs ys else decide (x<y):=rfl
theorem yP:lexLt [] []=false:=rfl
theorem xB(y:Int)(ys:List Int):lexLt [] (y::ys)=true:=rfl
theorem xC(x:Int)(xs:List Int):lexLt (x::xs) []=false:=rfl
theorem T8(A:Around)(s:Shared)(a:Int)(t:Tok)(c:Int)(u:Tok):∃e,SeqAt.EqAt A s (.int a t) (.int c u) e/\(e=true↔a=c):=
 ⟨(a==c),SeqAt.EqAt.int_int a t c u,by simp⟩
theorem Q7(A:Around)(s:Shared)(a:Int)(t:Tok)(c:Int)(u:Tok)(prog:Program)(w:World)(E:Value->Shared->Prop)(Q:Value->Shared->Prop)(h:Q (.bool (decide (a<c))) s) :
  wpAny (model prog w) A (richCompare .Lt (.int a t) (.int c u)) Q E s:=
 (PyProof.Rows.lt_int h:wpAny (model prog w) A (compareOp .Lt (.int a t) (.int c u)) Q E s)
section
open PySem.SeqAt
open PySem.AutoSeq1 (wpAny_loadPart')
open PySem.MeetsSeq PySem.MeetsSeq2 PySem.MeetsSeq3
theorem yE(l b:Addr)(items eQ:Array Value)(n n2:Nat)(dd XR:Option Addr)(sl GR:Array (Option Value))(ns ms:List Int)(hi:IntsAre items.toList ns)(hj:IntsAre eQ.toList ms) :
  Meets (Builtin.«tuple.__lt__» ⟨[.ref l,.ref b],[]⟩)
   (λ_ R s=>s.heap.get? l=some { cls:=.type "tuple",dict:=dd,data:=.seq items n,slots:=sl }/\s.heap.get? b=some { cls:=.type "tuple",dict:=XR,data:=.seq eQ n2,slots:=GR }/\
    R (.ok (.ret (.bool (lexLt ns ms)))) s):=
 .of_wp λprog w A R s h=>by
  obtain⟨hp,g,d,tk,os⟩:=s;obtain⟨hl,hb,h⟩:=h
  have f2:=AutoSeq1.sub_tuple_tuple
  have z1:items.size=ns.length:=by rw[<-hi.length];simp
  have z2:eQ.size=ms.length:=by rw[<-hj.length];simp
  wp_walk using Bi hl,Bi hb,wpAny_forIn_list _ (λrest b s'=>b.1=none/\s'=⟨hp,g,d,tk,os⟩/\∃(vs ws:List Value) (WX ms':List Int),rest=vs.zip ws/\
   IntsAre vs WX/\IntsAre ws ms'/\WX.length+eQ.size=ms'.length+items.size/\R (.ok (.ret (.bool (lexLt WX ms')))) ⟨hp,g,d,tk,os⟩) _
  case turn=>
   rintro⟨y,x⟩ rest b s' ⟨hb',rfl,vs,ws,WX,ms',hz,hvi,hwi,hlen,hR⟩
   cases hvi with
   | nil=>rw[List.zip_nil_left]at hz;cases hz
   | cons a t aFQ=>
    cases hwi with
    | nil=>rw[List.zip_nil_right]at hz;cases hz
    | cons c u aFO=>
     rw[List.zip_cons_cons]at hz
     injection hz with hyx zU
     injection hyx with hy hx
     subst hy hx
     rw[Jf]at hR
     simp only[fh]at hlen
     obtain⟨e,he,aCW⟩:=T8 A.in1 ⟨hp,g,d,tk,os⟩ a t c u
     refine ay (he prog w _ _ ?_)
     cases e with
     | true=>
      rw[aC (aCW.mp rfl)]at hR
      wp_walk
      exact⟨rfl,rfl,_,_,_,_,zU,aFQ,aFO,by lia,hR⟩
     | false=>
      rw[aB (λq=>absurd (aCW.mpr q) fi)]at hR
      have hri:=Q7 A.in1 ⟨hp,g,d,tk,os⟩ a t c u prog w
      wp_walk using hri
      exact⟨_,rfl,by simpa using hR⟩
  case fin=>
   rintro⟨b1,b2⟩ s' ⟨hb',rfl,vs,ws,WX,ms',hz,hvi,hwi,hlen,hR⟩
   simp only at hb'
   subst hb'
   have hv:lexLt WX ms'=decide (items.size<eQ.size):=by
    cases hvi with
    | nil=>
     cases hwi with
     | nil=>
      simp only[ua]at hlen
      rw[yP]
      exact(decide_eq_false (by lia)).symm
     | cons c u hw=>
      simp only[ua,fh]at hlen
      rw[xB]
      exact(decide_eq_true (by lia)).symm
    | cons a t hv=>
     cases hwi with
     | nil=>
      simp only[ua,fh]at hlen
      rw[xC]
      exact(decide_eq_false (by lia)).symm
     | cons c u hw=>
      rw[List.zip_cons_cons]at hz
      cases hz
   rw[hv]at hR
   wp_walk
   exact⟨_,rfl,by simpa [Builtin.Tuple.tupleCompareSizes]using hR⟩
  case h=>
   exact⟨rfl,rfl,items.toList,eQ.toList,ns,ms,rfl,hi,hj,by lia,h⟩
end
section
variable {prog:Program}{w:World}{A:Around}{E:Value->Shared->Prop}{s:Shared}
theorem Jc{l b:Addr}{items eQ:Array Value}{ns ms:List Int}{Q:Value->Shared->Prop}(hl:IsTup s.heap l items)(hb:IsTup s.heap b eQ)(hi:IntsAre items.toList ns)(hj:IntsAre eQ.toList ms)
  (hu:A.units<cLine) (h:Q (.bool (lexLt ns ms)) s):wpAny (model prog w) A (compareOp .Lt (.ref l) (.ref b)) Q E s:=by
 obtain⟨⟨cls,dd,data,sl⟩,ho,hc,n,hd⟩:=id hl
 obtain⟨⟨aBF,XR,data2,GR⟩,Oe,Dx,n2,hd2⟩:=id hb
 simp only at hc hd Dx hd2
 subst hc hd Dx hd2
 exact richCompare_meets_room (op:=.Lt) ⟨_,ho,rfl⟩ ⟨_,Oe,rfl⟩ PySem.F.slot_tuple_lt PySem.F.entry_tuple_lt (PySem.F.args_tuple_lt_2 _ _) (yE l b items eQ n n2 dd XR sl GR ns ms hi hj)
  ⟨ho,Oe,show Value.bool (lexLt ns ms)≠Value.notImplemented/\Q (.bool (lexLt ns ms)) s from ⟨(λx=>nomatch x),h⟩⟩ hu
theorem X4{t b:Addr}{vs ws:List Value}{Q:Value->Shared->Prop}(ht:IsTup s.heap t vs.toArray)(hb:IsTup s.heap b ws.toArray)(hv:vs≠[])
  (h1:ws=[]->Q (.ref t) s) (h2:ws≠[]->Q (.ref s.heap.objs.size) { s with heap:=s.heap.push { cls:=.type "tuple",data:=.seq (vs++ws).toArray } })
  (hsz:vs.length+ws.length<=sizeLine):wpAny (model prog w) A (binaryOp .Add (.ref t) (.ref b)) Q E s:=by
 obtain⟨⟨cls,dd,data,sl⟩,ho,hc,n,hd⟩:=id ht
 obtain⟨⟨aBF,XR,data2,GR⟩,Oe,Dx,n2,hd2⟩:=id hb
 simp only at hc hd Dx hd2
 subst hc hd Dx hd2
 have e:vs.toArray++ws.toArray=(vs++ws).toArray:=by simp
 by_cases hw:ws=[]
 ·exact concat_meets ⟨_,ho,rfl⟩ ⟨_,Oe,rfl⟩ noFill_tuple_add seq_tuple_add Hm Hq (Hr _ _)
   (tuple_addW1 t b vs.toArray ws.toArray n n2 dd XR sl GR (by simpa using hv) (by simp[hw])) ⟨ho,Oe,h1 hw⟩
 ·refine concat_meets ⟨_,ho,rfl⟩ ⟨_,Oe,rfl⟩ noFill_tuple_add seq_tuple_add Hm Hq (Hr _ _)
   (tuple_addW2 t b vs.toArray ws.toArray n n2 dd XR sl GR (by simpa using hv) (by simpa using hw) (by rw[cO,cO];exact hsz)) ⟨ho,Oe,?_⟩
  rw[e]
  exact h2 hw
def dB(n d:Nat):Option Int->Nat
 | none=>d
 | some v=>if v<0 then (v+(n:Int)).toNat else min v.toNat n
theorem Z4(n d:Nat)(hd:d<=n)(o:Option Int):dB n d o<=n:=by
 cases o with
 | none=>exact hd
 | some v=>
  show(if v<0 then (v+(n:Int)).toNat else min v.toNat n)<=n
  by_cases hv:v<0
  ·rw[aC hv];lia
  ·rw[aB hv];exact Nat.min_le_right _ _
theorem Mh(v:Int)(n d:Nat):(if v<0 then max (v+(n:Int)) 0 else min v (n:Int))=((dB n d (some v):Nat):Int):=by
 show(if v<0 then max (v+(n:Int)) 0 else min v (n:Int))=(((if v<0 then (v+(n:Int)).toNat else min v.toNat n):Nat):Int)
 by_cases hv:v<0
 ·simp only[aC hv];lia
 ·simp only[aB hv];lia
theorem J5(lo hi:Option Int)(n:Nat):Builtin.Slice.sliceAdjust lo hi 1 (n:Int)=(((dB n 0 lo:Nat):Int),((dB n n hi:Nat):Int)):=by
 have h1:¬((1:Int)<0):=by lia
 unfold Builtin.Slice.sliceAdjust
 simp only[h1,iH]
 refine Prod.ext ?_ ?_
 ·cases lo with
  | none=>rfl
  | some v=>exact Mh v n 0
 ·cases hi with
  | none=>rfl
  | some v=>exact Mh v n n
theorem Ig(i j:Nat):Builtin.Slice.slicePlaces (i:Int) (j:Int) 1=j-i:=by
 unfold Builtin.Slice.slicePlaces
 have h1:(1:Int) > 0:=by lia
 simp only[h1,kh,Int.ediv_one]
 split <;> lia
theorem w6{v:Value}{o:Option Int}{Q:Option Int->Shared->Prop}(p:IsPart v o)(h:Q o s):wpAny (model prog w) A (Builtin.Slice.slicePartIndex v) Q E s:=by
 cases p with
 | none=>exact slicePart_none h
 | int i t=>exact slicePart_int h
theorem kP{sl:Addr}{vl vu:Value}{lo hi:Option Int}{n:Nat}{Q:Int×Int×Nat->Shared->Prop}(hs:s.heap.IsSliceOf sl vl vu .none)(pl:IsPart vl lo)(pu:IsPart vu hi)
  (h:Q (((dB n 0 lo:Nat):Int),1,dB n n hi-dB n 0 lo) s):wpAny (model prog w) A (Builtin.Slice.sliceApplied (.ref sl) (pure (n:Int))) Q E s:=by
 obtain⟨os,hos,hcs,hds⟩:=id hs
 unfold Builtin.Slice.sliceApplied Builtin.Slice.sliceFields
 refine ay (ay (ib hos hds (x:=vl) rfl (ay (ib hos hds (x:=vu) rfl (ay (ib hos hds (x:=.none) rfl (aJ ?_)))))))
 refine ay (slicePart_none ?_)
 show wpAny _ _ (if ((1:Int)==0)=true then _ else _) _ _ s
 rw[aB (by decide)]
 refine ay (w6 pl (ay (w6 pu (ay (aJ ?_)))))
 show wpAny _ _ (match Builtin.Slice.sliceAdjust lo hi 1 (n:Int) with | (lo,hi)=>pure (lo,(1:Int),Builtin.Slice.slicePlaces lo hi 1)) _ _ s
 rw[J5 lo hi n]
 show wpAny _ _ (pure (((dB n 0 lo:Nat):Int),(1:Int),Builtin.Slice.slicePlaces ((dB n 0 lo:Nat):Int) ((dB n n hi:Nat):Int) 1)) _ _ s
 rw[Ig]
 exact aJ h
theorem RK(xs:Array Value)(i k:Nat):((List.range k).filterMap λ(m:Nat)=>xs[((i:Int)+(m:Int)*1).toNat]?).toArray=((xs.toList.drop i).take k).toArray:=by
 have e:(λ(m:Nat)=>xs[((i:Int)+(m:Int)*1).toNat]?)=λm=>xs[i+m]?:=by
  funext m
  have:((i:Int)+(m:Int)*1).toNat=i+m:=by lia
  rw[this]
 rw[e]
 have:=pick_run xs i k
 rw[List.filterMap_map]at this
 have e2:((λx=>xs[x]?) ∘ λx=>i+x)=λm=>xs[i+m]?:=rfl
 rw[e2]at this
 rw[this]
theorem tN{t sl:Addr}{items:Array Value}{vl vu:Value}{lo hi:Option Int}{Q:Value->Shared->Prop}(ht:IsTup s.heap t items)(hs:s.heap.IsSliceOf sl vl vu .none)(pl:IsPart vl lo)(pu:IsPart vu hi)
  (hw:¬(dB items.size 0 lo=0/\dB items.size items.size hi=items.size))
  (h:Q (.ref s.heap.objs.size) { s with heap:=s.heap.push { cls:=.type "tuple",data:=.seq ((items.toList.drop (dB items.size 0 lo)).take (dB items.size items.size hi-dB items.size 0 lo)).toArray } })
  (hsz:items.size<=sizeLine):wpAny (model prog w) A (getItem (.ref t) (.ref sl)) Q E s:=by
 have Ln:sizeOk (.seq ((items.toList.drop (dB items.size 0 lo)).take (dB items.size items.size hi-dB items.size 0 lo)).toArray):=by
  show((items.toList.drop (dB items.size 0 lo)).take (dB items.size items.size hi-dB items.size 0 lo)).toArray.size<=sizeLine
  rw[cO,jL,wg,dN]
  lia
 have hj:dB items.size items.size hi<=items.size:=Z4 _ _ (bB _) hi
 obtain⟨os,hos,hcs,hds⟩:=id hs
 have hTs:s.TypeIs (.ref sl) "slice":=⟨os,hos,hcs⟩
 unfold getItem
 try with_reducible refine jh ?_
 first | refine ay (aJ ?_) | skip
 refine ay (wpAny_sequenceKey ht.typeIs (by decide) ?_)
 refine ay (pU (name:=Str.ofString "__getitem__") ht.typeIs zb
  (ji zb ht.typeIs entry_tuple_getitem ?_ (args_tuple_getitem _ _)))
 show wpAny _ _ (Builtin.Tuple.tupleItemsOf (.ref t) >>= _) _ _ s
 refine ay (tupleItemsOf_ ht ?_)
 refine ay (v5 hTs ?_)
 rw[aC (by decide)]
 refine ay (kP hs pl pu ?_)
 have yA:¬((((dB items.size 0 lo:Nat):Int)==0&&(1:Int)==1&&(dB items.size items.size hi-dB items.size 0 lo)==items.size)=true):=by
  intro q
  rw[eB,eB]at q
  have q1:((dB items.size 0 lo:Nat):Int)=0:=eq_of_beq q.1.1
  have q2:dB items.size items.size hi-dB items.size 0 lo=items.size:=eq_of_beq q.2
  exact hw ⟨by lia,by lia⟩
 show wpAny _ _ (if (((dB items.size 0 lo:Nat):Int)==0&&(1:Int)==1&&(dB items.size items.size hi-dB items.size 0 lo)==items.size)=true then _ else _) _ _ s
 rw[aB yA,RK]
 first
  | exact ay (m:=Builtin.Tuple.tupleExact _) (eZ (aJ ⟨_,rfl,aJ h⟩) Ln)
  | exact ay (m:=Builtin.Tuple.tupleExact _) (eZ (ay (aJ (aJ ⟨_,rfl,aJ h⟩))) Ln)
  | exact ay (ay (m:=Builtin.Tuple.tupleExact _) (eZ (aJ (aJ ⟨_,rfl,aJ h⟩)) Ln))
  | exact ay (ay (m:=Builtin.Tuple.tupleExact _) (eZ (aJ ⟨_,rfl,aJ h⟩) Ln))
end
end HT
namespace L2
open PySem PySem.Spec PyProof.Rows
abbrev TO:=St->Hp->(Option Int->Hp->Prop)->Prop
def PO(X:Cx)(e:Option Expr)(t:TO):Prop:=
 ∀(pins:List (Addr×Obj)) (s:Shared) (σ:St) (H:Hp) (Q:Option Int->Hp->Prop),Inv X pins σ H s->t σ H Q->
  wpAny (model X.prog X.w) X.A (evalPart e X.env) (λu s'=>∃o H',Inv X pins σ H' s'/\IsPart u o/\Q o H') X.xe s
def sP:TO:=λ_ H Q=>Q none H
def Ea(t:TE):TO:=λσ H Q=>t σ H λx H1=>∃i,x=.int i/\Q (some i) H1
theorem intsAre_of{ns:List Int}:∀{us:List Value},Vals (ns.map V.int) us->IntsAre us ns:=by
 induction ns with
 | nil=>intro us r;rw[Ah]at r;cases r;exact .nil
 | cons n ns ih=>
  intro us r
  rw[fc]at r
  cases r with
  | cons r1 r2=>
   obtain⟨t,e⟩:=r1
   subst e
   exact .cons n t (ih r2)
section
variable {X:Cx}{e:Expr}{te:TE}{lo hi:Option Expr}{tl th:TO}{pos p2:Pos}
theorem Wo:PO X none sP:=by
 intro pins s σ H Q I h
 rw[evalPart_none]
 exact aJ ⟨none,H,I,.none,h⟩
theorem Wn(h:PE X e te):PO X (some e) (Ea te):=by
 intro pins s σ H Q I hw
 rw[evalPart_some]
 refine cM (h pins s σ H _ I hw) λu s1 ⟨x,H1,I1,r1,q1⟩=>?_
 obtain⟨i,rfl,q⟩:=q1
 obtain⟨t,rfl⟩:=r1
 exact⟨some i,H1,I1,.int i t,q⟩
def Vh(X:Cx)(r:V->Option Int->Option Int->Hp->VK->Prop):Prop:=
 ∀(pins:List (Addr×Obj)) (s:Shared) (σ:St) (H:Hp) (x:V) (v vl vu:Value) (lo hi:Option Int) (sl:Addr) (Q:VK),Inv X pins σ H s->RelV x v->s.heap.IsSliceOf sl vl vu .none->IsPart vl lo->IsPart vu hi->r x lo hi H Q->
  ∃T id,typeLookup (.type T) "__getitem__" = pure (some (.builtin id))/\s.TypeIs v T/\wpAny (model X.prog X.w) X.A (getItem v (.ref sl)) (EP X pins σ Q) X.xe s
def tSl(r:V->Option Int->Option Int->Hp->VK->Prop)(te:TE)(tl th:TO):TE:=λσ H Q=>te σ H λx H1=>tl σ H1 λl H2=>th σ H2 λu H3=>r x l u H3 Q
theorem RP{r:V->Option Int->Option Int->Hp->VK->Prop}(hr:Vh X r)(he:PE X e te)(hl:PO X lo tl)(hu:PO X hi th):PE X (.Subscript e (.Slice lo hi none p2) pos) (tSl r te tl th):=by
 intro pins s σ H Q I h
 refine Subscript_ (cM (he pins s σ H _ I h) λv s1 ⟨x,H1,I1,r1,q1⟩=>?_)
 refine wpAny_Slice (cM (hl pins s1 σ H1 _ I1 q1) λvl s2 ⟨l,H2,I2,pl,q2⟩=>cM (hu pins s2 σ H2 _ I2 q2) λvu s3 ⟨u,H3,I3,pu,q3⟩=>?_)
 rw[evalPart_none]
 refine aJ ?_
 have I4:Inv X pins σ H3 { s3 with heap:=s3.heap.push { cls:=.type "slice",data:=.fields #[vl,vu,.none] } }:=I3.kept (t':=s3.toks) λb ob q=>bR _ q
 obtain⟨T,id,hT,ht,hg⟩:=hr pins { s3 with heap:=s3.heap.push { cls:=.type "slice",data:=.fields #[vl,vu,.none] } } σ H3 x v vl vu l u s3.heap.objs.size Q I4 r1 (Heap.IsSliceOf.new ..) pl pu q3
 show wpAny (model X.prog X.w) X.A (subscriptTail e (.Slice lo hi none p2) v (.ref s3.heap.objs.size)) (EP X pins σ Q) X.xe { s3 with heap:=s3.heap.push { cls:=.type "slice",data:=.fields #[vl,vu,.none] } }
 exact tail_any (ops:=[.ref s3.heap.objs.size,v]) ht hT hg (by with_unfolding_all rfl)
def jG(xs:List V)(lo hi:Option Int):List V:=(xs.drop (HT.dB xs.length 0 lo)).take (HT.dB xs.length xs.length hi-HT.dB xs.length 0 lo)
theorem vy(xs:List V)(lo hi:Option Int):(jG xs lo hi).length<=xs.length:=by
 unfold jG
 rw[jL,wg]
 lia
def aEx(K:PySem.W.Frag):V->Option Int->Option Int->Hp->VK->Prop:=λx lo hi H Q=>∃a xs,x=.ref a/\y3 K H a xs/\
 ¬(HT.dB xs.length 0 lo=0/\HT.dB xs.length xs.length hi=xs.length)/\∀p,H p=none->Q (.ref p) (upd H p (.tup (jG xs lo hi)))
theorem Z2:Vh X (aEx X.K):=by
 intro pins s σ H x v vl vu lo hi sl Q I rx hs pl pu h
 obtain⟨a,xs,rfl,hx,hw,q⟩:=h
 cases rx
 obtain⟨its,r,ht,hz⟩:=I.tuple hx
 have hlen:its.toArray.size=xs.length:=by rw[cO];exact r.length.symm
 refine⟨"tuple",_,zb.lookup,ht.typeIs,?_⟩
 refine HT.tN ht hs pl pu (by rw[hlen];exact hw) ?_ (by rw[hlen];exact hz)
 rw[hlen]
 refine⟨.ref s.heap.objs.size,_,I.laid (t':=s.toks) (o:=.tup (jG xs lo hi)) (λb ob q=>bR _ q) (bB _) ?_,rfl,q _ (I.bx.fresh (bB _))⟩
 exact⟨fJ (vy xs lo hi) hz,_,(r.drop (HT.dB xs.length 0 lo)).take (HT.dB xs.length xs.length hi-HT.dB xs.length 0 lo),IsTup.new _ _⟩
def aCc(K:PySem.W.Frag):R2:=λx y H Q=>∃a b xs ys,x=.ref a/\y=.ref b/\y3 K H a xs/\y3 K H b ys/\xs≠[]/\xs.length+ys.length<=sizeLine/\
 (ys=[]->Q (.ref a) H)/\(ys≠[]->∀p,H p=none->Q (.ref p) (upd H p (.tup (xs++ys))))
theorem Vals.Cz{xs:List V}{us:List Value}(r:Vals xs us):us=[]↔xs=[]:=by
 cases r with
 | nil=>simp
 | cons _ _=>simp
theorem WM:nj X (binaryOp .Add) (aCc X.K):=by
 intro pins s σ H x y v u Q I rx ry h
 obtain⟨a,b,xs,ys,rfl,rfl,ha,hb,hx,hz,q1,q2⟩:=h
 cases rx
 cases ry
 obtain⟨its,r1,p1,_⟩:=I.tuple ha
 obtain⟨CN,r2,p2,_⟩:=I.tuple hb
 refine HT.X4 p1 p2 (λz=>hx (r1.Cz.mp z)) (λz=>⟨.ref a,H,I,rfl,q1 (r2.Cz.mp z)⟩) (λz=>?_) (by rw[<-r1.length,<-r2.length];exact hz)
 refine⟨.ref s.heap.objs.size,_,I.laid (t':=s.toks) (o:=.tup (xs++ys)) (λb ob q=>bR _ q) (bB _) ?_,rfl,q2 (λw=>z (r2.Cz.mpr w)) _ (I.bx.fresh (bB _))⟩
 exact⟨by rw[cP];exact hz,_,r1.append r2,IsTup.new _ _⟩
end
end L2
namespace L2
open PySem PySem.Spec PyProof.Rows
def Ob(n:Nat)(i:Int):Option Nat:=if 0<=i then (if i<n then some i.toNat else none) else if -(n:Int)<=i then some (i+n).toNat else none
def yg{α:Type}(xs:List α)(i:Int):Option α:=(Ob xs.length i).bind λj=>xs[j]?
theorem Lk{n:Nat}{i:Int}{j:Nat}(h:Ob n i=some j):seqIndex? i n=some j/\j<n/\-(n:Int)<=i/\i<n:=by
 unfold Ob at h
 by_cases h0:0<=i
 ·rw[aC h0]at h
  by_cases h1:i<n
  ·rw[aC h1]at h
   have e:i.toNat=j:=dU h
   exact⟨by rw[seqIndex_of h0 h1,e],by lia,by lia,h1⟩
  ·rw[aB h1]at h;cases h
 ·rw[aB h0]at h
  by_cases h1 : -(n:Int)<=i
  ·rw[aC h1]at h
   have e:(i+n).toNat=j:=dU h
   exact⟨by rw[seqIndex_neg (by lia) h1,e],by lia,h1,by lia⟩
  ·rw[aB h1]at h;cases h
theorem Dl{α:Type}{xs:List α}{i:Int}{v:α}(h:yg xs i=some v):∃j,seqIndex? i xs.length=some j/\xs[j]?=some v/\j<xs.length/\-(xs.length:Int)<=i/\i<xs.length:=by
 unfold yg at h
 cases e:Ob xs.length i with
 | none=>rw[e]at h;cases h
 | some j=>
  rw[e]at h
  obtain⟨h1,h2,h3,h4⟩:=Lk e
  exact⟨j,h1,h,h2,h3,h4⟩
theorem iY{α:Type}{xs:List α}{j:Nat}{v:α}(h:xs[j]?=some v):yg xs (j:Int)=some v:=by
 have hj:j<xs.length:=(dO.mp h).1
 have e:Ob xs.length (j:Int)=some j:=by
  unfold Ob
  rw[aC (by lia),aC (by lia)];simp
 unfold yg;rw[e];exact h
def Mw(b:Expr):Prop:=∀o i,subscripted b false o i=operate [o,i] (getItem o i)
def Yg(X:Cx)(r:R2):Prop:=
 ∀(value slice:Expr) (pins:List (Addr×Obj)) (s:Shared) (σ:St) (H:Hp) (x y:V) (v u:Value) (Q:VK),Inv X pins σ H s->RelV x v->RelV y u->r x y H Q->
  subscripted slice false v u=operate [v,u] (getItem v u)->wpAny (model X.prog X.w) X.A (subscriptTail value slice v u) (EP X pins σ Q) X.xe s
def MtR(X:Cx)(id:String)(r:V->List V->Hp->VK->Prop):Prop:=
 ∀(pins:List (Addr×Obj)) (s:Shared) (σ:St) (H:Hp) (x:V) (xs:List V) (v:Value) (us:List Value) (Q:VK),Inv X pins σ H s->RelV x v->Vals xs us->r x xs H Q->
  wpAny (model X.prog X.w) X.A (call (.builtin id) (v::us)) (EP X pins σ Q) X.xe s
section
variable {X:Cx}{a b:Expr}{ta tb:TE}{pos:Pos}
theorem aCj{r:R2}(hr:Yg X r)(ha:PE X a ta)(hb:PE X b tb)(hs:Mw b):PE X (.Subscript a b pos) (Qq r ta tb):=by
 intro pins s σ H Q I h
 exact Subscript_ (aBG ha hb I h λv u s2 x y H2 I2 rx ry q=>hr a b pins s2 σ H2 x y v u Q I2 rx ry q (hs _ _))
def aEA(K:PySem.W.Frag):R2:=λx y H Q=>∃p xs i v,x=.ref p/\y=.int i/\qi K H p xs/\yg xs i=some v/\Q v H
def aEz(K:PySem.W.Frag):R2:=λx y H Q=>∃p xs i v,x=.ref p/\y=.int i/\y3 K H p xs/\yg xs i=some v/\Q v H
theorem W9:Yg X (aEA X.K):=by
 intro value slice pins s σ H x y v u Q I rx ry h hs
 obtain⟨p,xs,i,z,rfl,rfl,hq,he,q⟩:=h
 cases rx
 obtain⟨t,rfl⟩:=ry
 obtain⟨its,r,pl,hz⟩:=I.list hq
 obtain⟨j,h1,h2,h3,h4,h5⟩:=Dl he
 obtain⟨w,ew,Nv⟩:=r.get h2
 have hl:=r.length
 have hn:=xu
 have fin:EP X pins σ Q w s:=⟨z,H,I,Nv,q⟩
 by_cases h0:0<=i
 ·have hj:i.toNat=j:=by
   rw[seqIndex_of h0 h5]at h1
   exact dU h1
  exact item_listR pl.isList h0 (by lia) (by rw[hj];simpa using ew) fin hs
 ·have hj:(i+(its.toArray.size:Int)).toNat=j:=by
   rw[seqIndex_neg (by lia) h4]at h1
   rw[cO,<-hl]
   exact dU h1
  exact subscriptTail_builtinR (x:=w) pl.isList.typeIs slot_list_getitem.lookup
   (wpAny_getItem_list_neg (Q:=λr s'=>r=w/\EP X pins σ Q r s') pl.isList (by lia) (by rw[cO] <;> lia) (by lia) (by rw[hj];simpa using ew) ⟨rfl,fin⟩) hs
theorem aAX:Yg X (aEz X.K):=by
 intro value slice pins s σ H x y v u Q I rx ry h hs
 obtain⟨p,xs,i,z,rfl,rfl,hq,he,q⟩:=h
 cases rx
 obtain⟨t,rfl⟩:=ry
 obtain⟨its,r,pl,hz⟩:=I.tuple hq
 obtain⟨j,h1,h2,h3,h4,h5⟩:=Dl he
 obtain⟨w,ew,Nv⟩:=r.get h2
 have hl:=r.length
 have hn:=xu
 have fin:EP X pins σ Q w s:=⟨z,H,I,Nv,q⟩
 exact subscriptTail_builtinR (x:=w) pl.typeIs slot_tuple_getitem.lookup
  (getItem_tuple (j:=j) (Q:=λr s'=>r=w/\EP X pins σ Q r s') pl (by lia) (by lia) (by rw[cO,<-hl];exact h1) (by simpa using ew) ⟨rfl,fin⟩) hs
theorem Iw(its:List Value)(n j:Nat)(u:Value):Obj.mapSeq (·.setIfInBounds j u) { cls:=.type "list",data:=.seq its.toArray n }={ cls:=.type "list",data:=.seq (its.set j u).toArray n }:=by
 simp[Obj.mapSeq]
theorem Inv.lst{pins:List (Addr×Obj)}{σ:St}{H:Hp}{s:Shared}{p:Addr}{xs:List V}(I:Inv X pins σ H s)(h:H p=some (.lst xs)) :
  ∃(its:List Value) (n:Nat),Vals xs its/\s.heap.get? p=some { cls:=.type "list",data:=.seq its.toArray n }/\xs.length<=sizeLine:=by
 obtain⟨z,its,n,r,e⟩:=I.bx p _ h
 exact⟨its,n,r,e,z⟩
theorem Inv.aAO{pins:List (Addr×Obj)}{σ:St}{H:Hp}{s:Shared}{p:Addr}{xs ys:List V}{its its':List Value}{n n':Nat}{f:Obj->Obj}(I:Inv X pins σ H s)(h:H p=some (.lst xs))
  (ho:s.heap.get? p=some { cls:=.type "list",data:=.seq its.toArray n }) (hf:f { cls:=.type "list",data:=.seq its.toArray n }={ cls:=.type "list",data:=.seq its'.toArray n' }) (r:Vals ys its') (hz:ys.length<=sizeLine) (t:Nat) :
  Inv X pins σ (upd H p (.lst ys)) { s with heap:=s.heap.update p f,toks:=t }:=by
 have e:(s.heap.update p f).get? p=some { cls:=.type "list",data:=.seq its'.toArray n' }:=by
  rw[mO f ho (by rw[hf] <;> rfl),hf]
 refine I.write (x:=p) (e:=p) (by rw[h];trivial) (.inl rfl) (λb u hb q=>(mP _ _ (fO hb)).trans q) ⟨_,e⟩ ?_
 exact⟨hz,its',n',r,e⟩
def aCb:V->V->V->Hp->(Hp->Prop)->Prop:=λo i v H Q=>∃p xs k j,o=.ref p/\i=.int k/\H p=some (.lst xs)/\Ob xs.length k=some j/\Q (upd H p (.lst (xs.set j v)))
theorem set_list:Pb X aCb:=by
 intro pins s σ H o i v ov iv u Q I ro ri rv h
 obtain⟨p,xs,k,j,rfl,rfl,hp,hj,q⟩:=h
 cases ro
 obtain⟨t,rfl⟩:=ri
 obtain⟨its,n,r,ho,hz⟩:=I.lst hp
 obtain⟨h1,h2,h3,h4⟩:=Lk hj
 have hl:=r.length
 have hn:=xu
 have I':Inv X pins σ (upd H p (.lst (xs.set j v))) { s with heap:=s.heap.update p (Obj.mapSeq (·.setIfInBounds j u)) }:=
  I.aAO hp ho (Iw its n j u) (r.set rv j) (by rw[List.length_set];exact hz) s.toks
 by_cases h0:0<=k
 ·have hk:k.toNat=j:=by
   rw[seqIndex_of h0 h4]at h1
   exact dU h1
  exact PySem.W.ki_setAt ho h0 (by lia) (by rw[cO,<-hl];exact h4) (by rw[hk];exact⟨_,I',q⟩)
 ·have hk:(k+(its.toArray.size:Int)).toNat=j:=by
   rw[seqIndex_neg (by lia) h3]at h1
   rw[cO,<-hl]
   exact dU h1
  exact PySem.W.ki_setBack ho (by lia) (by rw[cO,<-hl];exact h3) (by lia) (by rw[hk];exact⟨_,I',q⟩)
theorem BL(lo hi:Option Int)(n:Nat):(sliceBounds lo hi none n).1=((HT.dB n 0 lo:Nat):Int)/\(sliceBounds lo hi none n).2.1=((HT.dB n n hi:Nat):Int)/\(sliceBounds lo hi none n).2.2=1:=by
 refine⟨?_,?_,rfl⟩
 ·cases lo with
  | none=>simp[sliceBounds,HT.dB]
  | some i=>
   simp only[sliceBounds,HT.dB,Option.getD_none,show(1:Int) > 0 by decide,kh]
   by_cases h:i<0
   ·simp only[h,kh] <;> lia
   ·simp only[h,iH] <;> lia
 ·cases hi with
  | none=>simp[sliceBounds,HT.dB]
  | some i=>
   simp only[sliceBounds,HT.dB,Option.getD_none,show(1:Int) > 0 by decide,kh]
   by_cases h:i<0
   ·simp only[h,kh] <;> lia
   ·simp only[h,iH] <;> lia
theorem yG(its:List Value)(lo hi:Option Int):slicePick its.toArray lo hi none=((its.drop (HT.dB its.length 0 lo)).take (HT.dB its.length its.length hi-HT.dB its.length 0 lo)).toArray:=by
 obtain⟨h1,h2,h3⟩:=BL lo hi its.toArray.size
 unfold slicePick
 rw[h1,h2,h3]
 simp only[sliceRange_one,pick_run,cO] <;> rfl
def aEy(K:PySem.W.Frag):V->Option Int->Option Int->Hp->VK->Prop:=λx lo hi H Q=>∃a xs,x=.ref a/\qi K H a xs/\∀p,H p=none->Q (.ref p) (upd H p (.lst (jG xs lo hi)))
theorem Kw:Vh X (aEy X.K):=by
 intro pins s σ H x v vl vu lo hi sl Q I rx hs pl pu h
 obtain⟨a,xs,rfl,hx,q⟩:=h
 cases rx
 obtain⟨its,r,ht,hz⟩:=I.list hx
 have hlen:=r.length
 refine⟨"list",_,slot_list_getitem.lookup,ht.isList.typeIs,?_⟩
 refine wpAny_getItem_list_slice ht.isList hs pl pu .none (by simp) ?_ (by rw[cO] <;> lia)
 rw[yG,<-hlen]
 refine⟨.ref s.heap.objs.size,_,I.laid (t':=s.toks) (o:=.lst (jG xs lo hi)) (λb ob q=>bR _ q) (bB _) ?_,rfl,q _ (I.bx.fresh (bB _))⟩
 exact⟨fJ (vy xs lo hi) hz,_,0,(r.drop (HT.dB xs.length 0 lo)).take (HT.dB xs.length xs.length hi-HT.dB xs.length 0 lo),cH _ rfl⟩
def gE:V->Bool
 | .non=>true
 | .bl _=>true
 | .int _=>true
 | .str _=>true
 | _=>false
def Dz:V->V->Bool
 | .non,.non=>true
 | .bl a,.bl b=>a==b
 | .bl a,.int b=>(if a then 1 else 0)==b
 | .int a,.bl b=>a==(if b then 1 else 0)
 | .int a,.int b=>a==b
 | .str a,.str b=>a==b
 | _,_=>false
theorem CW{A:Around}{s:Shared}{y x:V}{u v:Value}(ry:RelV y u)(rx:RelV x v)(fy:gE y=true)(fx:gE x=true):SeqAt.EqAt A s u v (Dz y x):=by
 cases y with
 | non=>
  cases ry
  cases x with
  | non=>cases rx;exact SeqAt.EqAt.same _
  | bl b=>cases rx;exact SeqAt.EqAt.none_bool b
  | int b=>obtain⟨t,rfl⟩:=rx;exact SeqAt.EqAt.none_int b t
  | str b=>obtain⟨t,rfl⟩:=rx;exact SeqAt.EqAt.none_str b t
  | _=>exact absurd (show false=true from fx) fi
 | bl a=>
  cases ry
  cases x with
  | non=>cases rx;exact SeqAt.EqAt.bool_none a
  | bl b=>cases rx;exact SeqAt.EqAt.bool_bool a b
  | int b=>obtain⟨t,rfl⟩:=rx;exact SeqAt.EqAt.bool_int a b t
  | str b=>obtain⟨t,rfl⟩:=rx;exact SeqAt.EqAt.bool_str a b t
  | _=>exact absurd (show false=true from fx) fi
 | int a=>
  obtain⟨t',rfl⟩:=ry
  cases x with
  | non=>cases rx;exact SeqAt.EqAt.int_none a t'
  | bl b=>cases rx;exact SeqAt.EqAt.int_bool a t' b
  | int b=>obtain⟨t,rfl⟩:=rx;exact SeqAt.EqAt.int_int a t' b t
  | str b=>obtain⟨t,rfl⟩:=rx;exact SeqAt.EqAt.int_str a t' b t
  | _=>exact absurd (show false=true from fx) fi
 | str a=>
  obtain⟨t',rfl⟩:=ry
  cases x with
  | non=>cases rx;exact SeqAt.EqAt.str_none a t'
  | bl b=>cases rx;exact SeqAt.EqAt.str_bool a t' b
  | int b=>obtain⟨t,rfl⟩:=rx;exact SeqAt.EqAt.str_int a t' b t
  | str b=>obtain⟨t,rfl⟩:=rx;exact SeqAt.EqAt.str_str a t' b t
  | _=>exact absurd (show false=true from fx) fi
 | _=>exact absurd (show false=true from fy) fi
def JL(x:V)(u:Value):Bool:=match u with
 | .none=>Dz .non x
 | .bool b=>Dz (.bl b) x
 | .int i _=>Dz (.int i) x
 | .str z _=>Dz (.str z) x
 | _=>false
theorem T7{x y:V}{u:Value}(r:RelV y u)(f:gE y=true):JL x u=Dz y x:=by
 cases y with
 | non=>cases r;rfl
 | bl b=>cases r;rfl
 | int i=>obtain⟨t,rfl⟩:=r;rfl
 | str z=>obtain⟨t,rfl⟩:=r;rfl
 | _=>exact absurd (show false=true from f) fi
theorem tT{x:V}:∀{xs:List V} {us:List Value},Vals xs us->xs.all gE=true->us.any (JL x)=xs.any λy=>Dz y x
 | _,_,.nil,_=>rfl
 | y::xs,u::us,.cons r t,f=>by
  rw[Aj,eB]at f
  rw[qm,qm,T7 r f.1,tT t f.2]
theorem n6{A:Around}{s:Shared}{x:V}{v:Value}(rx:RelV x v)(fx:gE x=true):∀{xs:List V} {us:List Value},Vals xs us->xs.all gE=true->∀u∈us,SeqAt.EqAt A s u v (JL x u)
 | _,_,.nil,_=>λu hu=>by cases hu
 | y::xs,u::us,.cons r t,f=>λu' hu=>by
  rw[Aj,eB]at f
  rcases bT.mp hu with rfl | hu
  ·rw[T7 r f.1];exact CW r rx f.1 fx
  ·exact n6 rx fx t f.2 u' hu
def YM(x:V)(xs:List V):Bool:=xs.any λy=>Dz y x
def rIn(K:PySem.W.Frag)(neg:Bool):R2:=λx y H Q=>∃p xs,y=.ref p/\(qi K H p xs\/y3 K H p xs)/\gE x=true/\xs.all gE=true/\Q (.bl (if neg then !YM x xs else YM x xs)) H
theorem NP:nj X (compareOp .In) (rIn X.K false):=by
 intro pins s σ H x y v u Q I rx ry h
 obtain⟨p,xs,rfl,hq,fx,fs,q⟩:=h
 cases ry
 rcases hq with hq | hq
 ·obtain⟨its,r,pl,hz⟩:=I.list hq
  refine SeqAt.in_listAt (JL x) pl.isList (λw hw=>n6 rx fx r fs w (by simpa using hw)) ⟨.bl _,H,I,rfl,?_⟩
  rw[show its.toArray.any (JL x)=its.any (JL x) by simp,tT r fs]
  exact q
 ·obtain⟨its,r,pl,hz⟩:=I.tuple hq
  refine SeqAt.in_tupleAt (JL x) pl (λw hw=>n6 rx fx r fs w (by simpa using hw)) ⟨.bl _,H,I,rfl,?_⟩
  rw[show its.toArray.any (JL x)=its.any (JL x) by simp,tT r fs]
  exact q
theorem Cm:nj X (compareOp .NotIn) (rIn X.K true):=by
 intro pins s σ H x y v u Q I rx ry h
 obtain⟨p,xs,rfl,hq,fx,fs,q⟩:=h
 cases ry
 rcases hq with hq | hq
 ·obtain⟨its,r,pl,hz⟩:=I.list hq
  refine SeqAt.notIn_listAt (JL x) pl.isList (λw hw=>n6 rx fx r fs w (by simpa using hw)) ⟨.bl _,H,I,rfl,?_⟩
  rw[show its.toArray.any (JL x)=its.any (JL x) by simp,tT r fs]
  exact q
 ·obtain⟨its,r,pl,hz⟩:=I.tuple hq
  refine SeqAt.notIn_tupleAt (JL x) pl (λw hw=>n6 rx fx r fs w (by simpa using hw)) ⟨.bl _,H,I,rfl,?_⟩
  rw[show its.toArray.any (JL x)=its.any (JL x) by simp,tT r fs]
  exact q
theorem tR:fX X (.builtin "len") (λxs H Q=>∃p ys,xs=[.ref p]/\(qi X.K H p ys\/y3 X.K H p ys)/\Q (.int ys.length) H):=by
 intro pins s σ H xs us Q I r h
 obtain⟨p,ys,rfl,hq,q⟩:=h
 obtain⟨u,rfl,rx⟩:=vals1 r
 cases rx
 have hn:=xu
 rcases hq with hq | hq
 ·obtain⟨its,r',pl,hz⟩:=I.list hq
  have hlen:=r'.length
  exact Calls.call_len_list pl.isList (by simp only[cO] <;> lia) ⟨.int ys.length,H,I.tok _,⟨s.toks+1,by rw[cO,hlen]⟩,q⟩
 ·obtain⟨its,r',pl,hz⟩:=I.tuple hq
  have hlen:=r'.length
  exact len_tuple pl (by simp only[cO] <;> lia) ⟨.int ys.length,H,I.tok _,⟨s.toks+1,by rw[cO,hlen]⟩,q⟩
theorem Df:fX X (.type "list") (λxs H Q=>∃p ys,xs=[.ref p]/\(qi X.K H p ys\/y3 X.K H p ys)/\∀l,H l=none->Q (.ref l) (upd H l (.lst ys))):=by
 intro pins s σ H xs us Q I r h
 obtain⟨p,ys,rfl,hq,q⟩:=h
 obtain⟨u,rfl,rx⟩:=vals1 r
 cases rx
 have fin:∀(its:List Value),Vals ys its->ys.length<=sizeLine->∀(h':Heap) (c':Nat),(∀b o',s.heap.get? b=some o'->h'.get? b=some o')->
   h'.get? s.heap.objs.size=some { cls:=.type "list",dict:=none,data:=.seq its.toArray c',slots:=#[] }->EP X pins σ Q (.ref s.heap.objs.size) { s with heap:=h' }:=λits r' hz h' c' kp e=>
  ⟨.ref s.heap.objs.size,_,I.laid (t':=s.toks) kp (bB _) (show dE X.prog X.w _ h' _ (.lst ys) from ⟨hz,its,c',r',e⟩),rfl,q _ (I.bx.fresh (bB _))⟩
 rcases hq with hq | hq
 ·obtain⟨its,r',pl,hz⟩:=I.list hq
  have hlen:=r'.length
  obtain⟨o,ho,hc,n,hd⟩:=pl.isList
  exact call_list_seq p (.inl rfl) ho hc hd (λh' c' kp e=>fin its r' hz h' c' kp e) (by simp only[cO] <;> lia)
 ·obtain⟨its,r',pl,hz⟩:=I.tuple hq
  have hlen:=r'.length
  obtain⟨o,ho,hc,n,hd⟩:=pl
  exact call_list_seq p (.inr rfl) ho hc hd (λh' c' kp e=>fin its r' hz h' c' kp e) (by simp only[cO] <;> lia)
theorem yZ:fX X (.type "tuple") (λxs H Q=>∃p ys,xs=[.ref p]/\((qi X.K H p ys/\∀l,H l=none->Q (.ref l) (upd H l (.tup ys)))\/(y3 X.K H p ys/\Q (.ref p) H))):=by
 intro pins s σ H xs us Q I r h
 obtain⟨p,ys,rfl,h⟩:=h
 obtain⟨u,rfl,rx⟩:=vals1 r
 cases rx
 rcases h with ⟨hq,q⟩ | ⟨hq,q⟩
 ·obtain⟨its,r',pl,hz⟩:=I.list hq
  have hlen:=r'.length
  refine call_tuple_list pl.isList (λh' kp=>?_) (by simp only[cO] <;> lia)
  have I1:Inv X pins σ H { s with heap:=h' }:=I.kept (t':=s.toks) kp
  have I2:Inv X pins σ (upd H h'.objs.size (.tup ys)) { s with heap:=h'.push { cls:=.type "tuple",data:=.seq its.toArray } }:=
   I1.laid (t':=s.toks) (λb o e=>bR _ e) (bB _) (show dE X.prog X.w _ _ _ (.tup ys) from ⟨hz,its,r',IsTup.new _ _⟩)
  exact⟨.ref h'.objs.size,_,I2,rfl,q _ (I1.bx.fresh (bB _))⟩
 ·obtain⟨its,r',pl,hz⟩:=I.tuple hq
  exact call_tuple_same pl ⟨.ref p,H,I,rfl,q⟩
def tyV(K:PySem.W.Frag)(T:String)(x:V)(H:Hp):Prop:=match x with
 | .str _=>T = "str"
 | .int _=>T = "int"
 | .ref p=>(T = "list"/\∃xs,qi K H p xs)\/(T = "tuple"/\∃o,K.lookup p=some o/\o.cls=.type "tuple"/\o.dict=none)\/
   (T = "dict"/\((∃aM,H p=some (.dK aM))\/∃aM,H p=some (.dT aM)))\/(T = "set"/\∃S n,H p=some (.set S n))
 | _=>False
theorem Qg{pins:List (Addr×Obj)}{σ:St}{H:Hp}{s:Shared}{T:String}{x:V}{v:Value}(I:Inv X pins σ H s)(r:RelV x v)(ty:tyV X.K T x H) :
  s.TypeIs v T/\∀a,v=.ref a->∃ob,s.heap.get? a=some ob/\ob.dict=none:=by
 cases x with
 | str z=>
  obtain⟨t,rfl⟩:=r
  cases (show T = "str" from ty)
  exact⟨typeIs_str s z t,λ_ e=>nomatch e⟩
 | int i=>
  obtain⟨t,rfl⟩:=r
  cases (show T = "int" from ty)
  exact⟨typeIs_int s i t,λ_ e=>nomatch e⟩
 | ref p=>
  cases r
  rcases ty with ⟨rfl,xs,hq⟩ | ⟨rfl,o,hk,hc,hd⟩ | ⟨rfl,hk⟩ | ⟨rfl,S,n,hk⟩
  ·obtain⟨its,_,pl,_⟩:=I.list hq
   refine⟨pl.isList.typeIs,λa e=>?_⟩
   cases e
   obtain⟨o,n,e,c,hd,_⟩:=pl
   exact⟨o,e,hd⟩
  ·refine⟨⟨o,I.qc p o hk,hc⟩,λa e=>?_⟩
   cases e
   exact⟨o,I.qc _ o hk,hd⟩
  ·have z:∃o,s.heap.get? p=some o/\o.ExactDict:=by
    rcases hk with ⟨aM,hk⟩ | ⟨aM,hk⟩
    ·obtain⟨_,_,_,_,o,_,_,e,ex,_⟩:=I.bx p _ hk
     exact⟨o,e,ex⟩
    ·obtain⟨_,_,_,_,o,_,_,e,ex,_⟩:=I.bx p _ hk
     exact⟨o,e,ex⟩
   obtain⟨o,e,ex⟩:=z
   refine⟨⟨o,e,ex.1⟩,λa e2=>?_⟩
   cases e2
   exact⟨o,e,ex.2.1⟩
  ·obtain⟨o,_,_,_,e,ex,_⟩:=I.bx p _ hk
   refine⟨⟨o,e,ex.1⟩,λa e2=>?_⟩
   cases e2
   exact⟨o,e,ex.2.1⟩
 | _=>exact False.elim ty
def Qu(K:PySem.W.Frag)(T:String)(r:V->List V->Hp->VK->Prop)(to:TE):TE:=λσ H Q=>to σ H λx H1=>tyV K T x H1/\r x [] H1 Q
def tBM(K:PySem.W.Frag)(T:String)(r:V->List V->Hp->VK->Prop)(to:TE)(t:TA):TE:=λσ H Q=>to σ H λx H1=>tyV K T x H1/\t σ H1 λxs H2=>r x xs H2 Q
variable {o e:Expr}{es:List Expr}{to:TE}{t:TA}{name:Str}{apos dj:Pos}{T id:String}{r:V->List V->Hp->VK->Prop}
theorem Ih(pa:PlainAttrs T)(slot:Slot T name id)(hty:typeOf (.builtin id)=pure (.type "method_descriptor"))(hm:MtR X id r)(ho:PE X o to)
  (Ts:attributeBase o name X.env (eval o X.env)=eval o X.env:=by rfl) (hline:(apos.endLine==dj.line)=true:=by rfl):PE X (.Call (.Attribute o name apos) [] [] dj) (Qu X.K T r to):=by
 intro pins s σ H Q I h
 refine wpAny_Call_method0_late Ts hline (cM (ho pins s σ H _ I h) λv s1 ⟨x,H1,I1,r1,ty,q1⟩=>?_)
 obtain⟨h1,h2⟩:=Qg I1 r1 ty
 exact⟨T,id,pa,slot,hty,h1,h2,Calls.callWith_builtin rfl (PySem.evalArgs_none (hm pins s1 σ H1 x [] v [] Q I1 r1 .nil q1))⟩
theorem zE(pa:PlainAttrs T)(slot:Slot T name id)(hty:typeOf (.builtin id)=pure (.type "method_descriptor"))(hm:MtR X id r)(ho:PE X o to)(ha:PA X (e::es) t)
  (Ts:attributeBase o name X.env (eval o X.env)=eval o X.env:=by rfl)
  (aF5:((backTo dj (starEach (e::es) X.env)).all (λx=>!x.1)&&(backToKw dj (keywordEach [] X.env)).all (λx=>x.1.isSome)
   && decide ((e::es).length+([]:List Keyword).length+(if ([]:List Keyword).isEmpty then 0 else 1)<30))=true:=by rfl)
  (hline:(apos.endLine==dj.line)=true:=by rfl) (hs:starEach (e::es) X.env=(false,eval e X.env)::starEach es X.env:=by rfl) (aA6:(backTo dj (starEach es X.env)).any (·.1)=false:=by rfl) :
  PE X (.Call (.Attribute o name apos) (e::es) [] dj) (tBM X.K T r to t):=by
 intro pins s σ H Q I h
 refine wpAny_Call_method_late Ts aF5 hline rfl (cM (ho pins s σ H _ I h) λv s1 ⟨x,H1,I1,r1,ty,q1⟩=>?_)
 obtain⟨h1,h2⟩:=Qg I1 r1 ty
 refine⟨T,id,pa,slot,hty,h1,h2,?_⟩
 have hA:=ha dj pins s1 σ H1 _ I1 q1
 rw[hs]at hA ⊢
 refine Calls.callWith_builtin (by show(false||(backTo dj (starEach es X.env)).any (·.1))=false;rw[aA6] <;> rfl) (Calls.evalArgs_plain ?_)
 exact cM hA λus s2 ⟨vs,H2,I2,r2,q2⟩=>hm pins s2 σ H2 x vs v us Q I2 r1 r2 q2
end
end L2
namespace L2
open PySem PySem.Spec PyProof.Rows
def MtM(X:Cx)(id:String)(r:V->List V->Hp->VK->Prop):Prop:=
 ∀(pins:List (Addr×Obj)) (s:Shared) (σ:St) (H:Hp) (x:V) (xs:List V) (v:Value) (us:List Value) (Q:VK),Inv X pins σ H s->RelV x v->Vals xs us->r x xs H Q->
  wpAny (model X.prog X.w) X.A (call (.builtin id) (v::us)) (EP X pins σ Q) X.xe s
theorem Vals.one:∀{x:V} {us:List Value},Vals [x] us->∃u,us=[u]/\RelV x u
 | _,_,.cons r .nil=>⟨_,rfl,r⟩
theorem Vals.two:∀{x y:V} {us:List Value},Vals [x,y] us->∃u v,us=[u,v]/\RelV x u/\RelV y v
 | _,_,_,.cons r (.cons q .nil)=>⟨_,_,rfl,r,q⟩
theorem Vals.zero:∀{us:List Value},Vals [] us->us=[]
 | _,.nil=>rfl
section
variable {X:Cx}{pins:List (Addr×Obj)}{σ:St}{H:Hp}{s:Shared}{l b:Addr}{xs ys zs:List V}
theorem Inv.aCw{its its':List Value}{n:Nat}{f:Array Value->Array Value}{t':Nat}(I:Inv X pins σ H s)(hH:H l=some (.lst xs))
  (e:s.heap.get? l=some { cls:=.type "list",data:=.seq its.toArray n }) (hf:f its.toArray=its'.toArray) (hv:Vals ys its') (hz:ys.length<=sizeLine) :
  Inv X pins σ (upd H l (.lst ys)) { s with heap:=s.heap.update l (Obj.mapSeq f),toks:=t' }:=by
 have q:=PySem.IsL.update e f
 rw[hf]at q
 refine I.write (x:=l) (e:=l) (by rw[hH];exact trivial) (.inl rfl) (λb' u hb hu=>(mP s.heap (Obj.mapSeq f) (fO hb)).trans hu) ⟨_,q⟩ ?_
 exact⟨hz,its',_,hv,q⟩
theorem Inv.aFw{its:List Value}{t':Nat}(I:Inv X pins σ H s)(hv:Vals ys its)(hz:ys.length<=sizeLine) :
  Inv X pins σ (upd H s.heap.objs.size (.lst ys)) { s with heap:=s.heap.push { cls:=.type "list",data:=.seq its.toArray },toks:=t' }:=
 I.laid (λ_ _ q=>bR _ q) (bB _) ⟨hz,its,0,hv,cH _ rfl⟩
theorem Inv.fresh(I:Inv X pins σ H s):H s.heap.objs.size=none:=I.bx.fresh (bB _)
theorem Inv.W2(I:Inv X pins σ H s)(hH:H l=some (.lst xs)):xs.length<=sizeLine/\∃(its:List Value) (n:Nat),Vals xs its/\xs.length=its.length/\s.heap.get? l=some { cls:=.type "list",data:=.seq its.toArray n }:=by
 obtain⟨z,its,n,r,e⟩:=I.bx l _ hH
 exact⟨z,its,n,r,r.length,e⟩
end
section
variable {X:Cx}
def vQ:V->List V->Hp->VK->Prop:=λx vs H Q=>∃l xs y,x=.ref l/\vs=[y]/\H l=some (.lst xs)/\xs.length<sizeLine/\Q .non (upd H l (.lst (xs++[y])))
theorem eL:MtM X "list.append" vQ:=by
 intro pins s σ H x vs v us Q I rx rv h
 obtain⟨l,xs,y,rfl,rfl,hH,hz,q⟩:=h
 cases rx
 obtain⟨u,rfl,ru⟩:=rv.one
 obtain⟨z,its,n,r,hl,e⟩:=I.W2 hH
 refine call_meets F.slot_list_append ⟨_,e,rfl⟩ F.entry_list_append (F.args_list_append_2 _ _) (PySem.list_append l its.toArray n u (by rw[cO];lia)) ⟨e,?_⟩
 refine⟨.non,_,I.aCw (its':=its++[u]) hH e (by simp) (r.append (.cons ru .nil)) ?_,rfl,q⟩
 rw[cP,uZ]
 lia
def BZ:V->List V->Hp->VK->Prop:=λx vs H Q=>∃l b xs zs,x=.ref l/\vs=[.ref b]/\H l=some (.lst xs)/\H b=some (.lst zs)/\xs.length+zs.length<=sizeLine/\Q .non (upd H l (.lst (xs++zs)))
def uv:V->List V->Hp->VK->Prop:=λx vs H Q=>∃l xs i k y,x=.ref l/\vs=[.int i]/\H l=some (.lst xs)/\-(2 ^ 63)<=i/\i<2 ^ 63/\seqIndex? i xs.length=some k/\xs[k]?=some y/\Q y (upd H l (.lst (xs.eraseIdx k)))
def xg:V->List V->Hp->VK->Prop:=λx vs H Q=>∃l xs,x=.ref l/\vs=[]/\H l=some (.lst xs)/\Q .non (upd H l (.lst xs.reverse))
def Cd:V->List V->Hp->VK->Prop:=λx vs H Q=>∃l xs,x=.ref l/\vs=[]/\H l=some (.lst xs)/\Q .non (upd H l (.lst []))
theorem Ff:MtM X "list.clear" Cd:=by
 intro pins s σ H x vs v us Q I rx rv h
 obtain⟨l,xs,rfl,rfl,hH,q⟩:=h
 cases rx
 have hus:=rv.zero
 subst hus
 obtain⟨z,its,n,r,hl,e⟩:=I.W2 hH
 refine call_meets F.slot_list_clear ⟨_,e,rfl⟩ F.entry_list_clear (F.args_list_clear_1 _) (AutoSeq1.list_clear_list_0 l its.toArray n (by rw[cO];lia)) ⟨e,?_⟩
 exact⟨.non,_,I.aCw (its':=[]) (ys:=[]) hH e rfl .nil (dc _),rfl,q⟩
def V2:R2:=λx y H Q=>∃l b xs zs,x=.ref l/\y=.ref b/\H l=some (.lst xs)/\H b=some (.lst zs)/\xs.length+zs.length<=sizeLine/\∀p,H p=none->Q (.ref p) (upd H p (.lst (xs++zs)))
theorem R8:nj X (binaryOp .Add) V2:=by
 intro pins s σ H x y v u Q I rx ry h
 obtain⟨l,b,xs,zs,rfl,rfl,hH,hB,hz,q⟩:=h
 cases rx
 cases ry
 obtain⟨z,its,n,r,hl,e⟩:=I.W2 hH
 obtain⟨z2,CN,n2,r2,Y0,e2⟩:=I.W2 hB
 refine PySem.P.add_list e e2 ?_ (by rw[cO,cO];lia)
 have ea:its.toArray++CN.toArray=(its++CN).toArray:=by simp
 rw[ea]
 exact⟨.ref _,_,I.aFw (t':=s.toks) (r.append r2) (by rw[cP];lia),rfl,q _ I.fresh⟩
end
section
variable {prog:Program}{w:World}{A:Around}{E:Value->Shared->Prop}{s:Shared}
end
end L2
namespace L2
open PySem PySem.Spec PyProof.Rows
section
variable {κ:Type} [DecidableEq κ]
def fU(aM:List (κ×V))(k:κ):Option V:=(aM.find? λkv=>decide (kv.1=k)).map (·.2)
def putK(aM:List (κ×V))(k:κ)(v:V):List (κ×V):=
 if (aM.any λkv=>decide (kv.1=k))=true then aM.map (λkv=>if kv.1=k then (kv.1,v) else kv) else aM++[(k,v)]
def aDw(aM:List (κ×V))(k:κ):List (κ×V):=aM.filter λkv=>decide (kv.1≠k)
theorem eD{p:κ×V}{r:List (κ×V)}{k:κ}(e:p.1=k):fU (p::r) k=some p.2:=by simp[fU,t9,e]
theorem eF{p:κ×V}{r:List (κ×V)}{k:κ}(e:¬p.1=k):fU (p::r) k=fU r k:=by simp[fU,t9,e]
theorem kM(k:κ):∀aM:List (κ×V),(aM.any λkv=>decide (kv.1=k))=(fU aM k).isSome
 | []=>rfl
 | p::r=>by
  rw[qm]
  by_cases e:p.1=k
  ·simp only[eD e,decide_eq_true e,Bool.true_or,Option.isSome_some]
  ·rw[eF e,decide_eq_false e,Bool.false_or];exact kM k r
theorem DT(k j:κ)(y:V):∀aM:List (κ×V),fU (aM.map λkv=>if kv.1=k then (kv.1,y) else kv) j=(fU aM j).map λx=>if j=k then y else x
 | []=>rfl
 | p::r=>by
  have ih:=DT k j y r
  rw[fc]
  by_cases h:p.1=k
  ·rw[aC h]
   by_cases e:p.1=j
   ·rw[eD (p:=(p.1,y)) e,eD e,wa,aC (e.symm.trans h)]
   ·rw[eF (p:=(p.1,y)) e,eF e,ih]
  ·rw[aB h]
   by_cases e:p.1=j
   ·rw[eD (p:=p) e,eD e,wa,aB (λz=>h (e.trans z))]
   ·rw[eF (p:=p) e,eF e,ih]
theorem zi(k j:κ)(y:V):∀aM:List (κ×V),fU aM k=none->fU (aM++[(k,y)]) j=if j=k then some y else fU aM j
 | [],_=>by
  by_cases e:k=j
  ·rw[aC e.symm];exact eD (p:=(k,y)) e
  ·rw[aB (λz=>e z.symm)];exact eF (p:=(k,y)) e
 | p::r,hn=>by
  rw[List.cons_append]
  have hk:¬p.1=k:=λz=>by rw[eD z]at hn;cases hn
  rw[eF hk]at hn
  have ih:=zi k j y r hn
  by_cases e:p.1=j
  ·rw[eD e,eD e,aB (λz=>hk (e.trans z))]
  ·rw[eF e,eF e,ih]
theorem Qe(aM:List (κ×V))(k j:κ)(y:V):fU (putK aM k y) j=if j=k then some y else fU aM j:=by
 unfold putK
 by_cases a:(aM.any λkv=>decide (kv.1=k))=true
 ·rw[aC a,DT]
  rw[kM]at a
  by_cases e:j=k
  ·obtain⟨x,hx⟩:=Option.isSome_iff_exists.mp a
   rw[aC e,e,hx,wa,aC rfl]
  ·rw[aB e]
   cases fU aM j with
   | none=>rfl
   | some x=>rw[wa,aB e]
 ·rw[aB a]
  refine zi k j y aM ?_
  rw[kM]at a
  cases q:fU aM k with
  | none=>rfl
  | some x=>rw[q]at a;exact(a rfl).elim
theorem om(aM:List (κ×V))(k:κ)(v:V):(putK aM k v).length<=aM.length+1:=by
 unfold putK
 split
 ·rw[aQ];lia
 ·rw[cP,fh,ua];lia
theorem Rw{aM:List (κ×V)}{k:κ}(v:V)(h:fU aM k=none):putK aM k v=aM++[(k,v)]:=by
 unfold putK
 rw[kM,h]
 exact aB (by decide)
theorem pM.uz{o:Option V}{u:Option Value}(r:pM o u):o.isSome=u.isSome:=by
 cases o with
 | none=>cases u with
  | none=>rfl
  | some _=>exact(show False from r).elim
 | some _=>cases u with
  | none=>exact(show False from r).elim
  | some _=>rfl
theorem KV.val{aM:List (κ×V)}{vs:List (κ×Value)}(r:KV aM vs)(k:κ):pM (fU aM k) (valueAt vs k):=by
 unfold KV at r
 induction r with
 | nil=>exact True.intro
 | @cons p q ps qs h t ih=>
  obtain⟨h1,h2⟩:=h
  by_cases e:p.1=k
  ·have e':q.1=k:=h1.symm.trans e
   have b:valueAt (q::qs) k=some q.2:=by simp[valueAt,t9,e']
   rw[eD e,b];exact h2
  ·have e':¬q.1=k:=λz=>e (h1.trans z)
   have b:valueAt (q::qs) k=valueAt qs k:=by simp[valueAt,t9,e']
   rw[eF e,b];exact ih
theorem KV.any{aM:List (κ×V)}{vs:List (κ×Value)}(r:KV aM vs)(k:κ):(aM.any λkv=>decide (kv.1=k))=vs.any λkv=>decide (kv.1=k):=by
 unfold KV at r
 induction r with
 | nil=>rfl
 | cons h t ih=>rw[qm,qm,ih,h.1]
theorem KV.repl{aM:List (κ×V)}{vs:List (κ×Value)}(r:KV aM vs)(k:κ){y:V}{u:Value}(ry:RelV y u) :
  KV (aM.map λkv=>if kv.1=k then (kv.1,y) else kv) (vs.map λkv=>if kv.1=k then (kv.1,u) else kv):=by
 unfold KV at r ⊢
 induction r with
 | nil=>exact .nil
 | @cons p q ps qs h t ih=>
  rw[fc,fc]
  refine .cons ?_ ih
  obtain⟨h1,h2⟩:=h
  by_cases e:p.1=k
  ·rw[aC e,aC (h1.symm.trans e)];exact⟨h1,ry⟩
  ·rw[aB e,aB (λz=>e (h1.trans z))];exact⟨h1,h2⟩
theorem KV.put{aM:List (κ×V)}{vs:List (κ×Value)}(r:KV aM vs)(k:κ){y:V}{u:Value}(ry:RelV y u):KV (putK aM k y) (stored vs k u):=by
 unfold putK stored
 rw[r.any k]
 by_cases e:(vs.any λkv=>decide (kv.1=k))=true
 ·rw[aC e,aC e];exact r.repl k ry
 ·rw[aB e,aB e];exact Paired.snoc r ⟨rfl,ry⟩
theorem KV.length{aM:List (κ×V)}{vs:List (κ×Value)}(r:KV aM vs):aM.length=vs.length:=Paired.length r
end
theorem Lj{P:Program}{w:World}{k:Key}{u:Value}(r:RelV (kV k) u):(dM P w).is k u=true:=by
 cases k with
 | inl i=>obtain⟨t,e⟩:=(show ∃t,u=Value.int i t from r);subst e;exact Fi P w i t
 | inr x=>obtain⟨t,e⟩:=(show ∃t,u=Value.str x t from r);subst e;exact Fh P w x t
theorem zS{P:Program}{w:World}:∀{ks:List Key} {us:List Value},Vals (ks.map kV) us->ItemsAre (dM P w) ks us
 | [],_,r=>by rw[Ah]at r;cases r;exact .nil
 | k::ks,_,r=>by
  rw[fc]at r
  cases r with
  | cons h t=>exact .cons (Lj h) (zS t)
abbrev KT(H:Hp):List (List Key×V)->List (List Key×Addr×Value)->Prop:=Paired λp q=>p.1=q.1/\H q.2.1=some (.tup (p.1.map kV))/\RelV p.2 q.2.2
theorem KT.val{H:Hp}{aM:List (List Key×V)}{xs:List (List Key×Addr×Value)}(r:KT H aM xs)(k:List Key):pM (fU aM k) ((atKey xs k).map (·.2)):=by
 induction r with
 | nil=>exact True.intro
 | @cons p q ps qs h t ih=>
  obtain⟨h1,_,h2⟩:=h
  by_cases e:p.1=k
  ·have e':q.1=k:=h1.symm.trans e
   have b:atKey (q::qs) k=some q.2:=by simp[atKey,t9,e']
   rw[eD e,b];exact h2
  ·have e':¬q.1=k:=λz=>e (h1.trans z)
   have b:atKey (q::qs) k=atKey qs k:=by simp[atKey,t9,e']
   rw[eF e,b];exact ih
theorem KT.repl{H:Hp}{aM:List (List Key×V)}{xs:List (List Key×Addr×Value)}(r:KT H aM xs)(k:List Key){y:V}{u:Value}(ry:RelV y u) :
  KT H (aM.map λkv=>if kv.1=k then (kv.1,y) else kv) (xs.map (putAt k u)):=by
 induction r with
 | nil=>exact .nil
 | @cons p q ps qs h t ih=>
  rw[fc,fc]
  refine .cons ?_ ih
  obtain⟨h1,h2,h3⟩:=h
  unfold putAt
  by_cases e:p.1=k
  ·rw[aC e,aC (h1.symm.trans e)];exact⟨h1,h2,ry⟩
  ·rw[aB e,aB (λz=>e (h1.trans z))];exact⟨h1,h2,h3⟩
theorem KT.put{H:Hp}{aM:List (List Key×V)}{xs:List (List Key×Addr×Value)}(r:KT H aM xs)(k:List Key){b:Addr}{y:V}{u:Value}(hb:H b=some (.tup (k.map kV)))(ry:RelV y u) :
  KT H (putK aM k y) (storedH xs k b u):=by
 have e:(aM.any λkv=>decide (kv.1=k))=(atKey xs k).isSome:=by
  rw[kM,(r.val k).uz,Option.isSome_map]
 unfold putK storedH
 rw[e]
 by_cases q:(atKey xs k).isSome=true
 ·rw[aC q,aC q];exact r.repl k ry
 ·rw[aB q,aB q];exact Paired.snoc r ⟨rfl,hb,ry⟩
theorem KT.keeps{H H':Hp}{aM:List (List Key×V)}{xs:List (List Key×Addr×Value)}(r:KT H aM xs)(ht:∀b ys,H b=some (.tup ys)->H' b=some (.tup ys)):KT H' aM xs:=
 Paired.aAM r λ_ _ z=>⟨z.1,ht _ _ z.2.1,z.2.2⟩
section
variable {P:Program}{w:World}{H:Hp}{h:Heap}{a:Addr}
theorem Yz{u:HO}(ok:gZ P w H h)(e:Rd H a u):dE P w H h a u:=e.ok ok
theorem Ly{aM:List (Key×V)}(ok:gZ P w H h)(e:Rd H a (.dK aM)):aM.length<=sizeLine/\(a==sysModules)=false/\∃vs,KV aM vs/\h.DictOf (dM P w) a vs:=
 show dE P w H h a (.dK aM) from Yz ok e
theorem aDx{aM:List (Key×V)}(ok:gZ P w H h)(e:H a=some (.dK aM)):aM.length<=sizeLine/\(a==sysModules)=false/\∃vs,KV aM vs/\h.DictOf (dM P w) a vs:=Ly ok (.inl e)
theorem CK{ks:List Key}(ok:gZ P w H h)(e:H a=some (.tup (ks.map kV))):(tupleKind (dM P w)).is h ks a:=by
 obtain⟨_,its,r,o,h1,h2,n,h3⟩:=(show dE P w H h a (.tup (ks.map kV)) from ok a _ e)
 exact⟨o,its.toArray,n,h1,h2,h3,by simpa using zS r⟩
theorem Lw{aM:List (List Key×V)}(ok:gZ P w H h)(e:Rd H a (.dT aM)):aM.length<=sizeLine/\(a==sysModules)=false/\
  ∃xs,KT H aM xs/\h.DictOfH (tupleKind (dM P w)) a xs:=by
 obtain⟨z,y,xs,r,o,es,ep,h1,h2,h3,h4,h5⟩:=(show dE P w H h a (.dT aM) from Yz ok e)
 refine⟨z,y,xs,r,o,es,ep,h1,h2,h3,h4,λx hx=>?_,h5⟩
 have all:∀{l:List (List Key×V)} {m:List (List Key×Addr×Value)},KT H l m->∀x∈m,(tupleKind (dM P w)).is h x.1 x.2.1:=by
  intro l m q
  induction q with
  | nil=>intro x hx;exact nomatch hx
  | @cons p q ps qs hq t ih=>
   intro x hx
   rcases bT.mp hx with e | hx
   ·subst e
    exact CK ok (by rw[<-hq.1];exact hq.2.1)
   ·exact ih x hx
 exact all r x hx
theorem aDv{aM:List (List Key×V)}(ok:gZ P w H h)(e:H a=some (.dT aM)):aM.length<=sizeLine/\(a==sysModules)=false/\
  ∃xs,KT H aM xs/\h.DictOfH (tupleKind (dM P w)) a xs:=Lw ok (.inl e)
end
def tZ(H:Hp)(a:Addr)(y:V)(r:Option V):Prop:=
 (∃aM k,Rd H a (.dK aM)/\y=kV k/\r=fU aM k)\/∃aM k b,Rd H a (.dT aM)/\y=.ref b/\H b=some (.tup (k.map kV))/\r=fU aM k
def yx(H:Hp)(a:Addr)(y v:V)(H':Hp):Prop:=
 (∃aM k,H a=some (.dK aM)/\y=kV k/\aM.length<sizeLine/\H'=upd H a (.dK (putK aM k v)))\/
 ∃aM k b,H a=some (.dT aM)/\y=.ref b/\H b=some (.tup (k.map kV))/\aM.length<sizeLine/\H'=upd H a (.dT (putK aM k v))
theorem tZ.k{H:Hp}{a:Addr}{aM:List (Key×V)}{k:Key}(e:H a=some (.dK aM)):tZ H a (kV k) (fU aM k):=.inl ⟨aM,k,.inl e,rfl,rfl⟩
theorem tZ.t{H:Hp}{a b:Addr}{aM:List (List Key×V)}{k:List Key}(e:H a=some (.dT aM))(eb:H b=some (.tup (k.map kV))):tZ H a (.ref b) (fU aM k):=.inr ⟨aM,k,b,.inl e,rfl,eb,rfl⟩
theorem yx.k{H:Hp}{a:Addr}{aM:List (Key×V)}{k:Key}{v:V}(e:H a=some (.dK aM))(hl:aM.length<sizeLine):yx H a (kV k) v (upd H a (.dK (putK aM k v))):=.inl ⟨aM,k,e,rfl,hl,rfl⟩
theorem yx.t{H:Hp}{a b:Addr}{aM:List (List Key×V)}{k:List Key}{v:V}(e:H a=some (.dT aM))(eb:H b=some (.tup (k.map kV)))(hl:aM.length<sizeLine) :
  yx H a (.ref b) v (upd H a (.dT (putK aM k v))):=.inr ⟨aM,k,b,e,rfl,eb,hl,rfl⟩
section
variable {X:Cx}{pins:List (Addr×Obj)}{σ:St}{H:Hp}{s:Shared}{a:Addr}{y v:V}{u r:Value}{o:Option V}{A:Around}{E:Value->Shared->Prop}
theorem Inv.big(I:Inv X pins σ H s):sysModules<s.heap.objs.size:=by
 have h:mainGlobals<s.heap.objs.size:=(I.mod.glob.keeps I.bk).lt
 exact Nat.lt_trans (by decide) h
theorem OJ{Q:Value->Shared->Prop}(hu:A.units+1<cLine)(I:Inv X pins σ H s)(g:tZ H a y (some v))(ry:RelV y u)(h:∀w' s',Inv X pins σ H s'->RelV v w'->Q w' s') :
  wpAny (model X.prog X.w) A (getItem (.ref a) u) Q E s:=by
 rcases g with ⟨aM,k,e,ey,l⟩ | ⟨aM,k,b,e,ey,eb,l⟩
 ·subst ey
  obtain⟨z,hd,vs,rel,dd⟩:=Ly I.bx e
  obtain⟨w',hw,Nv⟩:=pM.some_of (v:=v) (o:=valueAt vs k) (by rw[l];exact rel.val k)
  exact wpAny_getItem_of (Lj ry) dd.mapOf hw (h w' _ (I.tok _) Nv)
 ·subst ey
  cases (show u=Value.ref b from ry)
  obtain⟨z,hd,xs,rel,dd⟩:=Lw I.bx e
  obtain⟨w',hw,Nv⟩:=pM.some_of (v:=v) (o:=(atKey xs k).map (·.2)) (by rw[l];exact rel.val k)
  obtain⟨p,hp,hp2⟩:=Option.map_eq_some_iff.mp hw
  refine wpAny_getItem_heap (tupleKind_room_in1 hu) (CK I.bx eb) dd hp ?_
  rw[hp2]
  exact h w' _ (I.tok _) Nv
theorem XS{Q:Value->Shared->Prop}(hu:A.units+1<cLine)(I:Inv X pins σ H s)(g:tZ H a y o)(ry:RelV y u)(h:∀s',Inv X pins σ H s'->Q (.bool (!o.isSome)) s') :
  wpAny (model X.prog X.w) A (compareOp .NotIn u (.ref a)) Q E s:=by
 rcases g with ⟨aM,k,e,ey,l⟩ | ⟨aM,k,b,e,ey,eb,l⟩
 ·subst ey
  obtain⟨z,hd,vs,rel,dd⟩:=Ly I.bx e
  refine wpAny_notIn_of (Lj ry) hd dd.mapOf ?_
  rw[<-(rel.val k).uz,<-l]
  exact h _ (I.tok _)
 ·subst ey
  cases (show u=Value.ref b from ry)
  obtain⟨z,hd,xs,rel,dd⟩:=Lw I.bx e
  refine wpAny_notIn_heap (tupleKind_room_in1 hu) (CK I.bx eb) hd dd ?_
  have q:=(rel.val k).uz
  rw[Option.isSome_map]at q
  rw[<-q,<-l]
  exact h _ (I.tok _)
theorem L5{h':Heap}{t':Nat}{ob:HO}(I:Inv X pins σ H s)(mu:Mut (H a))(hs:Heap.SameBut a s.heap h')(he:∃q,h'.get? a=some q)(new:dE X.prog X.w (upd H a ob) h' a ob) :
  Inv X pins σ (upd H a ob) { s with heap:=h',toks:=t' }:=
 I.write (x:=a) (e:=a) mu (.inl rfl) (λb q hb z=>(hs.2 b hb).trans z) he new
theorem aBD{P:Program}{w:World}{H':Hp}{h':Heap}{aM:List (Key×V)}{vs:List (Key×Value)}(z:aM.length<=sizeLine)(hd:(a==sysModules)=false)(rel:KV aM vs)(dd:h'.DictOf (dM P w) a vs) :
  dE P w H' h' a (.dK aM):=⟨z,hd,vs,rel,dd⟩
theorem OD{H':Hp}{Q:Unit->Shared->Prop}(hu:A.units+1<cLine)(I:Inv X pins σ H s)(g:yx H a y v H')(ry:RelV y u)(rv:RelV v r)(h:∀s',Inv X pins σ H' s'->Q () s') :
  wpAny (model X.prog X.w) A (setItem (.ref a) u r) Q E s:=by
 rcases g with ⟨aM,k,e,ey,l,eH⟩ | ⟨aM,k,b,e,ey,eb,l,eH⟩
 ·subst ey eH
  obtain⟨z,hd,vs,rel,dd⟩:=aDx I.bx e
  have hz:vs.length<=sizeLine:=by rw[<-rel.length];exact z
  have hl:(putK aM k v).length<=sizeLine:=by have:=om aM k v;lia
  refine wpAny_setItem_pairs (hsz:=hz) (Lj ry) dd λh' dd' hs=>h _ ?_
  have he:∃q,h'.get? a=some q:=let ⟨q,_,_,hq,_⟩:=dd';⟨q,hq⟩
  exact L5 I (by rw[e];exact True.intro) hs he (aBD hl hd (rel.put k rv) dd')
 ·subst ey eH
  cases (show u=Value.ref b from ry)
  obtain⟨z,hd,xs,rel,dd⟩:=aDv I.bx e
  have hz:xs.length<=sizeLine:=by rw[<-Paired.length rel];exact z
  have hl:(putK aM k v).length<=sizeLine:=by have:=om aM k v;lia
  refine wpAny_setItem_heap (hsz:=hz) (tupleKind_room_in1 hu) (CK I.bx eb) dd λh' dd' hs=>h _ ?_
  obtain⟨q,es,ep,hq,h2,h3,h4,_,h5⟩:=dd'
  refine L5 I (by rw[e];exact True.intro) hs ⟨q,hq⟩ ⟨hl,hd,_,(rel.put k eb rv).keeps λc ys ec=>?_,q,es,ep,hq,h2,h3,h4,h5⟩
  rw[aj (aN ec e (λz=>nomatch z))]
  exact ec
end
def aBK(i:Expr):Prop:=∀ov iv,subscripted i false ov iv=operate [ov,iv] (getItem ov iv)
theorem Vw{prog:Program}{w:World}{A:Around}{E:Value->Shared->Prop}{s:Shared}{env:Env}{value slice:Expr}{pos:Pos}{T id:String}{Q:Value->Shared->Prop}
  (hl:typeLookup (.type T) "__getitem__" = pure (some (.builtin id))) (hs:aBK slice)
  (h:wpAny (model prog w) A (eval value env) (λo s₁=>wpAny (model prog w) A (eval slice env) (λi s₂=>s₂.TypeIs o T/\wpAny (model prog w) A (getItem o i) Q E s₂) E s₁) E s) :
  wpAny (model prog w) A (eval (.Subscript value slice pos) env) Q E s:=by
 refine Subscript_ (dk h (λo s₁ h₁=>dk h₁ (λi s₂ h₂=>?_) λ_ _ x=>x) λ_ _ x=>x)
 obtain⟨hT,h₂⟩:=h₂
 unfold subscriptTail
 refine ay ?_
 rw[getitemInPython_of_ne hT.not_modules]
 refine ay (wpAny_specialOf hT hl ?_)
 have fin:wpAny (model prog w) A (subscripted slice false o i) (λr s₃=>wpAny (model prog w) A (letTemporaryGo value o r >>= λ_=>pure r) Q E s₃) E s₂:=by
  rw[hs o i]
  exact wpAny_operating (dk h₂ (λr s₃ h₃=>ay (wpAny_letTemporaryGo (aJ h₃))) λ_ _ x=>x)
 first
  | exact aJ (ay fin)
  | exact ay (aJ (ay fin))
  | exact ay fin
theorem Gj{X:Cx}{pins:List (Addr×Obj)}{σ:St}{H:Hp}{s:Shared}{a:Addr}{y:V}{o:Option V}(I:Inv X pins σ H s)(g:tZ H a y o):s.TypeIs (.ref a) "dict":=by
 rcases g with ⟨aM,k,e,_,_⟩ | ⟨aM,k,b,e,_,_,_⟩
 ·obtain⟨_,_,vs,_,dd⟩:=Ly I.bx e
  exact dd.typeIs
 ·obtain⟨_,_,xs,_,dd⟩:=Lw I.bx e
  exact dd.typeIs
def zm(td ty:TE):TE:=λσ H Q=>td σ H λx H1=>ty σ H1 λy H2=>∃a v,x=.ref a/\tZ H2 a y (some v)/\Q v H2
def Bs(ty td:TE):TE:=λσ H Q=>ty σ H λy H1=>td σ H1 λx H2=>∃a o,x=.ref a/\tZ H2 a y o/\Q (.bl (!o.isSome)) H2
def xc(td ty tv:TE):TS:=λD σ H=>tv σ H λv H1=>td σ H1 λx H2=>ty σ H2 λy H3=>∃a H4,x=.ref a/\yx H3 a y v H4/\D.nx σ H4
section
variable {X:Cx}{o i e value:Expr}{pos pos' Qi:Pos}{td ty tv:TE}
theorem Wv(hu:X.A.units+1<cLine)(ho:PE X o td)(hi:PE X i ty)(hs:aBK i):PE X (.Subscript o i pos) (zm td ty):=by
 intro pins s σ H Q I h
 refine Vw PySem.F.slot_dict_getitem.lookup hs (cM (ho pins s σ H _ I h) λu s1 ⟨x,H1,I1,rx,q1⟩=>cM (hi pins s1 σ H1 _ I1 q1) λiv s2 ⟨y,H2,I2,ry,a,v,ex,g,q2⟩=>?_)
 subst ex
 obtain rfl:u=Value.ref a:=rx
 exact⟨Gj I2 g,OJ hu I2 g ry λw' s3 I3 Nv=>⟨v,H2,I3,Nv,q2⟩⟩
theorem NK(hu:X.A.units+1<cLine)(hi:PE X i ty)(ho:PE X o td):PC X .NotIn i o (Bs ty td):=by
 intro pins s σ H Q I h
 refine cM (hi pins s σ H _ I h) λiv s1 ⟨y,H1,I1,ry,q1⟩=>cM (ho pins s1 σ H1 _ I1 q1) λu s2 ⟨x,H2,I2,rx,a,ov,ex,g,q2⟩=>?_
 subst ex
 obtain rfl:u=Value.ref a:=rx
 exact XS hu I2 g ry λs3 I3=>⟨.bl (!ov.isSome),H2,I3,rfl,q2⟩
theorem Wl(hu:X.A.units+1<cLine)(ho:PE X o td)(hi:PE X i ty)(hv:PE X value tv)(hs:swapsWith value (some (.Subscript o i pos')) pos.line X.env=pure false) :
  PS X (.Assign [.Subscript o i pos'] value pos) (xc td ty tv):=by
 intro pins s σ H D I h
 refine wpAny_Assign_Subscript (cM (hv pins s σ H _ I h) λr s1 ⟨v,H1,I1,rv,q1⟩=>cM (ho pins s1 σ H1 _ I1 q1) λu s2 ⟨x,H2,I2,rx,q2⟩=>cM (hi pins s2 σ H2 _ I2 q2) λiv s3 ⟨y,H3,I3,ry,a,H4,ex,g,q3⟩=>?_) hs
 subst ex
 obtain rfl:u=Value.ref a:=rx
 exact OD hu I3 g ry rv λs4 I4=>⟨σ,H4,I4,q3⟩
end
theorem Ud{P:Program}{w:World}{H:Hp}(h:Heap)(hb:sysModules<h.objs.size):dE P w H (h.push { cls:=.type "dict",data:=.dict #[] }) h.objs.size (.dK []):=
 ⟨dc _,uY.mpr (fO (bI hb)),[],.nil,Heap.DictOf.new h⟩
theorem Uc{P:Program}{w:World}{H:Hp}(h:Heap)(hb:sysModules<h.objs.size):dE P w H (h.push { cls:=.type "dict",data:=.dict #[] }) h.objs.size (.dT []):=
 ⟨dc _,uY.mpr (fO (bI hb)),[],.nil,_,#[],0,cH _ rfl,⟨rfl,rfl,rfl⟩,rfl,rfl,qq⟩
def wW:TE:=λ_ H Q=>∀p,H p=none->Q (.ref p) (upd H p (.dK []))
def wV:TE:=λ_ H Q=>∀p,H p=none->Q (.ref p) (upd H p (.dT []))
section
variable {X:Cx}{pos:Pos}
theorem RV:PE X (.Dict [] [] pos) wW:=λpins s σ H Q I h=>
 wpAny_Dict_empty ⟨.ref s.heap.objs.size,_,I.laid (a:=s.heap.objs.size) (o:=.dK []) (t':=s.toks) (λ_ _ q=>bR _ q) (bB _) (Ud s.heap I.big),rfl,h _ (I.bx.fresh (bB _))⟩
theorem RT:PE X (.Dict [] [] pos) wV:=λpins s σ H Q I h=>
 wpAny_Dict_empty ⟨.ref s.heap.objs.size,_,I.laid (a:=s.heap.objs.size) (o:=.dT []) (t':=s.toks) (λ_ _ q=>bR _ q) (bB _) (Uc s.heap I.big),rfl,h _ (I.bx.fresh (bB _))⟩
end
def aAI(aM more:List (Key×V)):List (Key×V):=more.foldl (λacc kv=>putK acc kv.1 kv.2) aM
structure M1(X:Cx)(o:Expr)(m:Str)(apos:Pos)(e:Expr)(dj:Pos):Prop where
 base:attributeBase o m X.env (eval o X.env)=eval o X.env
 few:((backTo dj (starEach [e] X.env)).all (λx=>!x.1)&&(backToKw dj (keywordEach [] X.env)).all (λx=>x.1.isSome)
  && decide (([e]:List Expr).length+([]:List Keyword).length+(if ([]:List Keyword).isEmpty then 0 else 1)<30))=true
 line:(apos.endLine==dj.line)=true
 trees:backTo dj (starEach [e] X.env)=[(false,eval e X.env)]
def IsD(H:Hp)(a:Addr):Prop:=(∃aM,Rd H a (.dK aM))\/∃aM,Rd H a (.dT aM)
def Qt(td ty:TE):TE:=λσ H Q=>td σ H λx H1=>∃a,x=.ref a/\IsD H1 a/\ty σ H1 λy H2=>∃aM k v,H2 a=some (.dK aM)/\y=kV k/\fU aM k=some v/\Q v (upd H2 a (.dK (aDw aM k)))
end L2
namespace Att
open PySem PySem.W PySem.Calls PyProof.Rows
theorem vG{P:Params}{h:Heap}:∀(ns:List Int) (vs:List Value),WellAll P h vs (ns.map WData.int)->IntsAre vs ns:=by
 intro ns
 induction ns with
 | nil=>
  intro vs w
  rw[Ah]at w
  cases w
  exact .nil
 | cons n ns ih=>
  intro vs w
  rw[fc]at w
  cases w with
  | cons a b=>
   cases a
   exact .cons _ _ (ih _ b)
theorem Nq{l:OpenLaw}{n:Nat}(hn:l.most=some n){P:Params}{h:Heap}{args:List WData}{vals:List Value}
  (Xf:l.row.toRowW.claim.pre args=true) (hwl:WellAll P h vals args) :
  ∃a vs ns,vals=[Value.ref a]/\args=[WData.list (ns.map WData.int)]/\h.get? a=some { cls:=.type "list",data:=.seq vs.toArray }/\IntsAre vs ns/\ns.length<=n:=by
 have hsh:WShape.hasAll [] args [.list .int]=true:=(pre_splitW Xf).1
 have hc:l.pre.holds [] { args:=args }=true:=(pre_splitW Xf).2
 obtain⟨d,r,rfl,h1,h2⟩:=hasAllW_cons hsh
 obtain rfl:=hasAllW_nil h2
 obtain⟨xs,rfl,h3⟩:=hasW_list h1
 obtain⟨ns,rfl⟩:=items_int h3
 have hlen:ns.length<=n:=by
  unfold OpenLaw.pre at hc
  have h4:(WTm.not (.lt (.lit (.int (n:Int))) (.len (.arg 0)))).holds [] { args:=[.list (ns.map .int)] }=true:=by
   have h4:=(holds_andW hc).1
   rw[hn]at h4
   exact h4
  have h5:=condW_of h4 (w_not (w_lt w_lit (w_len_list (w_arg rfl))))
  rw[aQ]at h5
  refine Nat.le_of_not_lt λq=>?_
  have q':(n:Int)<((ns.length:Nat):Int):=by lia
  first
   | (rw[decide_eq_true q']at h5;exact absurd h5 (by decide))
   | (simp at h5;lia)
 cases hwl with
 | cons w1 w2=>
  cases w2
  cases w1 with
  | list ho Oq=>exact⟨_,_,ns,rfl,rfl,ho,vG ns _ Oq,hlen⟩
theorem NB(l:OpenLaw)(args:List WData):l.row.toRowW.claim.post args (.bool true) args=true:=
 postW_of (r:=l.row.toRowW) (X:=(true==true))
  (show WShape.has [] (.bool true) .bool=true by first | rfl | decide | simp[WShape.has,WShape.arms,WShape.armsAll])
  (show(WTm.eq .res (.lit (.bool true))).value [] { args:=args,res:=some (.bool true),after:=args }=some (.bool (true==true)) from w_eq_bool (w_res rfl) w_lit) rfl
theorem GC{l:OpenLaw}{n:Nat}{q:Program}{loose:List Str}{XP:(Str->Option Value)->Heap->Prop}{YP:World->Heap->Prop}{d:DefRec}
  (hn:l.most=some n) (hdf:d.params.defaults=[])
  (call:∀(w:World) (s₀ s₁:Shared) (mg mb:Str->Option Value) (fa:Addr) (o:Obj) (pm cd doc:Value) (a:Addr) (vs:List Value) (ns:List Int),
   Ground q loose [] XP w s₀ mg mb s₁.heap->YP w s₁.heap->
   s₁.heap.get? fa=some o->o.data=.func (docDef d.name d.params d.body d.scope pm cd doc)->s₁.heap.CodeRec cd d.name->mg d.name=some (.ref fa)->
   s₁.heap.get? a=some { cls:=.type "list",data:=.seq vs.toArray }->IntsAre vs ns->ns.length<=n->s₁.gens = #[]->
   codeAny (model l.prog w) callerA (.call (.ref fa) ⟨[.ref a],[]⟩) (λr s'=>r=.ok (.ret (.bool true))/\OldK s₁.heap s'.heap/\s'.os=s₁.os/\AllBare s'.gens) s₁) :
  WalkO q loose XP YP l.row.toRowW d [] (λf vs=>PySem.call f vs):=by
 intro w s₀ s₁ mg mb G Y fa o pm cd doc dV kV ho hd vq hD hmg hg args vals as Xf hlay hrd hwl hlo
 obtain rfl:dV=.none:=Dflts.none hD hdf
 obtain rfl:kV=.none:=Dflts.noKw hD
 obtain⟨a,vs,ns,rfl,rfl,aA9,hints,hlen⟩:=Nq hn Xf hwl
 refine enter_call (ic (call w s₀ s₁ mg mb fa o pm cd doc a vs ns G Y ho (fd_plain hd) vq hmg aA9 hints hlen hg) λr s' hq=>?_)
 obtain⟨rfl,h2,h3,h4⟩:=hq
 exact⟨.inl ⟨.bool true,.bool true,[],rfl,λ_=>rfl,.bool true,NB l _,λ_=>⟨List.Pairwise.nil,λ_ hm=>(nomatch hm)⟩⟩,h2,h3,h4⟩
end Att
namespace L2
open PySem PySem.Spec PyProof.Rows
theorem ur:∀{vs:List Value} {ns:List Int},IntsAre vs ns->Vals (ns.map V.int) vs
 | _,_,.nil=>.nil
 | _,_,.cons n t h=>.cons ⟨t,rfl⟩ (ur h)
end L2
namespace L2
open PySem PySem.Spec PyProof.Rows
end L2
namespace L2
open PySem PySem.Spec PyProof.Rows
def aS(s:Stmt):Arguments:=match s with
 | .FunctionDef _ a _ _ _ _ _ _ _ _=>a
 | _=>{ posonlyargs:=[],args:=[],vararg:=none,kwonlyargs:=[],kw_defaults:=[],kwarg:=none,defaults:=[] }
def aK(s:Stmt):List Stmt:=match s with
 | .FunctionDef _ _ b _ _ _ _ _ _ _=>b
 | _=>[]
def ag(s:Stmt):Scope:=match s with
 | .FunctionDef _ _ _ _ _ _ sc _ _ _=>sc
 | _=>{ kind:=.function,names:=[],isGenerator:=false,isCoroutine:=false }
abbrev eV:Mz:=λ_ _ _ _ _ _=>False
abbrev E0:XK:=λ_ _ _=>False
theorem bj{X:Cx}:Passes eV X E0:=λ_ _ _ _ _ _ _ h=>h.elim
structure jE(K:PySem.W.Frag)(x qual:Str)(st:Stmt)(f:Addr)(fd:FuncData):Prop where
 ex:∃(oc:Value) (od:Option Addr) (kV doc pm:Value) (an:Option Addr) (cD ct:Value) (Dv:Array (Option Value)),
  fd=PySem.W.fnOf x qual (aS st) (aK st) (ag st) .none kV doc pm an cD ct/\K.lookup f=some ⟨oc,od,.func fd,Dv⟩/\PySem.W.codeIn K cD qual=true
 kp:PySem.W.keepIn K (.ref f)=true
section
variable {P:Program}{w:World}{K:PySem.W.Frag}{mg:Str->Option Value}{base:Heap}
theorem jE.ok{x qual:Str}{st:Stmt}{f:Addr}{fd:FuncData}{N ps:List Str}{k:Nat}{sp:Sp}(F:jE K x qual st f fd)(S:aU N ps (ag st))(len:∀vs H Q E,sp vs H Q E->vs.length=ps.length)
  (eI:∀(cD:Value) (A:Around) (outer:List Env) (s:Shared) (H:Hp) (vs:List V) (Q:VK) (E:XK),cv k (A.deeper (envOfC qual (ag st) s.heap.objs.size f cD))->sp vs H Q E->
   ∃t,yC (dF eV P w K mg base N qual (ag st) f cD A outer s H E).uw (aK st) t/\t { nx:=λ_ H'=>Q .non H',rt:=Q } (start N vs) H):cq P w K mg base eV (k+1) f fd ps sp:=by
 obtain⟨oc,od,kV,doc,pm,an,cD,ct,Dv,rfl,lk,vq⟩:=F.ex
 refine T4 lk vq S len λA outer s H vs Q E hr yR=>?_
 obtain⟨t,h,q⟩:=eI cD A outer s H vs Q E hr yR
 exact⟨t,h.uw,q⟩
theorem jE.binds{x qual:Str}{st:Stmt}{f:Addr}{fd:FuncData}{ps:List Str}(F:jE K x qual st f fd)
  (h:∀(kV doc pm:Value) (an:Option Addr) (cD ct:Value) (us:List Value),us.length=ps.length->bindArgs (PySem.W.fnOf x qual (aS st) (aK st) (ag st) .none kV doc pm an cD ct) ⟨us,[]⟩=pure (ps.zip us)):Binds K fd ps []:=by
 obtain⟨oc,od,kV,doc,pm,an,cD,ct,Dv,rfl,lk,vq⟩:=F.ex
 exact .all (h kV doc pm an cD ct)
theorem bU{x qual:Str}{st:Stmt}{f:Addr}{oc:Value}{od an:Option Addr}{Dv:Array (Option Value)}{kV doc pm cD ct:Value}(l:K.lookup f=some ⟨oc,od,.func (PySem.W.fnOf x qual (aS st) (aK st) (ag st) .none kV doc pm an cD ct),Dv⟩)
  (c:PySem.W.codeIn K cD qual=true) (k:PySem.W.keepIn K (.ref f)=true):jE K x qual st f (PySem.W.fnOf x qual (aS st) (aK st) (ag st) .none kV doc pm an cD ct):=⟨⟨oc,od,kV,doc,pm,an,cD,ct,Dv,rfl,l,c⟩,k⟩
end
theorem qd{A:Around}{k:Nat}(hr:cv k A):A.units+1<cLine:=si (Nat.add_le_add_left (by decide:1<=64) _) hr.units
theorem cz{n:Nat}(h:n<=1000):n<sizeLine:=si h (by decide)
section
variable {X:Cx}
theorem pv(i:Nat){x:Str}{pos:Pos}(hN:X.N[i]?=some x:=by rfl)(hv:Vis X.env.scope x:=by first | exact Or.inl rfl | exact Or.inr (Or.inl rfl) | exact Or.inr (Or.inr rfl))(hd:(x==("__debug__" : Str))=false:=by decide)
  (vq:(x==("__classdict__" : Str))=false:=by decide):PE X (.Name x pos) (DY i):=RM hN hv hd vq
end
def cp(H H':Hp):Prop:=∀b o,H b=some o->H' b=some o
theorem cp.refl(H:Hp):cp H H:=λ_ _ h=>h
theorem cp.trans{H H1 H2:Hp}(a:cp H H1)(b:cp H1 H2):cp H H2:=λc o h=>b c o (a c o h)
theorem cp.free{H H':Hp}(e:cp H H'){l:Addr}(h:H' l=Option.none):H l=Option.none:=by
 cases q:H l with
 | none=>rfl
 | some o=>
  rw[e l o q]at h
  cases h
end L2
end
section
theorem L2.hide{p:Prop}(h:∀q:Prop,(p->q)->q):p:=h p id
end
section
namespace L2
open PySem PySem.Spec PyProof.Rows
theorem vw{α β:Type}{f:α->β->Sem (ForInStep β)}(g:α->β->β):∀(l:List α) (b:β),(∀x∈l,∀c,f x c=pure (.yield (g x c)))->forIn l b f=pure (l.foldl (λc x=>g x c) b)
 | [],b,_=>rfl
 | x::l,b,h=>by
  rw[List.forIn_cons,h x dD,pure_bind]
  exact vw g l (g x b) λy hy=>h y (dW _ hy)
def fw(env:Env)(names:List (Str×NameKind))(cs:List (Str×Addr)):List (Str×Addr):=
 names.foldl (λc y=>if y.2==NameKind.free then (y.1,(env.cells.lookup y.1).getD 0)::c else c) cs
theorem lG{scope:Scope}{env:Env}(h:∀y∈scope.names,y.2=.free->∃c,env.cells.lookup y.1=some c):closureFor scope env=pure (fw env scope.names []):=by
 simp only[closureFor]
 rw[vw (λy c=>if y.2==NameKind.free then (y.1,(env.cells.lookup y.1).getD 0)::c else c) scope.names [] (λx hx c=>by
  obtain⟨n,kind⟩:=x
  dsimp only
  by_cases hk:kind=.free
  ·subst hk
   obtain⟨a,e⟩:=h (n,.free) hx rfl
   have e':env.cells.lookup n=some a:=e
   have:cellOf env n=pure a:=by unfold cellOf;rw[e']
   rw[this,e']
   rfl
  ·have hb:(kind==NameKind.free)=false:=by simpa using hk
   rw[hb];rfl)]
 simp only[pure_bind]
 rfl
theorem uH{env:Env}:∀(names:List (Str×NameKind)) (cs:List (Str×Addr)),(∀y∈names,y.2=.free->∃c,env.cells.lookup y.1=some c)->(∀p∈cs,env.cells.lookup p.1=some p.2)->
  ∀p∈fw env names cs,env.cells.lookup p.1=some p.2
 | [],cs,_,hc=>hc
 | y::r,cs,h,hc=>by
  unfold fw
  rw[ig]
  refine uH r _ (λz hz=>h z (dW _ hz)) λp hp=>?_
  by_cases hk:y.2=.free
  ·have hb:(y.2==NameKind.free)=true:=by simpa using hk
   rw[aC hb]at hp
   rcases bT.mp hp with e | hp
   ·obtain⟨c,e1⟩:=h y dD hk
    rw[e];dsimp only;rw[e1];rfl
   ·exact hc p hp
  ·have hb:¬(y.2==NameKind.free)=true:=by simpa using hk
   rw[aB hb]at hp
   exact hc p hp
theorem vz{env:Env}{p:Str×Addr}:∀(names:List (Str×NameKind)) (cs:List (Str×Addr)),p∈cs->p∈fw env names cs
 | [],_,h=>h
 | y::r,cs,h=>by
  unfold fw
  rw[ig]
  refine vz r _ ?_
  split
  ·exact dW _ h
  ·exact h
theorem z5{env:Env}{x:Str}:∀(names:List (Str×NameKind)) (cs:List (Str×Addr)),(x,NameKind.free)∈names->∃c,(x,c)∈fw env names cs
 | y::r,cs,h=>by
  rcases bT.mp h with e | h
  ·subst e
   exact⟨_,by
    unfold fw;rw[ig]
    refine vz r _ ?_
    rw[aC (by rfl)]
    exact dD⟩
  ·obtain⟨c,hc⟩:=z5 r (if y.2==NameKind.free then (y.1,(env.cells.lookup y.1).getD 0)::cs else cs) h
   exact⟨c,by unfold fw;rw[ig];exact hc⟩
theorem qb{f:Str->Option Addr}{x:Str}:∀{cs:List (Str×Addr)},(∀p∈cs,f p.1=some p.2)->(∃c,(x,c)∈cs)->cs.lookup x=f x
 | [],_,⟨_,h⟩=>nomatch h
 | (n,a)::r,hc,⟨c,h⟩=>by
  rw[il]
  by_cases e:x=n
  ·subst e
   rw[ip]
   exact(hc (x,a) dD).symm
  ·have hb:(x==n)=false:=by simpa using e
   rw[hb]
   refine qb (λp hp=>hc p (dW _ hp)) ⟨c,?_⟩
   rcases bT.mp h with q | q
   ·exact absurd (fZ Prod.fst q) e
   ·exact q
theorem tf{env : Env}{y : Str} : ∀ {names : List (Str × NameKind)}, (∀ z ∈ names, z.2 ≠ .cell) →
    ((names.map λ(n, k) => if (k==NameKind.free&&env.scope.kind == .function&&env.kindOf n==some .cell) then (n, NameKind.cell) else (n, k)).lookup y=some .cell ∨
     (names.map λ(n, k) => if (k==NameKind.free&&env.scope.kind == .function&&env.kindOf n==some .cell) then (n, NameKind.cell) else (n, k)).lookup y=some .free) → names.lookup y=some .free
  | [], _, h => by rcases h with h | h <;> cases h
  | (n, k)::r, hc, h => by
    have ih := @tf env y r λz hz => hc z (dW _ hz)
    rw[fc]at h
    rw[il]
    by_cases e : y=n
    · subst e
      rw[ip]
      by_cases hb : (k==NameKind.free&&env.scope.kind == .function&&env.kindOf y==some .cell)=true
      · have hk : k=.free := by
          rw[eB, eB]at hb
          simpa using hb.1.1
        rw[hk]
      · dsimp only at h
        rw[aB hb, il, ip]at h
        dsimp only at h
        rcases h with h | h
        · exact absurd (dU h) (hc (y, k) dD)
        · exact h
    · have hn : (y==n)=false := by simpa using e
      rw[hn]
      dsimp only at h ⊢
      apply ih
      by_cases hb : (k==NameKind.free&&env.scope.kind == .function&&env.kindOf n==some .cell)=true
      · rw[aC hb, il, hn]at h
        exact h
      · rw[aB hb, il, hn]at h
        exact h
structure CB where
 C:Addr
 cl:List (Str×Addr)
 s2:Shared
 H2:Hp
 ex:List Addr
@[reducible] def mB (X:Cx) (scope:Scope) (N:List Str) (c:CB):Cx:=
 { prog:=X.prog,w:=X.w,K:=X.K,mg:=X.mg,base:=X.base,A:=X.A,N:=N,s₀:=c.s2,H₀:=c.H2,env:=compEnvC scope c.cl c.C X.env,outer:=X.stack,stack:=X.stack,ex:=c.ex,fn:=λ_=>false,calm:=X.calm,pn:=[],xe:=λ_ _=>False }
def cE(σ:St)(idx:List Nat):St:=idx.map λi=>(σ[i]?).join
def cC(N:List Str)(idx:List Nat):List Str:=idx.map λi=>N.getD i ""
def Dp(X:Cx)(ifs:List Expr)(t:TT):Prop:=
 ∀(pins:List (Addr×Obj)) (s:Shared) (σ:St) (H:Hp) (Q:Bool->Hp->Prop),Inv X pins σ H s->t σ H Q->
  wpAny (model X.prog X.w) X.A (forIn ifs true λc r=>if r=true then do let ok <-isTrue c X.env (eval c X.env);pure (ForInStep.yield ok) else pure (ForInStep.yield r)) (TP X pins σ Q) X.xe s
def Ql:TT:=λ_ H Q=>Q true H
theorem RJ{X:Cx}:Dp X [] Ql:=λ_ _ _ H _ I h=>wpAny_tests_nil ⟨H,I,h⟩
theorem RG{X:Cx}{e:Expr}{t:TT}(h:PT X e t):Dp X [e] t:=λpins s σ H Q I q=>wpAny_tests_one (h pins s σ H Q I q)
def wY(wi:TI)(k:Nat)(idx:List Nat)(g:CB->TG)(tt:CB->TT)(te:CB->TE):TE:=λσ H Q=>wi σ H λJ H1=>∀D,H1 D=none->∃W:Nat->Nat->List V->Hp->Prop,(∃m,W 0 m [] (upd H1 D (.lst [])))/\
 ∀i m ys H',W i m ys H'->(J.stop i H'/\Q (.ref D) H')\/(J.go i H'/\∃N:List V->Hp->Prop,(∀uq yq,N uq yq->∃m',m'<m/\W (i+1) m' uq yq)/\∀(c:CB) (own:St),own.length=k->∀x H2,J.M3 i H' x H2->g c x (own++cE σ idx) H2 λσ3 H3=>
  (∃fk,fk.length=k/\σ3=fk++cE σ idx)/\tt c σ3 H3 λb H4=>if b=true then te c σ3 H4 λy H5=>H5 D=some (.lst ys)/\ys.length<sizeLine/\N (ys++[y]) (upd H5 D (.lst (ys++[y]))) else N ys H4)
structure yz(X:Cx)(scope:Scope)(xs:List Str)(idx:List Nat):Prop where
 kind:scope.kind=.function
 ky:∀y∈scope.names,y.2≠.cell
 loc:∀y∈scope.names,y.2=.local->scope.names.lookup y.1=some .local
 free:∀y∈scope.names,y.2=.free->scope.names.lookup y.1=some .free/\(X.env.kindOf y.1=some .cell\/X.env.kindOf y.1=some .free)
 ix:∀i∈idx,∃y,X.N[i]?=some y/\scope.names.lookup y=some .free
section
variable {prog:Program}{w:World}{A:Around}{R:Result->Shared->Prop}{s:Shared}
theorem oC{elt target iter:Expr}{ifs:List Expr}{scope:Scope}{pos:Pos}{it acc:Value}{env:Env}(I:Nat->Shared->Prop)
  (turn:∀n s,I n s->wpAny (model prog w) A (pyNext it) (λr s₁=>match r with
   | none=>R (.ok .next) s₁
   | some v=>wpAny (model prog w) A (letOwnedTupleGo target it v) (λ_ s₁'=>wpAny (model prog w) A (assign target env v) (λ_ s₂=>
     wpAny (model prog w) A (forIn ifs true λc r=>if r=true then do let ok <-isTrue c env (eval c env);pure (ForInStep.yield ok) else pure (ForInStep.yield r)) (λok s₃=>
      if ok=true then wpAny (model prog w) A (eval elt env) (λx s₄=>
       wpAny (model prog w) A (call (.builtin "list.append") [acc,x]) (λ_ s₅=>∃m,m<n/\I m s₅) (λ_ _=>False) s₄) (λ_ _=>False) s₃
      else ∃m,m<n/\I m s₃) (λ_ _=>False) s₂) (λ_ _=>False) s₁') (λ_ _=>False) s₁) (λ_ _=>False) s)
  (n:Nat) (h:I n s) :
  codeAny (model prog w) A (.compLoop (.ListComp elt [⟨target,iter,ifs,0⟩] scope pos) 0 it acc env) R s:=by
 refine codeAny_loop rfl I (λn s hI=>?_) n h
 show wpAny _ A ((compTurn (.ListComp elt [⟨target,iter,ifs,0⟩] scope pos) 0 it acc env).onRaise (λx=>do noteFrame x env;theTreesLotGoes x)) _ _ s
 refine wpAny_noted ?_
 rw[compTurn_list]
 refine ay (t6 (ay (dk (turn n s hI) (λr s₁ h₁=>?_) λ_ _ h'=>False.elim h')))
 cases r with
 | none=>exact aJ h₁
 | some v=>
  refine ay (dk h₁ (λ_ s₁' h₁'=>?_) λ_ _ h'=>False.elim h')
  refine ay (dk h₁' (λ_ s₂ h₂=>ay (dk h₂ (λok s₃ h₃=>?_) λ_ _ h'=>False.elim h')) λ_ _ h'=>False.elim h')
  cases ok with
  | false=>exact aJ ⟨rfl,h₃⟩
  | true=>
   exact ay (ay (dk h₃ (λx s₄ h₄=>ay (dk h₄ (λ_ s₅ h₅=>aJ (aJ ⟨rfl,h₅⟩)) λ_ _ h'=>False.elim h')) λ_ _ h'=>False.elim h'))
end
section
variable {X:Cx}{pins:List (Addr×Obj)}{σ:St}{H:Hp}{s:Shared}
theorem gZ.but{P:Program}{w:World}{h h':Heap}{C:Addr}(x:gZ P w H h)(hn:H C=none)(hs:Heap.SameBut C h h'):gZ P w H h':=λb ob e=>by
 refine(x b ob e).stay (λc w' hc q=>(hs.2 c ?_).trans q) (λ_ q=>q) λ_ _ q=>q
 rintro rfl
 rcases hc with rfl | hc
 ·rw[hn]at e;cases e
 ·rw[hn]at hc;cases hc
theorem Un.but{fs ex:List Addr}{H':Hp}{h h1 h2:Heap}{C:Addr}(u:Un fs ex H H' h h1)(hC:h.get? C=none)(hs:Heap.SameBut C h1 h2):Un fs ex H H' h h2:=by
 have ne:∀b o,h.get? b=some o->b≠C:=λb o e z=>by rw[z,hC]at e;cases e
 exact⟨λb o e n h1 h2=>(hs.2 b (ne b o e)).trans (u.keep b o e n h1 h2),λb o e n h1 h2=>by
   obtain⟨sl,q⟩:=u.slot b o e n h1 h2
   exact⟨sl,(hs.2 b (ne b o e)).trans q⟩,u.free,λb o e h2=>by
   obtain⟨o',q⟩:=u.there b o e h2
   exact⟨o',(hs.2 b (ne b o e)).trans q⟩,u.tups,u.frzs,u.tbls⟩
theorem Qx{idx:List Nat}{j:Nat}{v:V}(h:(cE σ idx)[j]?=some (some v)):∃i,idx[j]?=some i/\σ[i]?=some (some v):=by
 unfold cE at h
 rw[cU]at h
 cases e:idx[j]? with
 | none=>rw[e]at h;cases h
 | some i=>
  rw[e]at h
  refine⟨i,rfl,?_⟩
  have h':(σ[i]?).join=some v:=dU h
  cases q:σ[i]? with
  | none=>rw[q]at h';cases h'
  | some o=>rw[q]at h';cases o with
   | none=>cases h'
   | some z=>cases h';rfl
theorem Qy{N:List Str}{idx:List Nat}{j i:Nat}{y:Str}(h:idx[j]?=some i)(e:N[i]?=some y):(cC N idx)[j]?=some y:=by
 unfold cC
 rw[cU,h]
 show some (N.getD i "")=some y
 rw[nF,e];rfl
theorem G6.block{scope:Scope}{N:List Str}{C:Addr}{cl:List (Str×Addr)}{fp:List Addr}(x:G6 X)(I:Inv X pins σ H s)(f2:∀b∈fp,y8 X pins H b):G6 (mB X scope N ⟨C,cl,s,H,fp⟩):=by
 rcases id x with x' | ⟨e,o,vs,x',y,n,f,g,d⟩
 ·exact .inl x'
 ·refine .inr ⟨e,o,vs,x',I.base.keep e o y n f g,I.base.free e o y n g,λz=>?_,λz=>x.fresh (f2 e z).2.2.2.1 x',d⟩
  rcases bT.mp (I.nM e z) with q | q
  ·exact absurd (bC y) (kj.mpr (by rw[q];exact I.ok.above))
  ·exact f q
theorem Inv.block{scope:Scope}{xs:List Str}{idx:List Nat}{fp:List Addr}{C:Addr}{h':Heap}{t':Nat}{H1:Hp}{D:Addr}{m0:Str->Option Value}(I:Inv X pins σ H s)(S:yz X scope xs idx)
  (hfp:∀b∈fp,y8 X pins H b) (hfo:∀b∈fp,∃o,s.heap.get? b=some o) (hC:s.heap.objs.size<=C) (hDC:D≠C) (hD:s.heap.objs.size<=D) (hn:h'.Ns C m0) (hk:∀b o,s.heap.get? b=some o->h'.get? b=some o)
  (hl:∃n,h'.get? D=some { cls:=.type "list",data:=.seq #[] n }) :
  Inv (mB X scope (xs++cC X.N idx) ⟨C,fw X.env scope.names [],s,H,fp⟩) [] (List.replicate xs.length none++cE σ idx) (upd H D (.lst [])) { s with heap:=h',toks:=t' }:=by
 have Gb:∀y∈scope.names,y.2=.free->∃c,X.env.cells.lookup y.1=some c:=λy hy e=>I.ok.has y.1 (S.free y hy e).2
 have Oq:=uH (env:=X.env) scope.names [] Gb (λp hp=>(nomatch hp))
 have qf:∀y c,(fw X.env scope.names []).lookup y=some c->X.env.cells.lookup y=some c:=λy c e=>Oq (y,c) (jM e)
 have aCX:∀y,scope.names.lookup y=some .free->(fw X.env scope.names []).lookup y=X.env.cells.lookup y:=λy e=>qb (f:=λn=>X.env.cells.lookup n) Oq (z5 scope.names [] (jM e))
 have lt:∀b,(∃o,s.heap.get? b=some o)->b<s.heap.objs.size:=λb ⟨o,e⟩=>bC e
 have hDn:H D=none:=I.bx.fresh hD
 refine⟨⟨I.ok.mod,S.kind,I.ok.glob,I.ok.blt,hC,λx y c h1 h2=>I.ok.inj x y c (qf x c h1) (qf y c h2),λy hy=>?_,λ_ _ e=>(nomatch e),λz=>(I.ok.hd z).block I hfp,I.ok.frames,.inl rfl,λb hb=>⟨?_,λx c e=>(hfp b hb).2.2.2.2.1 x c (qf x c e)⟩,I.bs,fJ I.ok.G3 I.sz,λb o e hb=>?_,λb hb z=>?_,I.stack,I.sU⟩,
  rfl,I.bare,?_,⟨m0,hn,λi y v e1 e2 hv=>?_⟩,λx c e=>?_,?_,λx c e=>?_,λp hp=>(nomatch hp),?_,?_⟩
 ·
  have q:scope.names.lookup y=some .free:=tf S.ky hy
  have q2:=jM q
  obtain⟨c,e⟩:=Gb _ q2 rfl
  exact⟨c,(aCX y q).trans e⟩
 ·
  exact bI (cV (lt b (hfo b hb)) hC)
 ·
  rcases(hfp b hb).2.2.2.1 with z | z
  ·exact I.ok.Ey b o e z
  ·exact absurd (cV (bC e) (fJ I.ok.G3 z)) (iJ _)
 ·
  rcases bT.mp (I.nM b z) with q | q
  ·exact(hfp b hb).2.1 q
  ·exact(hfp b hb).2.2.1 q
 ·
  exact Un.laid hk hD hDn
 ·
  by_cases hi:i<xs.length
  ·rw[nE (by simpa using hi)]at e2
   rw[List.getElem?_replicate]at e2
   split at e2 <;> cases e2
  ·have Pl:xs.length<=i:=Nat.le_of_not_lt hi
   rw[mQ (by simpa using Pl),Be]at e2
   obtain⟨i0,ei,es⟩:=Qx e2
   obtain⟨y',ey,ef⟩:=S.ix i0 (ny ei)
   have Ub:(xs++cC X.N idx)[i]?=some y:=e1
   rw[mQ Pl,Qy ei ey]at Ub
   cases Ub
   obtain⟨m,hm,hl'⟩:=I.loc
   have ef2:=S.free (y,.free) (jM ef) rfl
   have vis:Vis X.env.scope y:=.inr ef2.2
   obtain⟨u,ru,lk⟩:=hl' i0 y v ey es vis
   refine⟨u,ru,?_⟩
   rcases lk with ⟨k1,_⟩ | ⟨_,c,ec,hc⟩
   ·rcases ef2.2 with z | z
    ·have z':X.env.kindOf y=some .cell:=z
     rw[k1]at z';cases z'
    ·have z':X.env.kindOf y=some .free:=z
     rw[k1]at z';cases z'
   ·refine .inr ⟨?_,c,(aCX y ef).trans ec,hc.keeps hk⟩
    rcases hv with z | z | z
    ·exfalso
     have z':(relabel scope X.env).names.lookup y=some .local:=z
     have:∀(names:List (Str×NameKind)),names.lookup y=some .free->(names.map λ(n,k)=>if (k==NameKind.free&&X.env.scope.kind == .function&&X.env.kindOf n==some .cell) then (n,NameKind.cell) else (n,k)).lookup y≠some .local:=by
      intro names
      induction names with
      | nil=>intro h;cases h
      | cons p r ih=>
       obtain⟨n,k⟩:=p
       intro h
       rw[fc]
       by_cases e:y=n
       ·subst e
        rw[il,ip]at h
        cases h
        dsimp only
        split
        ·rw[il,ip];exact λq=>nomatch q
        ·rw[il,ip];exact λq=>nomatch q
       ·have hn:(y==n)=false:=by simpa using e
        rw[il,hn]at h
        dsimp only
        split
        ·rw[il,hn];exact ih h
        ·rw[il,hn];exact ih h
     exact this scope.names ef z'
    ·exact .inl z
    ·exact .inr z
 ·
  obtain⟨v,q⟩:=I.cell x c (qf x c e)
  exact⟨v,q.keeps hk⟩
 ·
  show upd H D (.lst []) C=none
  rw[aj (fO hDC)]
  exact I.bx.fresh hC
 ·
  have e':=qf x c e
  obtain⟨v,q⟩:=I.cell x c e'
  rw[aj (bI (cV q.lt hD))]
  exact I.gx x c e'
 ·
  obtain⟨n,e⟩:=hl
  exact I.bx.laid hk hD ⟨dc _,[],n,.nil,e⟩
 ·show(List.replicate xs.length none++cE σ idx).length=(xs++cC X.N idx).length
  rw[cP,cP,Be]
  unfold cE cC
  rw[aQ,aQ]
end
section
variable {X:Cx}{elt target iter:Expr}{ifs:List Expr}{scope:Scope}{pos:Pos}{xs:List Str}{idx:List Nat}{wi:TI}{g:CB->TG}{tt:CB->TT}{te:CB->TE}
theorem Gp{pins:List (Addr×Obj)}{σ:St}{H2:Hp}{s2:Shared}{fp:List Addr}{it:Addr}{tn:Nat->Heap->Prop}{J:It}{Q:V->Hp->Prop}{RR:Value->Addr->Result->Shared->Prop}{E:Value->Shared->Prop}(hc:X.calm=true)(S:yz X scope xs idx)
  (hg:∀c,PG (mB X scope (xs++cC X.N idx) c) target (g c)) (ht:∀c,Dp (mB X scope (xs++cC X.N idx) c) ifs (tt c)) (he:∀c,PE (mB X scope (xs++cC X.N idx) c) elt (te c))
  (I2:Inv X pins σ H2 s2) (T:Turn X.prog X.w X.K target J fp it tn) (Pj:tn 0 s2.heap) (f2:∀b∈fp,y8 X pins H2 b)
  (h:∀D,H2 D=none->∃W:Nat->Nat->List V->Hp->Prop,(∃m,W 0 m [] (upd H2 D (.lst [])))/\
   ∀i m ys H',W i m ys H'->(J.stop i H'/\Q (.ref D) H')\/(J.go i H'/\∃N:List V->Hp->Prop,(∀uq yq,N uq yq->∃m',m'<m/\W (i+1) m' uq yq)/\∀(c:CB) (own:St),own.length=xs.length->∀x H2,J.M3 i H' x H2->g c x (own++cE σ idx) H2 λσ3 H3=>
    (∃fk,fk.length=xs.length/\σ3=fk++cE σ idx)/\tt c σ3 H3 λb H4=>if b=true then te c σ3 H4 λy H5=>H5 D=some (.lst ys)/\ys.length<sizeLine/\N (ys++[y]) (upd H5 D (.lst (ys++[y]))) else N ys H4))
  (hRR:∀D C σ' H' s',s2.heap.objs.size<=C->Inv (mB X scope (xs++cC X.N idx) ⟨C,fw X.env scope.names [],s2,H2,fp⟩) [] σ' H' s'->Q (.ref D) H'->RR (.ref D) C (.ok .next) s') :
  wpAny (model X.prog X.w) X.A (newList []) (λacc s₃=>wpAny (model X.prog X.w) X.A (newFunctionEnv scope X.env.globals (fw X.env scope.names []) [] X.env.qual none .none (some X.env)) (λaDD s₄=>
   codeAny (model X.prog X.w) X.A (.compStart (.ListComp elt [⟨target,iter,ifs,0⟩] scope pos) 0 (.ref it) acc { aDD with scope:=relabel scope X.env }) (RR acc aDD.locals) s₄) E s₃) E s2:=by
 refine eZ (wpAny_newFunctionEnv S.ky (by intro y hy;simp at hy) (λh₁ aBa Xd=>?_) S.kind)
 dsimp only at aBa Xd ⊢
 generalize hH2:s2.heap.push { cls:=.type "list",dict:=none,data:=.seq ([]:List Value).toArray }=HH at aBa Xd ⊢
 have hCs:HH.objs.size=s2.heap.objs.size+1:=by rw[<-hH2,pP]
 have hDC:s2.heap.objs.size≠HH.objs.size:=by rw[hCs];exact bI (qv _)
 have aBz:s2.heap.objs.size<=HH.objs.size:=by rw[hCs];exact nk _
 have old:∀b o,s2.heap.get? b=some o->h₁.get? b=some o:=λb o e=>Xd.extBut b o (by rw[hCs];exact bI (sf (bC e))) (bR _ (hH2 ▸ bR _ e))
 have Gf:∃n,h₁.get? s2.heap.objs.size=some { cls:=.type "list",data:=.seq #[] n }:=⟨_,Xd.extBut _ _ hDC (bR _ (hH2 ▸ cH _ rfl))⟩
 have Yv:tn 0 h₁:=T.keep _ _ _ Pj λb _ o e=>old b o e
 obtain⟨W,⟨m0,w0⟩,turn⟩:=h s2.heap.objs.size I2.fresh
 have loop:∀s₃:Shared,s₃={ s2 with heap:=h₁,toks:=s2.toks+([]:List (Str×Value)).length }->
   codeAny (model X.prog X.w) X.A (.compLoop (.ListComp elt [⟨target,iter,ifs,0⟩] scope pos) 0 (.ref it) (.ref s2.heap.objs.size) (compEnvC scope (fw X.env scope.names []) HH.objs.size X.env)) (RR (.ref s2.heap.objs.size) HH.objs.size) s₃:=by
  rintro s₃ rfl
  have I3:=I2.block (t':=s2.toks+([]:List (Str×Value)).length) (H1:=H2) S f2 (λb hb=>let ⟨o,e,_⟩:=T.obj _ _ Pj b hb;⟨o,e⟩) aBz hDC (bB _) aBa old Gf
  generalize hY:mB X scope (xs++cC X.N idx) ⟨HH.objs.size,fw X.env scope.names [],s2,H2,fp⟩=Y at I3
  have eY:Y=mB X scope (xs++cC X.N idx) ⟨HH.objs.size,fw X.env scope.names [],s2,H2,fp⟩:=hY.symm
  have nof:∀b∈fp,b∉Y.fs:=λb hb z=>by
   rw[eY]at z
   rcases bT.mp (I2.nM b z) with q | q
   ·exact(f2 b hb).2.1 q
   ·exact(f2 b hb).2.2.1 q
  have stat:∀{H':Hp},(∀b∈fp,H' b=none)->∀b∈fp,y8 Y [] H' b:=λ{H'} hn b hb=>by
   have lt:b<s2.heap.objs.size:=let ⟨o,e,_⟩:=T.obj _ _ Pj b hb;bC e
   refine⟨hn b hb,?_,nof b hb,.inl (by rw[eY];exact hb),λx c e=>?_,λp hp=>?_⟩
   ·rw[eY];exact bI (cV lt aBz)
   ·rw[eY]at e
    have Oq:=uH (env:=X.env) scope.names [] (λy hy e=>I2.ok.has y.1 (S.free y hy e).2) (λp hp=>nomatch hp)
    exact(f2 b hb).2.2.2.2.1 x c (Oq (x,c) (jM e))
   ·rw[eY]at hp;exact nomatch hp
  have T':Turn Y.prog Y.w Y.K target J fp it tn:=by rw[eY];exact T
  have hg':PG Y target (g ⟨HH.objs.size,fw X.env scope.names [],s2,H2,fp⟩):=by rw[eY];exact hg _
  have ht':Dp Y ifs (tt ⟨HH.objs.size,fw X.env scope.names [],s2,H2,fp⟩):=by rw[eY];exact ht _
  have he':PE Y elt (te ⟨HH.objs.size,fw X.env scope.names [],s2,H2,fp⟩):=by rw[eY];exact he _
  have hcY:Y.calm=true:=by rw[eY];exact hc
  have eA:Y.A=X.A:=by rw[eY]
  have eP:Y.prog=X.prog:=by rw[eY]
  have eW:Y.w=X.w:=by rw[eY]
  have eE:Y.env=compEnvC scope (fw X.env scope.names []) HH.objs.size X.env:=by rw[eY]
  have eX:Y.xe=λ_ _=>False:=by rw[eY]
  have fin:∀σ' H' s',Inv Y [] σ' H' s'->Q (.ref s2.heap.objs.size) H'->RR (.ref s2.heap.objs.size) HH.objs.size (.ok .next) s':=λσ' H' s' I' q=>hRR _ _ σ' H' s' aBz (by rw[<-eY];exact I') q
  rw[<-eE,<-eA,<-eP,<-eW]
  have fr0:∀b∈fp,(upd H2 s2.heap.objs.size (.lst [])) b=none:=λb hb=>by
   have lt:b<s2.heap.objs.size:=let ⟨o,e,_⟩:=T.obj _ _ Pj b hb;bC e
   rw[aj (bI lt)];exact(f2 b hb).1
  refine oC (λn s'=>∃i ys own H',own.length=xs.length/\Inv Y [] (own++cE σ idx) H' s'/\tn i s'.heap/\(∀b∈fp,H' b=none)/\W i n ys H') ?_ m0
   ⟨0,[],_,_,Be,I3,Yv,fr0,w0⟩
  rintro n s4 ⟨i,ys,own,H4,aFY,I4,st4,fr4,w4⟩
  rcases turn i n ys H4 w4 with ⟨stop,qn⟩ | ⟨go,NN,hNN,step⟩
  ·exact cM (T'.done Y rfl rfl rfl hcY i [] s4 _ H4 _ I4 (stat fr4) st4 stop) λr s5 ⟨hr,I5⟩=>by subst hr;exact fin _ _ _ I5 qn
  ·refine cM (T'.item Y rfl rfl rfl hcY i [] s4 _ H4 _ I4 (stat fr4) st4 go) λr s5 ⟨u,hr,h5⟩=>?_
   subst hr
   refine cM h5 λ_ s6 ⟨x,H6,I6,r6,y6,st6,fr6⟩=>?_
   have I6':=I6.pinned (stat fr6) (T'.obj _ _ st6)
   have step':=step ⟨HH.objs.size,fw X.env scope.names [],s2,H2,fp⟩ own aFY x H6 y6
   refine dk (hg' _ s6 _ H6 x u _ I6' r6 step') (λ_ s7 ⟨σ7,H7,I7,q7⟩=>?_) (λ_ _ z=>by rw[eX]at z;exact z)
   obtain⟨⟨aER,ho7,e7⟩,q7⟩:=q7
   refine dk (ht' _ s7 σ7 H7 _ I7 q7) (λb s8 ⟨H8,I8,q8⟩=>?_) (λ_ _ z=>by rw[eX]at z;exact z)
   have again:∀{H9:Hp} {s9:Shared} {uq:List V},Inv Y ([]++xj fp s6.heap) σ7 H9 s9->NN uq H9->∃m,m<n/\∃i ys own H',own.length=xs.length/\Inv Y [] (own++cE σ idx) H' s9/\tn i s9.heap/\(∀b∈fp,H' b=none)/\W i m ys H':=λ{H9 s9 uq} I9 n9=>by
    obtain⟨m',hm,w9⟩:=hNN _ _ n9
    rw[e7]at I9
    refine⟨m',hm,i+1,uq,aER,H9,ho7,I9.sO,T'.keep _ _ _ st6 λb hb o e=>(I9.pin (b,o) (nB _ (nB _ (lZ hb e)))).1,λb hb=>?_,w9⟩
    obtain⟨o,e,d⟩:=T'.obj _ _ st6 b hb
    exact(I9.pin (b,o) (nB _ (nB _ (lZ hb e)))).2.1
   cases b with
   | false=>exact again I8 q8
   | true=>
    refine dk (he' _ s8 σ7 H8 _ I8 q8) (λu9 s9 ⟨y,H9,I9,r9,hy,hz,q9⟩=>?_) (λ_ _ z=>by rw[eX]at z;exact z)
    have ap:=eL (X:=Y) _ s9 σ7 H9 (.ref s2.heap.objs.size) [y] (.ref s2.heap.objs.size) [u9] (λ_ Pz=>NN (ys++[y]) Pz) I9 rfl (.cons r9 .nil) ⟨_,ys,y,rfl,rfl,hy,hz,q9⟩
    refine dk ap (λ_ s10 ⟨_,Pz,I10,_,q10⟩=>again I10 q10) (λ_ _ z=>by rw[eX]at z;exact z)
 exact codeAny_compStart_list (loop _ rfl) (T.self _ 0 _ _ _ Yv (loop _ rfl))
theorem Ww(hc:X.calm=true)(S:yz X scope xs idx)(hi:PI X target iter wi)
  (hg:∀c,PG (mB X scope (xs++cC X.N idx) c) target (g c)) (ht:∀c,Dp (mB X scope (xs++cC X.N idx) c) ifs (tt c)) (he:∀c,PE (mB X scope (xs++cC X.N idx) c) elt (te c))
  (hs:∀x,foldedSetIterable iter X.env x=pure x:=by intro _;rfl):PE X (.ListComp elt [⟨target,iter,ifs,0⟩] scope pos) (wY wi xs.length idx g tt te):=by
 intro pins s σ H Q I h
 rw[eval_ListComp]
 have Tq:closureFor scope X.env=pure (fw X.env scope.names []):=lG λy hy e=>I.ok.has y.1 (S.free y hy e).2
 refine wpAny_comprehension_free (use:=none) rfl hs Tq S.kind S.loc (cM (hi pins s σ H _ I h) λxv s₁ h₁=>cM h₁ λitv s₂ h₂=>?_)
 obtain⟨it,fp,tn,J,H2,e,I2,T,Pj,f2,hW⟩:=h₂
 subst e
 refine Gp (Q:=Q) (RR:=λacc C=>compPost (model X.prog X.w) X.A X.xe none (EP X pins σ Q) acc C) hc S hg ht he I2 T Pj f2 hW ?_
 intro D C σ' H' s' hC I' q
 obtain⟨m',hn,_⟩:=I'.loc
 refine⟨m',hn,λh'' aCG=>?_⟩
 obtain⟨hh,gg,d,t,os⟩:=s'
 obtain rfl:os=s₂.os:=I'.os
 have Cn:s₂.heap.get? C=none:=uh hC
 refine⟨.ref D,H',I2.call (s:=s₂) (h':=h'') (g':=gg) (d':=d) (t':=t) (ch:=fp) (I'.base.but Cn aCG) (I'.bx.but I'.free aCG) I'.bare (λb hb=>?_),rfl,q⟩
 obtain⟨_,f1,_,f3,f4,f5⟩:=f2 b hb
 exact⟨f3,f1,f4,f5⟩
end
theorem JP{lo:Int}{n k:Nat}{idx:List Nat}{g:CB->TG}{tt:CB->TT}{te:CB->TE}{σ:St}{Q:VK}{H1:Hp}{D:Addr}(Pv:Nat->List V->Hp->Prop)(h0:Pv 0 [] (upd H1 D (.lst [])))
  (hs:∀i ys H,i<n->Pv i ys H->∀(c:CB) (own:St),own.length=k->g c (.int (lo+i)) (own++cE σ idx) H λσ3 H3=>
   (∃fk,fk.length=k/\σ3=fk++cE σ idx)/\tt c σ3 H3 λb H4=>if b=true then te c σ3 H4 λy H5=>H5 D=some (.lst ys)/\ys.length<sizeLine/\Pv (i+1) (ys++[y]) (upd H5 D (.lst (ys++[y]))) else Pv (i+1) ys H4)
  (hd:∀ys H,Pv n ys H->Q (.ref D) H) :
  ∃W:Nat->Nat->List V->Hp->Prop,(∃m,W 0 m [] (upd H1 D (.lst [])))/\
   ∀i m ys H',W i m ys H'->((J8 lo n).stop i H'/\Q (.ref D) H')\/((J8 lo n).go i H'/\∃N:List V->Hp->Prop,(∀uq yq,N uq yq->∃m',m'<m/\W (i+1) m' uq yq)/\∀(c:CB) (own:St),own.length=k->∀x H2,(J8 lo n).M3 i H' x H2->g c x (own++cE σ idx) H2 λσ3 H3=>
    (∃fk,fk.length=k/\σ3=fk++cE σ idx)/\tt c σ3 H3 λb H4=>if b=true then te c σ3 H4 λy H5=>H5 D=some (.lst ys)/\ys.length<sizeLine/\N (ys++[y]) (upd H5 D (.lst (ys++[y]))) else N ys H4):=by
 refine⟨λi m ys H=>m=n-i/\i<=n/\Pv i ys H,⟨n,by simp,dc _,h0⟩,?_⟩
 rintro i m ys H ⟨rfl,hi,p⟩
 by_cases jF:i<n
 ·refine .inr ⟨jF,Pv (i+1),λuq H' p'=>⟨n-(i+1),by omega,rfl,jF,p'⟩,λc own ho x H' y=>?_⟩
  obtain⟨e,y⟩:=y
  subst e y
  exact hs i ys _ jF p c own ho
 ·have e:i=n:=by omega
  subst e
  exact .inl ⟨bB _,hd ys H p⟩
theorem O2{K:PySem.W.Frag}{a:Addr}{zs:List V}{k:Nat}{idx:List Nat}{g:CB->TG}{tt:CB->TT}{te:CB->TE}{σ:St}{Q:VK}{H1:Hp}{D:Addr}(Pv:Nat->List V->Hp->Prop)(h0:Pv 0 [] (upd H1 D (.lst [])))
  (hl:∀i ys H,i<=zs.length->Pv i ys H->qi K H a zs)
  (hs:∀i x ys H,zs[i]?=some x->Pv i ys H->∀(c:CB) (own:St),own.length=k->g c x (own++cE σ idx) H λσ3 H3=>
   (∃fk,fk.length=k/\σ3=fk++cE σ idx)/\tt c σ3 H3 λb H4=>if b=true then te c σ3 H4 λy H5=>H5 D=some (.lst ys)/\ys.length<sizeLine/\Pv (i+1) (ys++[y]) (upd H5 D (.lst (ys++[y]))) else Pv (i+1) ys H4)
  (hd:∀ys H,Pv zs.length ys H->Q (.ref D) H) :
  ∃W:Nat->Nat->List V->Hp->Prop,(∃m,W 0 m [] (upd H1 D (.lst [])))/\
   ∀i m ys H',W i m ys H'->((J9 K a).stop i H'/\Q (.ref D) H')\/((J9 K a).go i H'/\∃N:List V->Hp->Prop,(∀uq yq,N uq yq->∃m',m'<m/\W (i+1) m' uq yq)/\∀(c:CB) (own:St),own.length=k->∀x H2,(J9 K a).M3 i H' x H2->g c x (own++cE σ idx) H2 λσ3 H3=>
    (∃fk,fk.length=k/\σ3=fk++cE σ idx)/\tt c σ3 H3 λb H4=>if b=true then te c σ3 H4 λy H5=>H5 D=some (.lst ys)/\ys.length<sizeLine/\N (ys++[y]) (upd H5 D (.lst (ys++[y]))) else N ys H4):=by
 refine⟨λi m ys H=>m=zs.length-i/\i<=zs.length/\Pv i ys H,⟨zs.length,by simp,dc _,h0⟩,?_⟩
 rintro i m ys H ⟨rfl,hi,p⟩
 have q:=hl i ys H hi p
 by_cases jF:i<zs.length
 ·refine .inr ⟨⟨zs,zs[i],q,by simp[jF]⟩,Pv (i+1),λuq H' p'=>⟨zs.length-(i+1),by omega,rfl,jF,p'⟩,λc own ho x H' y=>?_⟩
  obtain⟨e,y⟩:=y
  subst e
  exact hs i x ys _ (y zs q) p c own ho
 ·have e:i=zs.length:=by omega
  subst e
  exact .inl ⟨⟨zs,q,bB _⟩,hd ys H p⟩
theorem aAz{own:St}{k:St}{x:V}(h:own.length=1):(own++k).set 0 (some x)=[some x]++k:=by
 match own,h with
 | [_],_=>rfl
theorem Gq{lo:Int}{n:Nat}{idx:List Nat}{tt:CB->TT}{te:CB->TE}{σ:St}{Q:VK}{H1:Hp}{D:Addr}(Pv:Nat->List V->Hp->Prop)(h0:Pv 0 [] (upd H1 D (.lst [])))
  (hs:∀i ys H,i<n->Pv i ys H->∀(c:CB),tt c (some (.int (lo+i))::cE σ idx) H λb H4=>if b=true then te c (some (.int (lo+i))::cE σ idx) H4 λy H5=>H5 D=some (.lst ys)/\ys.length<sizeLine/\Pv (i+1) (ys++[y]) (upd H5 D (.lst (ys++[y]))) else Pv (i+1) ys H4)
  (hd:∀ys H,Pv n ys H->Q (.ref D) H) :
  ∃W:Nat->Nat->List V->Hp->Prop,(∃m,W 0 m [] (upd H1 D (.lst [])))/\
   ∀i m ys H',W i m ys H'->((J8 lo n).stop i H'/\Q (.ref D) H')\/((J8 lo n).go i H'/\∃N:List V->Hp->Prop,(∀uq yq,N uq yq->∃m',m'<m/\W (i+1) m' uq yq)/\∀(c:CB) (own:St),own.length=1->∀x H2,(J8 lo n).M3 i H' x H2->dR 0 x (own++cE σ idx) H2 λσ3 H3=>
    (∃fk,fk.length=1/\σ3=fk++cE σ idx)/\tt c σ3 H3 λb H4=>if b=true then te c σ3 H4 λy H5=>H5 D=some (.lst ys)/\ys.length<sizeLine/\N (ys++[y]) (upd H5 D (.lst (ys++[y]))) else N ys H4):=
 JP (g:=λ_=>dR 0) Pv h0 (λi ys H hi p c own ho=>by
  show(∃fk,fk.length=1/\(own++cE σ idx).set 0 _=fk++cE σ idx)/\tt c ((own++cE σ idx).set 0 _) H _
  rw[aAz ho]
  exact⟨⟨[_],rfl,rfl⟩,hs i ys H hi p c⟩) hd
theorem JQ{K:PySem.W.Frag}{a:Addr}{zs:List V}{idx:List Nat}{tt:CB->TT}{te:CB->TE}{σ:St}{Q:VK}{H1:Hp}{D:Addr}(Pv:Nat->List V->Hp->Prop)(h0:Pv 0 [] (upd H1 D (.lst [])))
  (hl:∀i ys H,i<=zs.length->Pv i ys H->qi K H a zs)
  (hs:∀i x ys H,zs[i]?=some x->Pv i ys H->∀(c:CB),tt c (some x::cE σ idx) H λb H4=>if b=true then te c (some x::cE σ idx) H4 λy H5=>H5 D=some (.lst ys)/\ys.length<sizeLine/\Pv (i+1) (ys++[y]) (upd H5 D (.lst (ys++[y]))) else Pv (i+1) ys H4)
  (hd:∀ys H,Pv zs.length ys H->Q (.ref D) H) :
  ∃W:Nat->Nat->List V->Hp->Prop,(∃m,W 0 m [] (upd H1 D (.lst [])))/\
   ∀i m ys H',W i m ys H'->((J9 K a).stop i H'/\Q (.ref D) H')\/((J9 K a).go i H'/\∃N:List V->Hp->Prop,(∀uq yq,N uq yq->∃m',m'<m/\W (i+1) m' uq yq)/\∀(c:CB) (own:St),own.length=1->∀x H2,(J9 K a).M3 i H' x H2->dR 0 x (own++cE σ idx) H2 λσ3 H3=>
    (∃fk,fk.length=1/\σ3=fk++cE σ idx)/\tt c σ3 H3 λb H4=>if b=true then te c σ3 H4 λy H5=>H5 D=some (.lst ys)/\ys.length<sizeLine/\N (ys++[y]) (upd H5 D (.lst (ys++[y]))) else N ys H4):=
 O2 (g:=λ_=>dR 0) Pv h0 hl (λi x ys H hi p c own ho=>by
  show(∃fk,fk.length=1/\(own++cE σ idx).set 0 _=fk++cE σ idx)/\tt c ((own++cE σ idx).set 0 _) H _
  rw[aAz ho]
  exact⟨⟨[_],rfl,rfl⟩,hs i x ys H hi p c⟩) hd
def aGF(z:Str)(lo hi:Option Int):Str:=⟨((z.cps.toList.drop (HT.dB z.length 0 lo)).take (HT.dB z.length z.length hi-HT.dB z.length 0 lo)).toArray⟩
theorem lU{n:Nat}(h:n<=1000):n<=sizeLine:=km (si h (by decide))
section
variable {X:Cx}
def aAa:V->Option Int->Option Int->Hp->VK->Prop:=λx lo hi H Q=>∃z,x=.str z/\z.length<=sizeLine/\Q (.str (aGF z lo hi)) H
def ZK(K:PySem.W.Frag)(te ts:TE):TE:=λσ H Q=>te σ H λx H1=>ts σ H1 λy H2=>∃a xs,x=.ref a/\y=.int (-1)/\qi K H2 a xs/\∀p,H2 p=none->Q (.ref p) (upd H2 p (.lst xs.reverse))
def x6(xs ys:List V):Bool:=xs.length==ys.length&&(List.range xs.length).all λj=>Dz (xs.getD j .non) (ys.getD j .non)
theorem JM{A:Around}{s:Shared}{xs ys:List V}{us ws:List Value}(r:Vals xs us)(q:Vals ys ws)(fx:xs.all gE=true)(fy:ys.all gE=true)(j:Nat)(h1:j<us.toArray.size)(h2:j<ws.toArray.size) :
  SeqAt.EqAt A s us.toArray[j] ws.toArray[j] (Dz (xs.getD j .non) (ys.getD j .non)):=by
 have h1':j<us.length:=by simpa using h1
 have h2':j<ws.length:=by simpa using h2
 have l1:=r.length
 have l2:=q.length
 have ex:xs[j]?=some xs[j]:=bP (by lia)
 have ey:ys[j]?=some ys[j]:=bP (by lia)
 obtain⟨u,eu,ru⟩:=r.get ex
 obtain⟨w,ew,Nv⟩:=q.get ey
 have e1:us.toArray[j]=u:=by
  have:=bP h1'
  rw[eu]at this;simpa using (dU this).symm
 have e2:ws.toArray[j]=w:=by
  have:=bP h2'
  rw[ew]at this;simpa using (dU this).symm
 rw[e1,e2,nF,nF,ex,ey]
 exact CW ru Nv (nr.mp fx _ (se _)) (nr.mp fy _ (se _))
def aEB(K:PySem.W.Frag)(neg:Bool):R2:=λx y H Q=>∃a b xs ys,x=.ref a/\y=.ref b/\qi K H a xs/\qi K H b ys/\xs.all gE=true/\ys.all gE=true/\Q (.bl (if neg then !x6 xs ys else x6 xs ys)) H
theorem aAB(hu:X.A.units<cLine):nj X (compareOp .NotEq) (aEB X.K true):=by
 intro pins s σ H x y v u Q I rx ry h
 obtain⟨a,b,xs,ys,rfl,rfl,ha,hb,fx,fy,q⟩:=h
 cases rx;cases ry
 obtain⟨its,r1,p1,z1⟩:=I.list ha
 obtain⟨CN,r2,p2,z2⟩:=I.list hb
 have l1:=r1.length
 have l2:=r2.length
 by_cases hl:xs.length=ys.length
 ·refine SeqAt.RcNeAt.lists (e:=λj=>Dz (xs.getD j .non) (ys.getD j .non)) p1.isList p2.isList (by simp;lia) hu (λj h1 h2=>JM r1 r2 fx fy j h1 h2) _ _ _ _ ⟨.bl _,H,I,rfl,?_⟩
  have:x6 xs ys=(List.range its.toArray.size).all λj=>Dz (xs.getD j .non) (ys.getD j .non):=by
   unfold x6;rw[hl,ip,Bool.true_and,cO,<-l1,hl]
  rw[<-this];exact q
 ·refine SeqAt.RcNeAt.lists_lengths p1.isList p2.isList (by simp;lia) hu _ _ _ _ ⟨.bl _,H,I,rfl,?_⟩
  have:x6 xs ys=false:=by unfold x6;rw[uY.mpr hl,v9]
  have q':Q (.bl (!x6 xs ys)) H:=q
  rw[this]at q';exact q'
def Ca:V->List V->Hp->VK->Prop:=λx vs H Q=>∃a aM,x=.ref a/\vs=[]/\H a=some (.dK aM)/\Q .non (upd H a (.dK []))
end
section
variable {X:Cx}{elt target iter:Expr}{ifs:List Expr}{scope:Scope}{pos spos py:Pos}{xs:List Str}{idx:List Nat}{wi:TI}{g:CB->TG}{tt:CB->TT}{te:CB->TE}
theorem Wk{i:Nat}{y:Str}(hN:X.N.Nodup)(hi0:X.N[i]?=some y)(hy:X.env.scope.names.lookup y=some .local)(hc:X.calm=true)(S:yz X scope xs idx)(hi:PI X target iter wi)
  (hg:∀c,PG (mB X scope (xs++cC X.N idx) c) target (g c)) (ht:∀c,Dp (mB X scope (xs++cC X.N idx) c) ifs (tt c)) (he:∀c,PE (mB X scope (xs++cC X.N idx) c) elt (te c))
  (hsw:swapsWith (.ListComp elt [⟨target,iter,ifs,0⟩] scope pos) (some (.Name y py)) spos.line X.env=pure true:=by rfl)
  (hs:∀x,foldedSetIterable iter X.env x=pure x:=by intro _;rfl):PS X (.Assign [.Name y py] (.ListComp elt [⟨target,iter,ifs,0⟩] scope pos) spos) (wZ (wY wi xs.length idx g tt te) (dR i)):=by
 intro pins s σ H D I h
 have Tq:closureFor scope X.env=pure (fw X.env scope.names []):=lG λy hy e=>I.ok.has y.1 (S.free y hy e).2
 rw[exec_Assign_Name_used _ _ _ _ hsw]
 refine ay (t6 (ay ?_))
 show wpAny _ X.A (do let _ <-comprehension (.ListComp elt [⟨target,iter,ifs,0⟩] scope pos) scope X.env _ (newList []) false (eval iter X.env) (some (assign (.Name y py) X.env))) _ _ s
 refine ay (dk (wpAny_comprehension_free (use:=some (assign (.Name y py) X.env)) (Q:=λ_ s'=>SP X pins D .next s') rfl hs Tq S.kind S.loc
  (cM (hi pins s σ H _ I h) λxv s₁ h₁=>cM h₁ λitv s₂ h₂=>?_)) (λ_ s' hq=>aJ (aJ hq)) λ_ _ e=>e)
 obtain⟨it,fp,tn,J,H2,e,I2,T,Pj,f2,hW⟩:=h₂
 subst e
 refine Gp (Q:=λv H'=>dR i v σ H' D.nx) (RR:=λacc C=>compPost (model X.prog X.w) X.A X.xe (some (assign (.Name y py) X.env)) (λ_ s'=>SP X pins D .next s') acc C) hc S hg ht he I2 T Pj f2 hW ?_
 intro DD C σ' H' s' hC I' q
 show wpAny _ X.A (assign (.Name y py) X.env (.ref DD)) _ _ _
 obtain⟨hh,gg,d,t,os⟩:=s'
 obtain rfl:os=s₂.os:=I'.os
 have Cn:s₂.heap.get? C=none:=uh hC
 have I3:Inv X pins σ H' { s₂ with heap:=hh,gens:=gg,drawn:=d,toks:=t }:=I2.call (s:=s₂) (h':=hh) (g':=gg) (d':=d) (t':=t) (ch:=fp) (I'.base.but Cn (Heap.SameBut.refl _ _)) I'.bx I'.bare (λb hb=>by
  obtain⟨_,f1,_,f3,f4,f5⟩:=f2 b hb
  exact⟨f3,f1,f4,f5⟩)
 obtain⟨m',hn,_⟩:=I'.loc
 have hLC:X.env.locals≠C:=bI (cV I2.lt hC)
 refine wpAny_assign_Name (zr I3 hN hi0 (.inl hy) (v:=.ref DD) rfl (λs'' I4 ⟨a,hs4,ha⟩=>?_) (.inr hy))
 have haC:C≠a:=by
  rcases ha with e | e
  ·rw[e];exact fO hLC
  ·obtain⟨v,q⟩:=I2.cell y a e
   exact jK (cV q.lt hC)
 refine⟨m',hn.sameBut hs4 haC,λh3 hs3=>?_⟩
 obtain⟨hh4,gg4,d4,t4,os4⟩:=s''
 have I5:Inv X pins (σ.set i (some (.ref DD))) H' { heap:=h3,gens:=gg4,drawn:=d4,toks:=t4,os:=os4 }:=
  I4.turned (s:={ heap:=hh4,gens:=gg4,drawn:=d4,toks:=t4,os:=os4 }) (h':=h3) (t':=t4) (it:=C) (λb o hb e=>(hs3.2 b hb).trans e) I'.free (fO hLC) (.inr (fJ I2.sz hC)) (λx c e z=>by
   obtain⟨v,q⟩:=I2.cell x c e
   exact absurd (cV q.lt hC) (by rw[z];exact iJ _)) (λp hp z=>by
   have:=(I2.pin p hp).1
   rw[z,Cn]at this;cases this)
 exact⟨_,H',I5,q⟩
end
def O1(kZ:Scope)(N:List Str)(scope:Scope)(idx:List Nat):Bool:=
 scope.kind == .function&&scope.names.all (λy=>y.2 != .cell)&&scope.names.all (λy=>y.2 != .local||scope.names.lookup y.1==some .local) &&
 scope.names.all (λy=>y.2 != .free||(scope.names.lookup y.1==some .free&&(kZ.names.lookup y.1==some .cell||kZ.names.lookup y.1==some .free))) &&
 idx.all (λi=>match N[i]? with | some y=>scope.names.lookup y==some .free | none=>false)
theorem z4{X:Cx}{scope:Scope}{xs:List Str}{idx:List Nat}{kZ:Scope}{N:List Str}(h:O1 kZ N scope idx=true)(e1:X.env.scope=kZ:=by rfl)(e2:X.N=N:=by rfl):yz X scope xs idx:=by
 unfold O1 at h
 simp only[eB]at h
 refine hide λgG hG=>?_
 obtain⟨⟨⟨⟨h1,h2⟩,h3⟩,h4⟩,h5⟩:=h
 refine hG ?_
 refine⟨by simpa using h1,λy hy e=>?_,λy hy e=>?_,λy hy e=>?_,λi hi=>?_⟩
 ·have:=nr.mp h2 y hy
  rw[e]at this;exact absurd this (by decide)
 ·have:=nr.mp h3 y hy
  rw[e]at this;simpa using this
 ·have:=nr.mp h4 y hy
  rw[e]at this
  have t:(scope.names.lookup y.1==some NameKind.free&&(kZ.names.lookup y.1==some .cell||kZ.names.lookup y.1==some .free))=true:=by simpa using this
  rw[eB,rZ]at t
  refine⟨by simpa using t.1,?_⟩
  show X.env.scope.names.lookup y.1=_\/X.env.scope.names.lookup y.1=_
  rw[e1]
  exact t.2.imp (by simp) (by simp)
 ·have:=nr.mp h5 i hi
  rw[e2]
  cases e:N[i]? with
  | none=>rw[e]at this;cases this
  | some y=>rw[e]at this;exact⟨y,rfl,by simpa using this⟩
theorem GD{α:Type}(a:α)(xs:List α):yg (a::xs) 0=some a:=iY (j:=0) rfl
theorem Mp{α:Type}(a b:α)(xs:List α):yg (a::b::xs) 1=some b:=iY (j:=1) rfl
theorem Ml{α:Type}(a b c:α)(xs:List α):yg (a::b::c::xs) 2=some c:=iY (j:=2) rfl
theorem Mj{α:Type}(a b c d:α)(xs:List α):yg (a::b::c::d::xs) 3=some d:=iY (j:=3) rfl
theorem Uy{α:Type}(a b c d e:α)(xs:List α):yg (a::b::c::d::e::xs) 4=some e:=iY (j:=4) rfl
theorem Ux{α:Type}(a b c d e f:α)(xs:List α):yg (a::b::c::d::e::f::xs) 5=some f:=iY (j:=5) rfl
theorem Jq:Ob 6 1=some 1:=rfl
theorem Jp:Ob 6 2=some 2:=rfl
theorem Jo:Ob 6 3=some 3:=rfl
theorem Jm:Ob 6 4=some 4:=rfl
theorem Jl:Ob 6 5=some 5:=rfl
theorem L8(i:Int):mL i 48271/\mL i 40693/\mL i 3/\mL i 4294967296:=⟨.inr ⟨by decide,by decide⟩,.inr ⟨by decide,by decide⟩,.inr ⟨by decide,by decide⟩,.inr ⟨by decide,by decide⟩⟩
theorem Um(i:Int):mL i 48271:=(L8 i).1
theorem Ul(i:Int):mL i 40693:=(L8 i).2.1
theorem Uk(i:Int):mL i 3:=(L8 i).2.2.1
theorem Uj(i:Int):mL i 4294967296:=(L8 i).2.2.2
theorem Ma(i:Int):mL 5 i/\mL 3 i/\mL 7 i/\mL 10 i:=⟨.inl ⟨by decide,by decide⟩,.inl ⟨by decide,by decide⟩,.inl ⟨by decide,by decide⟩,.inl ⟨by decide,by decide⟩⟩
theorem JW(i:Int):mL 5 i:=(Ma i).1
theorem JV(i:Int):mL 3 i:=(Ma i).2.1
theorem JT(i:Int):mL 7 i:=(Ma i).2.2.1
theorem JS(i:Int):mL 10 i:=(Ma i).2.2.2
theorem JN:aD0 10 18:=⟨by decide,by decide,by decide⟩
def Ng(t u:TS):TS:=λD σ H=>∃N:St->Hp->Prop,t { D with nx:=N } σ H/\∀σ' H',N σ' H'->u D σ' H'
theorem Wg{X:Cx}{st:Stmt}{rest:List Stmt}{t u:TS}(h1:PS X st t)(h2:yC X rest u):yC X (st::rest) (Ng t u):=by
 intro pins s σ H D I ⟨N,hn,hu⟩
 refine wpAny_execs_cons (cM (h1 pins s σ H { D with nx:=N } I hn) λf s1 q=>?_)
 cases f with
 | next=>
  refine hide λgG hG=>?_
  obtain⟨σ',H',I',q⟩:=q
  refine hG ?_
  exact h2 pins s1 σ' H' D I' (hu σ' H' q)
 | ret v=>exact q
 | brk=>exact q
 | cont=>exact q
theorem Uw{ns:List Int}{k:Int}(h0:0<=k)(h:k<(ns.length:Int)):∃v:Int,yg (ns.map V.int) k=some (.int v):=by
 have hk:k.toNat<ns.length:=by lia
 have ek:k=((k.toNat:Nat):Int):=by lia
 have q:yg (ns.map V.int) ((k.toNat:Nat):Int)=some (.int ns[k.toNat]):=iY (by rw[cU,bP hk] <;> rfl)
 rw[<-ek]at q
 exact⟨_,q⟩
section
variable {X:Cx}
theorem nj.imp{f:Value->Value->Sem Value}{r r':R2}(h:nj X f r)(i:∀x y H Q,r' x y H Q->r x y H Q):nj X f r':=λpins s σ H x y v u Q I rx ry q=>h pins s σ H x y v u Q I rx ry (i _ _ _ _ q)
theorem Yg.imp{r r':R2}(h:Yg X r)(i:∀x y H Q,r' x y H Q->r x y H Q):Yg X r':=λvalue slice pins s σ H x y v u Q I rx ry q hs=>h value slice pins s σ H x y v u Q I rx ry (i _ _ _ _ q) hs
theorem fX.imp{f:Value}{r r':List V->Hp->VK->Prop}(h:fX X f r)(i:∀x H Q,r' x H Q->r x H Q):fX X f r':=λpins s σ H vs us Q I rv q=>h pins s σ H vs us Q I rv (i _ _ _ q)
theorem Vh.imp{r r':V->Option Int->Option Int->Hp->VK->Prop}(h:Vh X r)(i:∀x lo hi H Q,r' x lo hi H Q->r x lo hi H Q):Vh X r':=λpins s σ H x v vl vu lo hi sl Q I rx hs pl pu q=>h pins s σ H x v vl vu lo hi sl Q I rx hs pl pu (i _ _ _ _ _ q)
theorem bw{K:PySem.W.Frag}{H:Hp}{a:Addr}{xs:List V}(h:H a=some (.lst xs)):qi K H a xs:=qi.of h
theorem bH{K:PySem.W.Frag}{H:Hp}{a:Addr}{xs:List V}(h:H a=some (.tup xs)):y3 K H a xs:=y3.of h
def Rp:R2:=λx y H Q=>∃p i,x=.ref p/\y=.int i/\∃xs,H p=some (.lst xs)/\∃v,yg xs i=some v/\Q v H
theorem fW:Yg X Rp:=W9.imp λx y H Q ⟨p,i,e1,e2,xs,h,v,e3,q⟩=>⟨p,xs,i,v,e1,e2,bw h,e3,q⟩
def V':R2:=λx y H Q=>∃p i,x=.ref p/\y=.int i/\∃xs,H p=some (.tup xs)/\∃v,yg xs i=some v/\Q v H
theorem xH:Yg X V':=aAX.imp λx y H Q ⟨p,i,e1,e2,xs,h,v,e3,q⟩=>⟨p,xs,i,v,e1,e2,bH h,e3,q⟩
def aAb:R2:=λx y H Q=>∃z i,x=.str z/\y=.int i/\z.length<=sizeLine/\∃c,yg z.cps.toList i=some c/\Q (.str ⟨#[c]⟩) H
def V8:V->Option Int->Option Int->Hp->VK->Prop:=λx lo hi H Q=>∃a,x=.ref a/\∃xs,H a=some (.lst xs)/\∀p,H p=none->Q (.ref p) (upd H p (.lst (jG xs lo hi)))
theorem aEd:Vh X V8:=Kw.imp λx lo hi H Q ⟨a,e,xs,h,q⟩=>⟨a,xs,e,bw h,q⟩
def V7:V->Option Int->Option Int->Hp->VK->Prop:=λx lo hi H Q=>∃a,x=.ref a/\∃xs,H a=some (.tup xs)/\¬(HT.dB xs.length 0 lo=0/\HT.dB xs.length xs.length hi=xs.length)/\∀p,H p=none->Q (.ref p) (upd H p (.tup (jG xs lo hi)))
theorem aEc:Vh X V7:=Z2.imp λx lo hi H Q ⟨a,e,xs,h,n,q⟩=>⟨a,xs,e,bH h,n,q⟩
def KJ:List V->Hp->VK->Prop:=λvs H Q=>∃p,vs=[.ref p]/\∃xs,H p=some (.lst xs)/\Q (.int xs.length) H
theorem pD:fX X (.builtin "len") KJ:=tR.imp λx H Q ⟨p,e,xs,h,q⟩=>⟨p,xs,e,.inl (bw h),q⟩
def KH:List V->Hp->VK->Prop:=λvs H Q=>∃p,vs=[.ref p]/\∃xs,H p=some (.tup xs)/\Q (.int xs.length) H
theorem pC:fX X (.builtin "len") KH:=tR.imp λx H Q ⟨p,e,xs,h,q⟩=>⟨p,xs,e,.inr (bH h),q⟩
def Ci:List V->Hp->VK->Prop:=λvs H Q=>∃p,vs=[.ref p]/\∃xs,H p=some (.lst xs)/\∀l,H l=none->Q (.ref l) (upd H l (.lst xs))
theorem mC:fX X (.type "list") Ci:=Df.imp λx H Q ⟨p,e,xs,h,q⟩=>⟨p,xs,e,.inl (bw h),q⟩
def Ib:List V->Hp->VK->Prop:=λvs H Q=>∃p,vs=[.ref p]/\∃xs,H p=some (.tup xs)/\∀l,H l=none->Q (.ref l) (upd H l (.lst xs))
def vR:List V->Hp->VK->Prop:=λvs H Q=>∃p,vs=[.ref p]/\∃xs,H p=some (.lst xs)/\∀l,H l=none->Q (.ref l) (upd H l (.tup xs))
theorem gy:fX X (.type "tuple") vR:=yZ.imp λx H Q ⟨p,e,xs,h,q⟩=>⟨p,xs,e,.inl ⟨bw h,q⟩⟩
def Ic:List V->Hp->VK->Prop:=λvs H Q=>∃a,vs=[.ref a]/\∃aM,H a=some (.dK aM)/\∀p,H p=none->Q (.ref p) (upd H p (.lst (aM.map λkv=>kV kv.1)))
def Ie:List V->Hp->VK->Prop:=λvs H Q=>∃a,vs=[.ref a]/\∃aM,H a=some (.dK aM)/\∀p,H p=none->Q (.ref p) (upd H p (.dK aM))
def Ce:List V->Hp->VK->Prop:=λvs H Q=>∃a,vs=[.ref a]/\∃ss:List Str,H a=some (.lst (ss.map V.str))/\ss.length<64/\
 ∀ss':List Str,ss'.Perm ss->sortedS ss'=true->∀p,H p=none->Q (.ref p) (upd H p (.lst (ss'.map V.str)))
def Ro:V->List V->Hp->VK->Prop:=λx vs H Q=>∃sep a,x=.str sep/\vs=[.ref a]/\∃ss:List Str,H a=some (.lst (ss.map V.str))/\JoinOk sep ss=true/\Q (.str (Txt.join sep ss)) H
def aAf(neg:Bool):R2:=λx y H Q=>∃p,y=.ref p/\∃xs,H p=some (.lst xs)/\gE x=true/\xs.all gE=true/\Q (.bl (if neg then !YM x xs else YM x xs)) H
def Ru(neg:Bool):R2:=λx y H Q=>∃p,y=.ref p/\∃xs,H p=some (.tup xs)/\gE x=true/\xs.all gE=true/\Q (.bl (if neg then !YM x xs else YM x xs)) H
theorem R6:nj X (compareOp .In) (Ru false):=NP.imp λx y H Q ⟨p,e,xs,h,f1,f2,q⟩=>⟨p,xs,e,.inr (bH h),f1,f2,q⟩
theorem zG:nj X (compareOp .NotIn) (Ru true):=Cm.imp λx y H Q ⟨p,e,xs,h,f1,f2,q⟩=>⟨p,xs,e,.inr (bH h),f1,f2,q⟩
def Wa(neg:Bool):R2:=λx y H Q=>∃a b,x=.ref a/\y=.ref b/\∃xs,H a=some (.lst xs)/\∃ys,H b=some (.lst ys)/\xs.all gE=true/\ys.all gE=true/\Q (.bl (if neg then !x6 xs ys else x6 xs ys)) H
theorem WL(hu:X.A.units<cLine):nj X (compareOp .NotEq) (Wa true):=(aAB hu).imp λx y H Q ⟨a,b,e1,e2,xs,h1,ys,h2,f1,f2,q⟩=>⟨a,b,xs,ys,e1,e2,bw h1,bw h2,f1,f2,q⟩
def aAc(K:PySem.W.Frag):List V->Hp->VK->Prop:=λvs H Q=>∃x n,vs=[x,.ty n]/\∃t,vL K H x t/\∃b,PySem.W.kitOne K t (.type n)=some b/\Q (.bl b) H
def V9:V->V->V->Hp->(Hp->Prop)->Prop:=λo i v H Q=>∃p k,o=.ref p/\i=.int k/\∃xs,H p=some (.lst xs)/\∃j,Ob xs.length k=some j/\Q (upd H p (.lst (xs.set j v)))
theorem qa:Pb X V9:=λpins s σ H o i v ov iv u Q I ro ri rv ⟨p,k,e1,e2,xs,h,j,hj,q⟩=>set_list pins s σ H o i v ov iv u Q I ro ri rv ⟨p,xs,k,j,e1,e2,h,hj,q⟩
theorem Zh:aBJ X (λo i H Q=>Rp o i H Q):=by
 intro pins s σ H o i ov iv Q I ro ri h
 refine hide λgG hG=>?_
 obtain⟨p,i,rfl,rfl,xs,hp,z,he,q⟩:=h
 refine hG ?_
 cases ro
 refine hide λgG hG=>?_
 obtain⟨t,rfl⟩:=ri
 obtain⟨its,r,pl,hz⟩:=I.list (bw hp)
 obtain⟨j,h1,h2,h3,h4,h5⟩:=Dl he
 obtain⟨w,ew,Nv⟩:=r.get h2
 refine hG ?_
 have hl:=r.length
 have hn:=xu
 have fin:EP X pins σ Q w s:=⟨z,H,I,Nv,q⟩
 by_cases h0:0<=i
 ·have hj:i.toNat=j:=by
   rw[seqIndex_of h0 h5]at h1
   exact dU h1
  exact wpAny_getItem_list pl.isList h0 (by lia) (by rw[hj];simpa using ew) fin
 ·have hj:(i+(its.toArray.size:Int)).toNat=j:=by
   rw[seqIndex_neg (by lia) h4]at h1
   rw[cO,<-hl]
   exact dU h1
  exact wpAny_getItem_list_neg pl.isList (by lia) (by rw[cO] <;> lia) (by lia) (by rw[hj];simpa using ew) fin
end
end L2
namespace L2
open PySem PySem.Spec PyProof.Rows
theorem Sh{α:Type}{C:List α->Prop}(h:∀a,C [a]):∀us:List α,us.length=1->C us
 | [a],_=>h a
theorem of2{α:Type}{C:List α->Prop}(h:∀a b,C [a,b]):∀us:List α,us.length=2->C us
 | [a,b],_=>h a b
theorem of3{α:Type}{C:List α->Prop}(h:∀a b c,C [a,b,c]):∀us:List α,us.length=3->C us
 | [a,b,c],_=>h a b c
structure HC(X:Cx)(N:List Str)(sc:Scope):Prop where
 n:X.N=N
 s:X.env.scope=sc
def okV(N:List Str)(sc:Scope)(i:Nat)(x:Str):Bool:=
 N[i]? == some x&&(sc.names.lookup x==some .local||sc.names.lookup x==some .cell||sc.names.lookup x==some .free) && !(x==("__debug__" : Str)) && !(x==("__classdict__" : Str))
def U4(N:List Str)(sc:Scope)(i:Nat)(x:Str):Bool:=N[i]? == some x&&(sc.names.lookup x==some .local||sc.names.lookup x==some .cell)
def NX(N:List Str)(sc:Scope)(i:Nat)(x:Str):Bool:=N[i]? == some x&&sc.names.lookup x==some .local
def okG(sc:Scope)(x:Str):Bool:=sc.names.lookup x==some .globalImplicit
section
variable {X:Cx}{N:List Str}{sc:Scope}{x:Str}{pos:Pos}
theorem pvk(hc:HC X N sc)(i:Nat)(h:okV N sc i x=true):PE X (.Name x pos) (DY i):=by
 unfold okV at h
 simp only[eB,rZ,beq_iff_eq,Bool.not_eq_true']at h
 obtain⟨⟨⟨h1,h2⟩,h3⟩,h4⟩:=h
 refine RM (by rw[hc.n];exact h1) ?_ h3 h4
 unfold Vis
 rw[hc.s]
 rcases h2 with (h2 | h2) | h2
 ·exact .inl h2
 ·exact .inr (.inl h2)
 ·exact .inr (.inr h2)
theorem di(hc:HC X N sc)(h:okG sc x=true:=by decide +kernel):Gl X x:=by
 show X.env.scope.names.lookup x=some .globalImplicit
 rw[hc.s];simpa [okG]using h
theorem lY(hc:HC X N sc){i:Nat}(h:U4 N sc i x=true):X.N[i]?=some x/\Loc X.env.scope x:=by
 unfold U4 at h
 simp only[eB,rZ,beq_iff_eq]at h
 refine⟨by rw[hc.n];exact h.1,?_⟩
 unfold Loc;rw[hc.s];exact h.2
theorem nY(hc:HC X N sc){i:Nat}(h:NX N sc i x=true):X.N[i]?=some x/\X.env.scope.names.lookup x=some .local:=by
 unfold NX at h
 simp only[eB,beq_iff_eq]at h
 exact⟨by rw[hc.n];exact h.1,by rw[hc.s];exact h.2⟩
theorem pgk(hc:HC X N sc)(nd:N.Nodup)(hf:∀x,X.fn x=true)(i:Nat)(h:U4 N sc i x=true):PG X (.Name x pos) (dR i):=
 K7 (by rw[hc.n];exact nd) (lY hc h).1 (lY hc h).2 (.inl (hf x))
theorem pgb(hc:HC X N sc)(nd:N.Nodup)(i:Nat)(h:NX N sc i x=true):PG X (.Name x pos) (dR i):=
 K7 (by rw[hc.n];exact nd) (nY hc h).1 (.inl (nY hc h).2) (.inr (nY hc h).2)
theorem KY{e:Expr}{te:TE}{pos':Pos}(hc:HC X N sc)(nd:N.Nodup)(hf:∀x,X.fn x=true)(i:Nat)(h:U4 N sc i x=true)(he:PE X e te)(hs:swapsWith e (some (.Name x pos')) pos.line X.env=pure false:=by rfl) :
  PS X (.Assign [.Name x pos'] e pos) (wZ te (dR i)):=
 aAk (by rw[hc.n];exact nd) (lY hc h).1 (lY hc h).2 he hs (.inl (hf x))
theorem Wi{e:Expr}{te:TE}{op:Operator}{ti:Yd}{pos':Pos}(hc:HC X N sc)(nd:N.Nodup)(hf:∀x,X.fn x=true)(i:Nat)(h:U4 N sc i x=true)(he:PE X e te)(ho:PIp X op ti):PS X (.AugAssign (.Name x pos') op e pos) (Vu i te ti):=
 aAp (by rw[hc.n];exact nd) (lY hc h).1 (lY hc h).2 he ho (.inl (hf x))
end
def dv(scope kZ:Scope):Scope:=
 { scope with names:=scope.names.map λ(n,k)=>if (k == .free&&kZ.kind == .function&&kZ.names.lookup n==some .cell) then (n,.cell) else (n,k) }
theorem Ej{scope kZ:Scope}{env:Env}(h:env.scope=kZ):relabel scope env=dv scope kZ:=by
 subst h;rfl
theorem lB{X:Cx}{N:List Str}{kZ scope:Scope}{xs:List Str}{idx:List Nat}(hc:HC X N kZ)(c:CB):HC (mB X scope (xs++cC X.N idx) c) (xs++cC N idx) (dv scope kZ):=
 ⟨by show xs++cC X.N idx=_;rw[hc.n],Ej hc.s⟩
section
variable {X:Cx}{N:List Str}{kZ:Scope}{elt target iter:Expr}{ifs:List Expr}{scope:Scope}{pos spos py:Pos}{xs:List Str}{idx:List Nat}{wi:TI}{g:CB->TG}{tt:CB->TT}{te:CB->TE}
theorem Er(hc:HC X N kZ)(xs:List Str)(idx:List Nat)(Tr:X.calm=true)(S:O1 kZ N scope idx=true)(hi:PI X target iter wi)
  (hg:∀c,HC (mB X scope (xs++cC X.N idx) c) (xs++cC N idx) (dv scope kZ)->PG (mB X scope (xs++cC X.N idx) c) target (g c))
  (ht:∀c,HC (mB X scope (xs++cC X.N idx) c) (xs++cC N idx) (dv scope kZ)->Dp (mB X scope (xs++cC X.N idx) c) ifs (tt c))
  (he:∀c,HC (mB X scope (xs++cC X.N idx) c) (xs++cC N idx) (dv scope kZ)->PE (mB X scope (xs++cC X.N idx) c) elt (te c))
  (hs:∀x,foldedSetIterable iter X.env x=pure x:=by intro _;rfl):PE X (.ListComp elt [⟨target,iter,ifs,0⟩] scope pos) (wY wi xs.length idx g tt te):=
 Ww Tr (z4 S hc.s hc.n) hi (λc=>hg c (lB hc c)) (λc=>ht c (lB hc c)) (λc=>he c (lB hc c)) hs
theorem Eo{y:Str}(hc:HC X N kZ)(nd:N.Nodup)(i:Nat)(h:NX N kZ i y=true)(xs:List Str)(idx:List Nat)(Tr:X.calm=true)(S:O1 kZ N scope idx=true)(hi:PI X target iter wi)
  (hg:∀c,HC (mB X scope (xs++cC X.N idx) c) (xs++cC N idx) (dv scope kZ)->PG (mB X scope (xs++cC X.N idx) c) target (g c))
  (ht:∀c,HC (mB X scope (xs++cC X.N idx) c) (xs++cC N idx) (dv scope kZ)->Dp (mB X scope (xs++cC X.N idx) c) ifs (tt c))
  (he:∀c,HC (mB X scope (xs++cC X.N idx) c) (xs++cC N idx) (dv scope kZ)->PE (mB X scope (xs++cC X.N idx) c) elt (te c))
  (hsw:swapsWith (.ListComp elt [⟨target,iter,ifs,0⟩] scope pos) (some (.Name y py)) spos.line X.env=pure true)
  (hs:∀x,foldedSetIterable iter X.env x=pure x:=by intro _;rfl):PS X (.Assign [.Name y py] (.ListComp elt [⟨target,iter,ifs,0⟩] scope pos) spos) (wZ (wY wi xs.length idx g tt te) (dR i)):=
 Wk (by rw[hc.n];exact nd) (nY hc h).1 (nY hc h).2 Tr (z4 S hc.s hc.n) hi (λc=>hg c (lB hc c)) (λc=>ht c (lB hc c)) (λc=>he c (lB hc c)) hsw hs
end
end L2
namespace L2
open PySem PySem.Spec PyProof.Rows
@[irreducible] def y4 (X:Cx) (st:List Stmt) (t:TS):Prop:=yC X st t
theorem y4.to{X:Cx}{st:List Stmt}{t:TS}(h:y4 X st t):yC X st t:=by unfold y4 at h;exact h
theorem y4.of{X:Cx}{st:List Stmt}{t:TS}(h:yC X st t):y4 X st t:=by unfold y4;exact h
section
variable {X:Cx}{st:Stmt}{rest:List Stmt}{t u:TS}{pos:Pos}
theorem V5:y4 X [] zk:=.of Wf
theorem V4(h1:PS X st t):y4 X [st] t:=.of (Wd h1)
theorem Rf(h1:PS X st t)(h2:y4 X rest u):y4 X (st::rest) (tSeq t u):=.of (Rz h1 h2.to)
theorem V6(h1:PS X st t)(h2:y4 X rest u):y4 X (st::rest) (Ng t u):=.of (Wg h1 h2.to)
theorem aCd{c:Expr}{a b:List Stmt}{tc:TT}(hc:PT X c tc)(ha:y4 X a t)(hb:y4 X b u):PS X (.If c a b pos) (Nf tc t u):=aCg hc ha.to hb.to
theorem Rg{c:Expr}{body:List Stmt}{tc:TT}{tb:TS}(hp:PassesOwn (model X.prog X.w) X.A X.env X.xe)(hc:PT X c tc)(hb:y4 X body tb):PS X (.While c body [] pos) (HF tc tb):=RB hp hc hb.to
theorem Rh{tg iter:Expr}{body:List Stmt}{wi:TI}{g:TG}{tb:TS}(hp:PassesOwn (model X.prog X.w) X.A X.env X.xe)(hc:X.calm=true)(hi:PI X tg iter wi)(hg:PG X tg g)(hb:y4 X body tb)
  (hs:∀x,foldedSetIterable iter X.env x=pure x:=by intro _;rfl):PS X (.For tg iter body [] pos) (Vs wi g tb):=aAm hp hc hi hg hb.to hs
end
theorem jE.okK{P:Program}{w:World}{K:PySem.W.Frag}{mg:Str->Option Value}{base:Heap}{x qual:Str}{st:Stmt}{f:Addr}{fd:FuncData}{N ps:List Str}{k:Nat}{sp:Sp}(F:jE K x qual st f fd)(S:aU N ps (ag st))(len:∀vs H Q E,sp vs H Q E->vs.length=ps.length)
  (eI:∀(cD:Value) (A:Around) (outer:List Env) (s:Shared) (H:Hp) (vs:List V) (Q:VK) (E:XK),cv k (A.deeper (envOfC qual (ag st) s.heap.objs.size f cD))->sp vs H Q E->
   HC (dF eV P w K mg base N qual (ag st) f cD A outer s H E).uw N (ag st)->(∀x,(dF eV P w K mg base N qual (ag st) f cD A outer s H E).uw.fn x=true)->
   ∃t,y4 (dF eV P w K mg base N qual (ag st) f cD A outer s H E).uw (aK st) t/\t { nx:=λ_ H'=>Q .non H',rt:=Q } (start N vs) H):cq P w K mg base eV (k+1) f fd ps sp:=
 F.ok S len λcD A outer s H vs Q E hr h=>let ⟨t,h1,h2⟩:=eI cD A outer s H vs Q E hr h ⟨rfl,rfl⟩ λ_=>rfl;⟨t,h1.to,h2⟩
end L2
namespace L2
open PySem PySem.Spec PyProof.Rows
def yt(J:It)(g:TG)(tb:TS)(D:Ends)(σ:St)(H:Hp):Prop:=∃W:Nat->Nat->St->Hp->Prop,(∃m,W 0 m σ H)/\∀i m σ H,W i m σ H->
 (J.stop i H/\D.nx σ H)\/(J.go i H/\∃N:St->Hp->Prop,(∀σ' H',N σ' H'->∃m',m'<m/\W (i+1) m' σ' H')/\∀x H',J.M3 i H x H'->g x σ H' λσ2 H2=>tb { D with nx:=N,ct:=N,bk:=D.nx } σ2 H2)
theorem Br{wi:TI}{g:TG}{tb:TS}{D:Ends}{σ:St}{H:Hp}:Vs wi g tb D σ H=wi σ H (λJ H1=>yt J g tb D σ H1):=rfl
def kg(J:It)(k:Nat)(idx:List Nat)(g:CB->TG)(tt:CB->TT)(te:CB->TE)(σ:St)(Q:VK)(H1:Hp):Prop:=∀D,H1 D=none->∃W:Nat->Nat->List V->Hp->Prop,(∃m,W 0 m [] (upd H1 D (.lst [])))/\
 ∀i m ys H',W i m ys H'->(J.stop i H'/\Q (.ref D) H')\/(J.go i H'/\∃N:List V->Hp->Prop,(∀uq yq,N uq yq->∃m',m'<m/\W (i+1) m' uq yq)/\∀(c:CB) (own:St),own.length=k->∀x H2,J.M3 i H' x H2->g c x (own++cE σ idx) H2 λσ3 H3=>
  (∃fk,fk.length=k/\σ3=fk++cE σ idx)/\tt c σ3 H3 λb H4=>if b=true then te c σ3 H4 λy H5=>H5 D=some (.lst ys)/\ys.length<sizeLine/\N (ys++[y]) (upd H5 D (.lst (ys++[y]))) else N ys H4)
theorem wX{wi:TI}{k:Nat}{idx:List Nat}{g:CB->TG}{tt:CB->TT}{te:CB->TE}{σ:St}{H:Hp}{Q:VK}:wY wi k idx g tt te σ H Q=wi σ H (λJ H1=>kg J k idx g tt te σ Q H1):=rfl
theorem xX{lo:Int}{n:Nat}{g:TG}{tb:TS}{D:Ends}{σ:St}{H:Hp}(Pv:Nat->St->Hp->Prop)(h0:Pv 0 σ H)
  (hs:∀i σ H,i<n->Pv i σ H->g (.int (lo+i)) σ H λσ2 H2=>tb { D with nx:=Pv (i+1),ct:=Pv (i+1),bk:=D.nx } σ2 H2) (hd:∀σ H,Pv n σ H->D.nx σ H):yt (J8 lo n) g tb D σ H:=Ow Pv h0 hs hd
theorem iz{K:PySem.W.Frag}{a:Addr}{xs:List V}{g:TG}{tb:TS}{D:Ends}{σ:St}{H:Hp}(Pv:Nat->St->Hp->Prop)(h0:Pv 0 σ H)(hl:∀i σ H,i<=xs.length->Pv i σ H->H a=some (.lst xs))
  (hs:∀i x σ H,xs[i]?=some x->Pv i σ H->g x σ H λσ2 H2=>tb { D with nx:=Pv (i+1),ct:=Pv (i+1),bk:=D.nx } σ2 H2) (hd:∀σ H,Pv xs.length σ H->D.nx σ H):yt (J9 K a) g tb D σ H:=
 T3 Pv h0 (λi σ H hi p=>bw (hl i σ H hi p)) hs hd
theorem ft{K:PySem.W.Frag}{a:Addr}{xs:List V}{g:TG}{tb:TS}{D:Ends}{σ:St}{H:Hp}(Pv:Nat->St->Hp->Prop)(h0:Pv 0 σ H)(hl:∀i σ H,i<=xs.length->Pv i σ H->H a=some (.tup xs))
  (hs:∀i x σ H,xs[i]?=some x->Pv i σ H->g x σ H λσ2 H2=>tb { D with nx:=Pv (i+1),ct:=Pv (i+1),bk:=D.nx } σ2 H2) (hd:∀σ H,Pv xs.length σ H->D.nx σ H):yt (Yh K a) g tb D σ H:=
 XB Pv h0 (λi σ H hi p=>bH (hl i σ H hi p)) hs hd
theorem Gr{lo:Int}{n:Nat}{idx:List Nat}{tt:CB->TT}{te:CB->TE}{σ:St}{Q:VK}{H1:Hp}(Pv:Addr->Nat->List V->Hp->Prop)(h0:∀D,H1 D=none->Pv D 0 [] (upd H1 D (.lst [])))
  (hs:∀D,H1 D=none->∀i ys H,i<n->Pv D i ys H->∀(c:CB),tt c (some (.int (lo+i))::cE σ idx) H λb H4=>if b=true then te c (some (.int (lo+i))::cE σ idx) H4 λy H5=>H5 D=some (.lst ys)/\ys.length<sizeLine/\Pv D (i+1) (ys++[y]) (upd H5 D (.lst (ys++[y]))) else Pv D (i+1) ys H4)
  (hd:∀D,H1 D=none->∀ys H,Pv D n ys H->Q (.ref D) H):kg (J8 lo n) 1 idx (λ_=>dR 0) tt te σ Q H1:=
 λD hD=>Gq (Pv D) (h0 D hD) (hs D hD) (hd D hD)
theorem Dd{K:PySem.W.Frag}{a:Addr}{zs:List V}{idx:List Nat}{tt:CB->TT}{te:CB->TE}{σ:St}{Q:VK}{H1:Hp}(Pv:Addr->Nat->List V->Hp->Prop)(h0:∀D,H1 D=none->Pv D 0 [] (upd H1 D (.lst [])))
  (hl:∀D,H1 D=none->∀i ys H,i<=zs.length->Pv D i ys H->H a=some (.lst zs))
  (hs:∀D,H1 D=none->∀i x ys H,zs[i]?=some x->Pv D i ys H->∀(c:CB),tt c (some x::cE σ idx) H λb H4=>if b=true then te c (some x::cE σ idx) H4 λy H5=>H5 D=some (.lst ys)/\ys.length<sizeLine/\Pv D (i+1) (ys++[y]) (upd H5 D (.lst (ys++[y]))) else Pv D (i+1) ys H4)
  (hd:∀D,H1 D=none->∀ys H,Pv D zs.length ys H->Q (.ref D) H):kg (J9 K a) 1 idx (λ_=>dR 0) tt te σ Q H1:=
 λD hD=>JQ (Pv D) (h0 D hD) (λi ys H hi p=>bw (hl D hD i ys H hi p)) (hs D hD) (hd D hD)
end L2
namespace L2
open PySem PySem.Spec PyProof.Rows
def HJ(ss:List Str):TA:=λ_ H Q=>Q (List.map V.str ss) H
structure ZE(X:Cx)(e:Expr)(t:TE):Prop where
 to:PE X e t
structure ZT(X:Cx)(e:Expr)(t:TT):Prop where
 to:PT X e t
structure ZW(X:Cx)(e:Expr)(t:TT):Prop where
 to:PW X e t
structure ZA(X:Cx)(e:List Expr)(t:TA):Prop where
 to:PA X e t
structure ZS(X:Cx)(e:Stmt)(t:TS):Prop where
 to:PS X e t
structure GJ(X:Cx)(e:List Stmt)(t:TS):Prop where
 to:yC X e t
structure ZG(X:Cx)(e:Expr)(t:TG):Prop where
 to:PG X e t
structure Yc(X:Cx)(e:List Expr)(t:TT):Prop where
 to:Dp X e t
structure ZO(X:Cx)(e:Option Expr)(t:TO):Prop where
 to:PO X e t
structure ZI(X:Cx)(tg iter:Expr)(t:TI):Prop where
 to:PI X tg iter t
structure ZC(X:Cx)(op:CmpOp)(a b:Expr)(t:TE):Prop where
 to:PC X op a b t
theorem jk{X:Cx}{b:Bool}{j:Nat}{pos:Pos}:ZE X (Expr.Constant (Const.bool b) j pos) (tC (V.bl b)):=⟨aCk⟩
theorem ao{X:Cx}{i:Int}{j:Nat}{pos:Pos}:ZE X (Expr.Constant (Const.int i) j pos) (tC (V.int i)):=⟨aAx⟩
theorem jP{X:Cx}{x:Str}{j:Nat}{pos:Pos}:ZE X (Expr.Constant (Const.str x) j pos) (tC (V.str x)):=⟨aAu⟩
theorem au{X:Cx}{N:List Str}{sc:Scope}{x:Str}{pos:Pos}(h1:HC X N sc)(i:Nat)(h2:okV N sc i x=true:=by decide +kernel):ZE X (Expr.Name x pos) (DY i):=⟨pvk h1 i h2⟩
theorem dI{X:Cx}{es:List Expr}{t:TA}{pos:Pos}(h1:ZA X es t):ZE X (Expr.List es pos) (Qs t):=⟨aAw h1.to⟩
theorem fA{X:Cx}{es:List Expr}{t:TA}{pos:Pos}{x1:Nat}(h1:ZA X es t):ZE X (Expr.Tuple es x1 pos) (Qm t):=⟨aAt h1.to⟩
theorem MK{X:Cx}{pos:Pos}:ZE X (Expr.Dict [] [] pos) wW:=⟨RV⟩
theorem aZ{X:Cx}{a b:Expr}{ta tb:TE}{pos:Pos}{op:Operator}{r:R2}(h1:nj X (binaryOp op) r)(h2:ZE X a ta)(h3:ZE X b tb):ZE X (Expr.BinOp a op b pos) (Qq r ta tb):=⟨aCi h1 h2.to h3.to⟩
theorem Vm{X:Cx}{a:Expr}{ta:TE}{pos:Pos}(h1:ZE X a ta):ZE X (Expr.UnaryOp UnaryOp.Not a pos) (Eb ta):=⟨aAv h1.to⟩
theorem sM{X:Cx}{a b:Expr}{ta tb:TE}{pos:Pos}{op:CmpOp}{r:R2}(h1:nj X (compareOp op) r)(h2:ZE X a ta)(h3:ZE X b tb)(h4:behindInMarks op b=false):ZE X (Expr.Compare a [op] [b] pos) (Qq r ta tb):=⟨Wx h1 h2.to h3.to h4⟩
theorem DQ{X:Cx}:ZO X none sP:=⟨Wo⟩
theorem sI{X:Cx}{e:Expr}{te:TE}(h1:ZE X e te):ZO X (some e) (Ea te):=⟨Wn h1.to⟩
theorem um{X:Cx}{e:Expr}{te:TE}{lo hi:Option Expr}{tl th:TO}{pos p2:Pos}{r:V->Option Int->Option Int->Hp->VK->Prop}(h1:Vh X r)(h2:ZE X e te)(h3:ZO X lo tl)(h4:ZO X hi th):ZE X (Expr.Subscript e (Expr.Slice lo hi none p2) pos) (tSl r te tl th):=⟨RP h1 h2.to h3.to h4.to⟩
theorem sL{X:Cx}{o i:Expr}{pos:Pos}{td ty:TE}(h1:Around.units (Cx.A X)+1<cLine)(h2:ZE X o td)(h3:ZE X i ty)(h4:aBK i):ZE X (Expr.Subscript o i pos) (zm td ty):=⟨Wv h1 h2.to h3.to h4⟩
theorem bq{X:Cx}{a b:Expr}{ta tb:TE}{pos:Pos}{r:R2}(h1:Yg X r)(h2:ZE X a ta)(h3:ZE X b tb)(h4:Mw b):ZE X (Expr.Subscript a b pos) (Qq r ta tb):=⟨aCj h1 h2.to h3.to h4⟩
theorem eJ{X : Cx}{N : List Str}{kZ : Scope}{elt target iter : Expr}{ifs : List Expr}{scope : Scope}{pos : Pos}{wi : TI}{g : CB → TG}{tt : CB → TT}{te : CB → TE}(h1 : HC X N kZ)(xs : List Str)(idx : List Nat)(h2 : Cx.calm X=true)(h3 : O1 kZ N scope idx=true)(h4 : ZI X target iter wi)(h5 : (∀ (c : CB),
                HC (mB X scope (xs++cC (Cx.N X) idx) c) (xs++cC N idx) (dv scope kZ) →
                  ZG (mB X scope (xs++cC (Cx.N X) idx) c) target (g c))) (h6 : (∀ (c : CB),
                  HC (mB X scope (xs++cC (Cx.N X) idx) c) (xs++cC N idx) (dv scope kZ) →
                    Yc (mB X scope (xs++cC (Cx.N X) idx) c) ifs (tt c))) (h7 : (∀ (c : CB),
                    HC (mB X scope (xs++cC (Cx.N X) idx) c) (xs++cC N idx) (dv scope kZ) →
                      ZE (mB X scope (xs++cC (Cx.N X) idx) c) elt (te c))) (h8 : autoParam (∀ (x : Value), foldedSetIterable iter (Cx.env X) x=pure x) Er._auto_1) : ZE X (Expr.ListComp elt [{ target := target, iter := iter, ifs := ifs, is_async := 0 }] scope pos)
                      (wY wi (List.length xs) idx g tt te) := ⟨Er h1 xs idx h2 h3 h4.to (λc z => (h5 c z).to) (λc z => (h6 c z).to) (λc z => (h7 c z).to) h8⟩
theorem ai{X:Cx}:ZA X [] Nc:=⟨Ii⟩
theorem ae{X:Cx}{e:Expr}{es:List Expr}{te:TE}{t:TA}(h1:ZE X e te)(h2:ZA X es t)(h3:autoParam (starEach (e::es) (Cx.env X)=(false,eval e (Cx.env X))::starEach es (Cx.env X)) vT._auto_1):ZA X (e::es) (zp te t):=⟨vT h1.to h2.to h3⟩
theorem sJ{X:Cx}{N:List Str}{sc:Scope}{x:Str}{pos:Pos}(h1:HC X N sc)(h2:List.Nodup N)(i:Nat)(h3:NX N sc i x=true):ZG X (Expr.Name x pos) (dR i):=⟨pgb h1 h2 i h3⟩
theorem gi{X:Cx}:Yc X [] Ql:=⟨RJ⟩
theorem ja{X:Cx}{e:Expr}{t:TT}(h1:ZT X e t):Yc X [e] t:=⟨RG h1.to⟩
theorem qz{X:Cx}{tg a:Expr}{ta:TA}{p pos:Pos}(h1:Gl X (Str.ofString "range"))(h2:Cx.mg X (Str.ofString "range")=none)(h3:ZA X [a] ta)(h4:autoParam (starEach [a] (Cx.env X)=[(false,eval a (Cx.env X))]) zC._auto_1):ZI X tg (Expr.Call (Expr.Name (Str.ofString "range") p) [a] [] pos) (FW ta):=⟨zC h1 h2 h3.to h4⟩
theorem fT{X:Cx}{tg l:Expr}{tl:TE}(h1:ZE X l tl):ZI X tg l (FX (Cx.K X) tl):=⟨Wr h1.to⟩
theorem dH{X:Cx}{tg l:Expr}{tl:TE}(h1:ZE X l tl):ZI X tg l (S5 (Cx.K X) tl):=⟨aAr h1.to⟩
theorem Hv{X:Cx}{o i:Expr}{td ty:TE}(h1:Around.units (Cx.A X)+1<cLine)(h2:ZE X i ty)(h3:ZE X o td):ZC X CmpOp.NotIn i o (Bs ty td):=⟨NK h1 h2.to h3.to⟩
theorem Vk{X:Cx}{a b:Expr}{pos:Pos}{op:CmpOp}{t:TE}(h1:ZC X op a b t)(h2:autoParam (behindInMarks op b=false) Ry._auto_1):ZT X (Expr.Compare a [op] [b] pos) (tB t):=⟨Ry h1.to h2⟩
theorem aY{X:Cx}{a b:Expr}{ta tb:TE}{pos:Pos}{op:CmpOp}{r:R2}(h1:nj X (compareOp op) r)(h2:ZE X a ta)(h3:ZE X b tb)(h4:behindInMarks op b=false):ZT X (Expr.Compare a [op] [b] pos) (D' (Qq r ta tb)):=⟨Wc h1 h2.to h3.to h4⟩
theorem lP{X:Cx}{a:Expr}{pos:Pos}{tA:TT}(h1:ZT X a tA):ZT X (Expr.UnaryOp UnaryOp.Not a pos) (Qr tA):=⟨aAj h1.to⟩
theorem pV{X:Cx}{e:Expr}{t:TT}(h1:ZW X e t):ZT X e t:=⟨PW.pt h1.to⟩
theorem du{X:Cx}{e:Expr}{t:TE}(h1:ZE X e t)(h2:autoParam
    (∀(whole:Sem Value),
     PySem.isTrue e (Cx.env X) whole=do
      let v <-whole
      standAt (Expr.pos e)
      holding [v] (truthy v))
    Rx._auto_1):ZT X e (tB t):=⟨Rx h1.to h2⟩
theorem kK{X:Cx}{a:Expr}{pos:Pos}{tA:TT}(h1:ZT X a tA):ZW X (Expr.BoolOp BoolOp.And [a] pos) tA:=⟨Wb h1.to⟩
theorem vN{X:Cx}{a:Expr}{pos:Pos}{tA:TT}(h1:ZT X a tA):ZW X (Expr.BoolOp BoolOp.Or [a] pos) tA:=⟨aAh h1.to⟩
theorem oX{X:Cx}{a b:Expr}{pos:Pos}{tA U1:TT}{rest:List Expr}(h1:ZT X a tA)(h2:ZW X (Expr.BoolOp BoolOp.And (b::rest) pos) U1):ZW X (Expr.BoolOp BoolOp.And (a::b::rest) pos) (Qw tA U1):=⟨aAi h1.to h2.to⟩
theorem Bl{X:Cx}{a b:Expr}{pos:Pos}{tA U1:TT}{rest:List Expr}(h1:ZT X a tA)(h2:ZW X (Expr.BoolOp BoolOp.Or (b::rest) pos) U1):ZW X (Expr.BoolOp BoolOp.Or (a::b::rest) pos) (tOr tA U1):=⟨aCf h1.to h2.to⟩
theorem aG{X : Cx}{CX : Mz}{k : Nat}{f : Addr}{fd : FuncData}{ps : List Str}{sp : Sp}{uE : List V}{ds : List Value}{E : XK}{x : Str}{p pos : Pos}{e : Expr}{es : List Expr}{t : TA}(h1 : cq (Cx.prog X) (Cx.w X) (Cx.K X) (Cx.mg X) (Cx.base X) CX k f fd ps sp)(h2 : cv k (Cx.A X))(h3 : Gl X x)(h4 : Cx.mg X x=some (Value.ref f))(h5 : W.keepIn (Cx.K X) (Value.ref f)=true)(h6 : Binds (Cx.K X) fd ps ds)(h7 : Vals uE ds)(h8 : Passes CX X E)(h9 : ZA X (e::es) t)(h10 : autoParam ((x==Str.ofString "__debug__")=false) vS._auto_1)(h11 : autoParam (starEach (e::es) (Cx.env X)=(false, eval e (Cx.env X))::starEach es (Cx.env X))
                          vS._auto_2) (h12 : autoParam
                            ((List.any (backTo pos (starEach es (Cx.env X))) λ(x : Bool × Sem Value) => Prod.fst x) =
                              false)
                            vS._auto_3) : ZE X (Expr.Call (Expr.Name x p) (e::es) [] pos) (zq sp uE E t) := ⟨vS h1 h2 h3 h4 h5 h6 h7 h8 h9.to h10 h11 h12⟩
theorem dh{X : Cx}{x : Str}{p pos : Pos}{e : Expr}{es : List Expr}{t : TA}{T : String}{r : List V → Hp → VK → Prop}(h1 : fX X (Value.type T) r)(h2 : Gl X x)(h3 : Cx.mg X x=none)(h4 : bootBuiltins x=some (Value.type T))(h5 : ZA X (e::es) t)(h6 : autoParam (x ≠ Str.ofString "__name__") kY._auto_1)(h7 : autoParam ((x==Str.ofString "__debug__")=false) kY._auto_2)(h8 : autoParam (starEach (e::es) (Cx.env X)=(false, eval e (Cx.env X))::starEach es (Cx.env X))
                    kY._auto_3) (h9 : autoParam
                      ((List.any (backTo pos (starEach es (Cx.env X))) λ(x : Bool × Sem Value) => Prod.fst x) =
                        false)
                      kY._auto_4) : ZE X (Expr.Call (Expr.Name x p) (e::es) [] pos) (ZM r t) := ⟨kY h1 h2 h3 h4 h5.to h6 h7 h8 h9⟩
theorem cK{X : Cx}{x : Str}{p pos : Pos}{e : Expr}{es : List Expr}{t : TA}{id : String}{r : List V → Hp → VK → Prop}(h1 : fX X (Value.builtin id) r)(h2 : Gl X x)(h3 : Cx.mg X x=none)(h4 : bootBuiltins x=some (Value.builtin id))(h5 : ZA X (e::es) t)(h6 : autoParam (x ≠ Str.ofString "__name__") nW._auto_1)(h7 : autoParam ((x==Str.ofString "__debug__")=false) nW._auto_2)(h8 : autoParam (starEach (e::es) (Cx.env X)=(false, eval e (Cx.env X))::starEach es (Cx.env X))
                    nW._auto_3) (h9 : autoParam
                      ((List.any (backTo pos (starEach es (Cx.env X))) λ(x : Bool × Sem Value) => Prod.fst x) =
                        false)
                      nW._auto_4) : ZE X (Expr.Call (Expr.Name x p) (e::es) [] pos) (ZM r t) := ⟨nW h1 h2 h3 h4 h5.to h6 h7 h8 h9⟩
theorem lQ{X : Cx}{o e : Expr}{es : List Expr}{to : TE}{t : TA}{name : Str}{apos dj : Pos}{T id : String}{r : V → List V → Hp → VK → Prop}(h1 : PlainAttrs T)(h2 : Slot T name id)(h3 : typeOf (Value.builtin id)=pure (Value.type "method_descriptor"))(h4 : MtR X id r)(h5 : ZE X o to)(h6 : ZA X (e::es) t)(h7 : autoParam (attributeBase o name (Cx.env X) (eval o (Cx.env X))=eval o (Cx.env X)) zE._auto_1)(h8 : autoParam
                    ((((List.all (backTo dj (starEach (e::es) (Cx.env X))) λ(x : Bool × Sem Value) =>
                            !Prod.fst x) &&
                          List.all (backToKw dj (keywordEach [] (Cx.env X))) λ(x : Option Str × Sem Value) =>
                            Option.isSome (Prod.fst x)) &&
                        decide
                          ((List.length (e::es)+List.length ([] : List Keyword)+if List.isEmpty ([] : List Keyword)=true then 0 else 1)<30)) =
                      true)
                    zE._auto_2) (h9 : autoParam ((Pos.endLine apos==Pos.line dj)=true) zE._auto_3) (h10 : autoParam (starEach (e::es) (Cx.env X)=(false, eval e (Cx.env X))::starEach es (Cx.env X))
                        zE._auto_4) (h11 : autoParam
                          ((List.any (backTo dj (starEach es (Cx.env X))) λ(x : Bool × Sem Value) => Prod.fst x) =
                            false)
                          zE._auto_5) : ZE X (Expr.Call (Expr.Attribute o name apos) (e::es) [] dj) (tBM (Cx.K X) T r to t) := ⟨zE h1 h2 h3 h4 h5.to h6.to h7 h8 h9 h10 h11⟩
theorem Kh{X:Cx}{o:Expr}{to:TE}{name:Str}{apos dj:Pos}{T id:String}{r:V->List V->Hp->VK->Prop}(h1:PlainAttrs T)(h2:Slot T name id)(h3:typeOf (Value.builtin id)=pure (Value.type "method_descriptor"))(h4:MtR X id r)(h5:ZE X o to)(h6:autoParam (attributeBase o name (Cx.env X) (eval o (Cx.env X))=eval o (Cx.env X)) Ih._auto_1)(h7:autoParam ((Pos.endLine apos==Pos.line dj)=true) Ih._auto_2):ZE X (Expr.Call (Expr.Attribute o name apos) [] [] dj) (Qu (Cx.K X) T r to):=⟨Ih h1 h2 h3 h4 h5.to h6 h7⟩
theorem aV{X:Cx}{e:Expr}{te:TE}{pos:Pos}(h1:ZE X e te):ZS X (Stmt.Return (some e) pos) (Qp te):=⟨aAl h1.to⟩
theorem cJ{X:Cx}{e:Expr}{te:TE}{pos:Pos}(h1:ZE X e te)(h2:autoParam (swapsWith e none (Pos.line pos) (Cx.env X)=pure false) KZ._auto_1):ZS X (Stmt.Expr e pos) (Ec te):=⟨KZ h1.to h2⟩
theorem oY{X : Cx}{N : List Str}{kZ : Scope}{elt target iter : Expr}{ifs : List Expr}{scope : Scope}{pos spos py : Pos}{wi : TI}{g : CB → TG}{tt : CB → TT}{te : CB → TE}{y : Str}(h1 : HC X N kZ)(h2 : List.Nodup N)(i : Nat)(h3 : NX N kZ i y=true)(xs : List Str)(idx : List Nat)(h4 : Cx.calm X=true)(h5 : O1 kZ N scope idx=true)(h6 : ZI X target iter wi)(h7 : (∀ (c : CB),
                      HC (mB X scope (xs++cC (Cx.N X) idx) c) (xs++cC N idx) (dv scope kZ) →
                        ZG (mB X scope (xs++cC (Cx.N X) idx) c) target (g c))) (h8 : (∀ (c : CB),
                        HC (mB X scope (xs++cC (Cx.N X) idx) c) (xs++cC N idx) (dv scope kZ) →
                          Yc (mB X scope (xs++cC (Cx.N X) idx) c) ifs (tt c))) (h9 : (∀ (c : CB),
                          HC (mB X scope (xs++cC (Cx.N X) idx) c) (xs++cC N idx) (dv scope kZ) →
                            ZE (mB X scope (xs++cC (Cx.N X) idx) c) elt (te c))) (h10 : swapsWith
                              (Expr.ListComp elt [{ target := target, iter := iter, ifs := ifs, is_async := 0 }] scope
                                pos)
                              (some (Expr.Name y py)) (Pos.line spos) (Cx.env X) =
                            pure true) (h11 : autoParam (∀ (x : Value), foldedSetIterable iter (Cx.env X) x=pure x) Eo._auto_1) : ZS X
                              (Stmt.Assign [Expr.Name y py]
                                (Expr.ListComp elt [{ target := target, iter := iter, ifs := ifs, is_async := 0 }] scope
                                  pos)
                                spos)
                              (wZ (wY wi (List.length xs) idx g tt te) (dR i)) := ⟨Eo h1 h2 i h3 xs idx h4 h5 h6.to (λc z => (h7 c z).to) (λc z => (h8 c z).to) (λc z => (h9 c z).to) h10 h11⟩
theorem aH{X:Cx}{N:List Str}{sc:Scope}{x:Str}{pos:Pos}{e:Expr}{te:TE}{pos':Pos}(h1:HC X N sc)(h2:List.Nodup N)(h3:(∀(x:Str),Cx.fn X x=true))(i:Nat)(h4:U4 N sc i x=true)(h5:ZE X e te)(h6:autoParam (swapsWith e (some (Expr.Name x pos')) (Pos.line pos) (Cx.env X)=pure false) KY._auto_1):ZS X (Stmt.Assign [Expr.Name x pos'] e pos) (wZ te (dR i)):=⟨KY h1 h2 h3 i h4 h5.to h6⟩
theorem sG{X:Cx}{o i value:Expr}{pos pos':Pos}{td ty tv:TE}(h1:Around.units (Cx.A X)+1<cLine)(h2:ZE X o td)(h3:ZE X i ty)(h4:ZE X value tv)(h5:swapsWith value (some (Expr.Subscript o i pos')) (Pos.line pos) (Cx.env X)=pure false):ZS X (Stmt.Assign [Expr.Subscript o i pos'] value pos) (xc td ty tv):=⟨Wl h1 h2.to h3.to h4.to h5⟩
theorem jN{X : Cx}{pos : Pos}{tg e : Expr}{te : TE}{g : TG}(h1 : ZE X e te)(h2 : ZG X tg g)(h3 : autoParam (swapsWithSole [tg] e (Pos.line pos) (Cx.env X)=pure false) Cj._auto_1)(h4 : autoParam (swappedStores [tg] e (Cx.env X)=pure none) Cj._auto_2)(h5 : autoParam
              (List.map (λ(x : Bool × (Value → Sem Unit)) => Prod.snd x) (assignEach [tg] (Cx.env X)) =
                [assign tg (Cx.env X)])
              Cj._auto_3) : ZS X (Stmt.Assign [tg] e pos) (wZ te g) := ⟨Cj h1.to h2.to h3 h4 h5⟩
theorem jO{X : Cx}{pos : Pos}{o i : Expr}{to ti : TE}{t : J6}(h1 : ZE X o to)(h2 : ZE X i ti)(h3 : Pb X t)(h4 : autoParam
            (∀ (v : Value),
              assign (Expr.Subscript o i pos) (Cx.env X) v=do
                let ov ← holding [v] (eval o (Cx.env X))
                let iv ← holding [v, ov] (eval i (Cx.env X))
                standAt pos
                holding [v, ov, iv] (setItem ov iv v)
                release [v, ov, iv] [])
            RL._auto_1) : ZG X (Expr.Subscript o i pos) (T2 to ti t) := ⟨RL h1.to h2.to h3 h4⟩
theorem DP{X : Cx}{pos : Pos}{o i e : Expr}{to ti te : TE}{HD : V → V → Hp → VK → Prop}{ZD : Yd}{HB : J6}{op : Operator}{Qi : Pos}(h1 : ZE X o to)(h2 : ZE X i ti)(h3 : aBJ X HD)(h4 : ZE X e te)(h5 : PIp X op ZD)(h6 : Pb X HB)(h7 : autoParam
                  (∀ (ov iv new : Value),
                    augStore i ov iv new=do
                      holding [new, ov, iv] (setItem ov iv new)
                      release [new, ov, iv] []
                      pure Flow.next)
                  K0._auto_1) : ZS X (Stmt.AugAssign (Expr.Subscript o i Qi) op e pos) (Ed to ti te HD ZD HB) := ⟨K0 h1.to h2.to h3 h4.to h5 h6 h7⟩
theorem P1{X:Cx}{N:List Str}{sc:Scope}{x:Str}{pos:Pos}{e:Expr}{te:TE}{op:Operator}{ti:Yd}{pos':Pos}(h1:HC X N sc)(h2:List.Nodup N)(h3:(∀(x:Str),Cx.fn X x=true))(i:Nat)(h4:U4 N sc i x=true)(h5:ZE X e te)(h6:PIp X op ti):ZS X (Stmt.AugAssign (Expr.Name x pos') op e pos) (Vu i te ti):=⟨Wi h1 h2 h3 i h4 h5.to h6⟩
theorem cg{X:Cx}{t u:TS}{pos:Pos}{c:Expr}{a b:List Stmt}{tc:TT}(h1:ZT X c tc)(h2:GJ X a t)(h3:GJ X b u):ZS X (Stmt.If c a b pos) (Nf tc t u):=⟨aCd h1.to (.of h2.to) (.of h3.to)⟩
theorem zc{X:Cx}{pos:Pos}{c:Expr}{body:List Stmt}{tc:TT}{tb:TS}(h1:PassesOwn (model (Cx.prog X) (Cx.w X)) (Cx.A X) (Cx.env X) (Cx.xe X))(h2:ZT X c tc)(h3:GJ X body tb):ZS X (Stmt.While c body [] pos) (HF tc tb):=⟨Rg h1 h2.to (.of h3.to)⟩
theorem pG{X:Cx}{N:List Str}{sc:Scope}{x:Str}{pos:Pos}(h1:HC X N sc)(h2:List.Nodup N)(h3:(∀(x:Str),Cx.fn X x=true))(i:Nat)(h4:U4 N sc i x=true):ZG X (Expr.Name x pos) (dR i):=⟨pgk h1 h2 h3 i h4⟩
theorem dG{X:Cx}{pos:Pos}{tg iter:Expr}{body:List Stmt}{wi:TI}{g:TG}{tb:TS}(h1:PassesOwn (model (Cx.prog X) (Cx.w X)) (Cx.A X) (Cx.env X) (Cx.xe X))(h2:Cx.calm X=true)(h3:ZI X tg iter wi)(h4:ZG X tg g)(h5:GJ X body tb)(h6:autoParam (∀(x:Value),foldedSetIterable iter (Cx.env X) x=pure x) Rh._auto_1):ZS X (Stmt.For tg iter body [] pos) (Vs wi g tb):=⟨Rh h1 h2 h3.to h4.to (.of h5.to) h6⟩
theorem bt{X:Cx}:GJ X [] zk:=⟨y4.to V5⟩
theorem az{X:Cx}{st:Stmt}{t:TS}(h1:ZS X st t):GJ X [st] t:=⟨y4.to (V4 h1.to)⟩
theorem aq{X:Cx}{st:Stmt}{rest:List Stmt}{t u:TS}(h1:ZS X st t)(h2:GJ X rest u):GJ X (st::rest) (tSeq t u):=⟨y4.to (Rf h1.to (.of h2.to))⟩
theorem gA{X:Cx}{st:Stmt}{rest:List Stmt}{t u:TS}(h1:ZS X st t)(h2:GJ X rest u):GJ X (st::rest) (Ng t u):=⟨y4.to (V6 h1.to (.of h2.to))⟩
theorem jE.xl{P:Program}{w:World}{K:PySem.W.Frag}{mg:Str->Option Value}{base:Heap}{x qual:Str}{st:Stmt}{f:Addr}{fd:FuncData}{N ps:List Str}{k:Nat}{sp:Sp}(F:jE K x qual st f fd)(S:aU N ps (ag st))(len:∀vs H Q E,sp vs H Q E->vs.length=ps.length)
  (eI:∀(cD:Value) (A:Around) (outer:List Env) (s:Shared) (H:Hp) (vs:List V) (Q:VK) (E:XK),cv k (A.deeper (envOfC qual (ag st) s.heap.objs.size f cD))->sp vs H Q E->
   HC (dF eV P w K mg base N qual (ag st) f cD A outer s H E).uw N (ag st)->(∀x,(dF eV P w K mg base N qual (ag st) f cD A outer s H E).uw.fn x=true)->
   ∃t,GJ (dF eV P w K mg base N qual (ag st) f cD A outer s H E).uw (aK st) t/\t { nx:=λ_ H'=>Q .non H',rt:=Q } (start N vs) H):cq P w K mg base eV (k+1) f fd ps sp:=
 F.okK S len λcD A outer s H vs Q E hr h hc hf=>let ⟨t,h1,h2⟩:=eI cD A outer s H vs Q E hr h hc hf;⟨t,.of h1.to,h2⟩
def uI(w:World):Bool:=w.params.followText "set-order"
theorem W4(t:SetTable)(es:Array (Int×Value))(h:Int)(x:Value):(layNew t es h x).2.1.led=t.led:=by
 unfold layNew
 split
 ·dsimp only;unfold SetTable.orStandIn
  split <;> rfl
 ·rfl
theorem Sy{mask finger moves:Nat}{led plain:Bool}{hs:Array Int}{t':SetTable}{o:Array Nat}(h:SetTable.laid mask finger moves led plain hs=some (t',o)):t'.led=led/\t'.plain=plain:=by
 unfold SetTable.laid at h
 cases q:SetTable.layClean mask hs with
 | none=>rw[q]at h;cases h
 | some owner=>rw[q]at h;cases h;exact⟨rfl,rfl⟩
theorem Nw(t:SetTable)(es:Array (Int×Value))(k:Nat):(relayAll t es k).2.1.led=t.led:=by
 unfold relayAll
 split
 ·rename_i t' o q
  dsimp only
  split
  ·exact(Sy q).1
  ·rfl
 ·rfl
def aGn(w:World)(p:Str×Tok):Int×Value:=(hashStr w p.1,.str p.1 p.2)
def e9(es:Array (Int×Value))(ep:Nat)(t:SetTable):Obj:={ cls:=.type "set",dict:=none,data:=.set es ep t }
structure aHd(w:World)(h:Heap)(a:Addr)(l:List (Str×Tok)):Prop where
 ex:∃es ep t,h.get? a=some (e9 es ep t)/\es.toList=l.map (aGn w)/\t.fits es.size=true/\t.led = !uI w/\(l≠[]->t.plain=false)
 nd:(l.map (·.1)).Nodup
 sz:l.length<scanBound
section
variable {P:Program}{w:World}{A:Around}{E:Value->Shared->Prop}{s:Shared}
theorem Ky{x:Value}{Q:Value->Shared->Prop}(h:Q (.ref s.heap.objs.size) { s with heap:=s.heap.push (e9 #[] 0 (.fresh 0 0 (!uI w))) }) :
  codeAny (model P w) A (.call (.builtin "set.__new__") ⟨[.type "set",x],[]⟩) (wants Q E) s:=by
 refine Ak ?_
 refine ay (m:=checkBuiltinCall "set.__new__" ⟨[.type "set",x],[]⟩) (kl (PySem.F.newCall_set_1 x) (aJ ⟨v7 PySem.F.plain_set_new _,pQ PySem.F.entry_set_new ?_⟩))
 rw[vZ PySem.F.plain_set_new _]
 unfold Builtin.«set.__new__» Builtin.Frozenset.newClass
 have Ju:=sub_set_self
 obtain⟨hp,g,d,tk,os⟩:=s
 dsimp only
 wp_walk
 refine wpAny_askSetting (aJ ?_)
 dsimp only
 simp only[newObj]
 refine ay (wpAny_alloc (aJ (aJ h)))
end
theorem fB:Slot "set_iterator" "__next__" "set_iterator.__next__":=
 .of (owner:="set_iterator") (n:="__next__") (by rw[typeLookup_type,builtinLookup_eq_fast];kernel_rfl) (by decide +kernel) (by decide +kernel) (by decide +kernel)
  (.inl (by decide +kernel)) (by rw[isSubtype_type];kernel_rfl)
theorem sW:Slot "set_iterator" "__iter__" "set_iterator.__iter__":=
 .of (owner:="set_iterator") (n:="__iter__") (by rw[typeLookup_type,builtinLookup_eq_fast];kernel_rfl) (by decide +kernel) (by decide +kernel) (by decide +kernel)
  (.inl (by decide +kernel)) (by rw[isSubtype_type];kernel_rfl)
theorem p8:entryFor table "set_iterator.__next__" = some Builtin.«set_iterator.__next__»:=entryFor_of_tree (by kernel_rfl)
theorem yH:entryFor table "set_iterator.__iter__" = some Builtin.«dict_keyiterator.__iter__»:=
 entryFor_alias (id':="dict_keyiterator.__iter__") (by kernel_rfl) rfl (by decide +kernel) (by kernel_rfl)
theorem yI:entryFor table "set.__iter__" = some Builtin.«frozenset.__iter__»:=
 entryFor_alias (id':="frozenset.__iter__") (by kernel_rfl) rfl (by decide +kernel) (by kernel_rfl)
theorem Ef:Manifest.owners.lookup (String.ofList "rotareti_tes".toList.reverse)=some Manifest.sig_set_iterator:=by kernel_rfl
theorem sX(a:Value):argsOk "set_iterator.__next__" ⟨[a],[]⟩:=by
 unfold argsOk;rw[signature?_of (id:="set_iterator.__next__") (n:="__txen__".toList) (o:="rotareti_tes".toList) (by kernel_rfl) Ef];kernel_rfl
theorem BM(a:Value):argsOk "set_iterator.__iter__" ⟨[a],[]⟩:=by
 unfold argsOk;rw[signature?_of (id:="set_iterator.__iter__") (n:="__reti__".toList) (o:="rotareti_tes".toList) (by kernel_rfl) Ef];kernel_rfl
def p9(first:Value)(i n ep:Nat)(a:Addr):Obj:={ cls:=.type "set_iterator",data:=.fields #[first,.int i 0,.ref a,.int n 0,.int ep 0] }
section
variable {P:Program}{w:World}{A:Around}{E:Value->Shared->Prop}{s:Shared}{a I:Addr}{es:Array (Int×Value)}{t:SetTable}{ep i n:Nat}{first:Value}
theorem sV(hI:s.heap.get? I=some (p9 first i n ep a)):s.TypeIs (.ref I) "set_iterator":=⟨_,hI,rfl⟩
theorem Kx{Q:Value->Shared->Prop}(hI:s.heap.get? I=some (p9 first i n ep a))(q:Q (.ref I) s):wpAny (model P w) A (pyIter (.ref I)) Q E s:=by
 refine wpAny_pyIter_slot (sV hI) sW (ji sW (sV hI) yH ?_ (BM _))
 exact aJ ⟨_,rfl,"set_iterator",_,sV hI,fB.lookup,q⟩
theorem QM{slot:Nat}{tk:Tok}{r:Option (Value×Nat)}{Q:Option Value->Shared->Prop}(hh:A.handled=none)(hI:s.heap.get? I=some (p9 (.int slot tk) i n ep a))(hS:s.heap.get? a=some (e9 es ep t))(hf:t.fits es.size=true)(hn:es.size=n)
  (hx:∀(B:Around) (E':Value->Shared->Prop) (Q':Option (Value×Nat)->Shared->Prop),Q' r s->wpAny (model P w) B (setNext a slot i ep) Q' E' s)
  (q:match r with
   | some (x,nx)=>∀h',h'.get? I=some (p9 (.int (nx:Int) 0) (i+1) n ep a)->Heap.SameBut I s.heap h'->Q (some x) { s with heap:=h' }
   | none=>∀h',Heap.ExtBut I s.heap h'->Q none { s with heap:=h' }):wpAny (model P w) A (pyNext (.ref I)) Q E s:=by
 have hT:=sV hI
 unfold pyNext
 refine ay (lO (pU (name:=Str.ofString "__next__") hT fB (ji fB hT p8 ?_ (sX _))))
 unfold Builtin.«set_iterator.__next__»
 refine ay (m:=slotArgs _ _ _) (aJ ?_)
 refine ay (t7 hI rfl ?_)
 refine ay (m:=setEntries a) (G8 hS rfl hf ?_)
 rw[aB (by rw[hn];simp)]
 refine ay (m:=setNext a slot i ep) (hx _ _ _ ?_)
 cases r with
 | some p=>
  obtain⟨x,nx⟩:=p
  dsimp only at q ⊢
  refine ay (m:=setField (.ref I) 0 (rawInt nx)) (ug hI (by simp) λh1 e1 sb1=>?_)
  refine ay (m:=setField (.ref I) 1 (rawInt (i+1))) (ug e1 (by simp) λh2 e2 sb2=>?_)
  exact aJ ⟨x,rfl,aJ (q h2 (by rw[e2];rfl) (sb1.trans sb2))⟩
 | none=>
  dsimp only at q ⊢
  refine ay (m:=setField (.ref I) 2 .none) (ug hI (by simp) λh1 e1 sb1=>?_)
  refine ay (m:=newExc (.type "StopIteration") []) ?_
  simp only[newExc,newTuple]
  refine ay (eZ ?_ (by size_fits))
  refine ay (m:=firstArgMember _ _) (kl (a:=Value.none) (by first | rfl | (simp only[firstArgMember];rfl)) ?_)
  refine eZ (G7 hh ?_) (by size_fits)
  refine ay (uV (T:="StopIteration") (b:=true) ⟨_,cH _ rfl,rfl⟩ qo ?_)
  exact aJ (q _ ((sb1.extBut.push _).push _))
theorem QL{p:Addr}{vs:Array Value}{c:Nat}{r:Option Value}{Q:Option Value->Shared->Prop}(hh:A.handled=none)(hI:s.heap.get? I=some (p9 (.ref p) i n ep a))(hS:s.heap.get? a=some (e9 es ep t))(hf:t.fits es.size=true)(hn:es.size=n)
  (hp:s.heap.get? p=some { cls:=.type "tuple",data:=.seq vs c })
  (hv:match r with | some x=>∃(k:Nat) (z:Int),vs[i]?=some (.int k 0)/\es[k]?=some (z,x) | none=>vs[i]?=none)
  (q:match r with
   | some x=>∀h',h'.get? I=some (p9 (.ref p) (i+1) n ep a)->Heap.SameBut I s.heap h'->Q (some x) { s with heap:=h' }
   | none=>∀h',Heap.ExtBut I s.heap h'->Q none { s with heap:=h' }):wpAny (model P w) A (pyNext (.ref I)) Q E s:=by
 have hT:=sV hI
 unfold pyNext
 refine ay (lO (pU (name:=Str.ofString "__next__") hT fB (ji fB hT p8 ?_ (sX _))))
 unfold Builtin.«set_iterator.__next__»
 refine ay (m:=slotArgs _ _ _) (aJ ?_)
 refine ay (t7 hI rfl ?_)
 refine ay (m:=setEntries a) (G8 hS rfl hf ?_)
 rw[aB (by rw[hn];simp)]
 refine ay (m:=seqItems? (.ref p)) (wpAny_seqItems hp rfl ?_)
 cases r with
 | some x=>
  obtain⟨k,z,e1,e2⟩:=hv
  dsimp only at q ⊢
  simp only[pR,e1]
  refine ay (m:=setNextDrawn a k ep) ?_
  unfold setNextDrawn
  refine ay (uf hS rfl hf ?_)
  dsimp only
  rw[aB (by simp)]
  simp only[e2]
  refine aJ ?_
  refine ay (m:=setField (.ref I) 1 (rawInt (i+1))) (ug hI (by simp) λh2 e2 sb2=>?_)
  exact aJ ⟨x,rfl,aJ (q h2 (by rw[e2];rfl) sb2)⟩
 | none=>
  dsimp only at q hv ⊢
  simp only[pR,hv]
  refine ay (m:=setField (.ref I) 0 (rawInt 0)) (ug hI (by simp) λh0 e0 sb0=>?_)
  refine ay (m:=setField (.ref I) 2 .none) (ug e0 (by simp) λh1 e1 sb1=>?_)
  refine ay (m:=newExc (.type "StopIteration") []) ?_
  simp only[newExc,newTuple]
  refine ay (eZ ?_ (by size_fits))
  refine ay (m:=firstArgMember _ _) (kl (a:=Value.none) (by first | rfl | (simp only[firstArgMember];rfl)) ?_)
  refine eZ (G7 hh ?_) (by size_fits)
  refine ay (uV (T:="StopIteration") (b:=true) ⟨_,cH _ rfl,rfl⟩ qo ?_)
  exact aJ (q _ (((sb0.trans sb1).extBut.push _).push _))
end
theorem rB{α:Type}:∀(l:List α) (i:Nat) (x:α),l[i]?=some x->(x::l.eraseIdx i).Perm l
 | [],i,x,h=>by cases i <;> cases h
 | y::l,0,x,h=>by cases h;exact List.Perm.refl _
 | y::l,i+1,x,h=>by
  rw[List.getElem?_cons_succ]at h
  rw[List.eraseIdx_cons_succ]
  exact(List.Perm.swap y x _).trans ((rB l i x h).cons y)
theorem K6{α:Type}(next:Nat->Nat):∀(f k:Nat) (l:List α) (out:Array α),l.length=f->(pickOrder.go next f k l out).toList.Perm (out.toList++l)
 | 0,k,l,out,h=>by
  rw[Ho.mp h,gh]
  unfold pickOrder.go
  exact List.Perm.refl _
 | f+1,k,l,out,h=>by
  unfold pickOrder.go
  have lt:next k%l.length<l.length:=Nat.mod_lt _ (by lia)
  have e:l[next k%l.length]?=some l[next k%l.length]:=bP lt
  rw[e]
  dsimp only
  refine(K6 next f (k+1) _ _ (by rw[List.length_eraseIdx_of_lt lt];lia)).trans ?_
  rw[Array.toList_push,Av]
  exact(rB l _ _ e).append_left _
theorem zB{α:Type}(next:Nat->Nat)(xs:Array α):(pickOrder next xs).toList.Perm xs.toList:=by
 unfold pickOrder
 have:=K6 next xs.size 0 xs.toList #[] dN
 simpa using this
section
variable {P:Program}{w:World}{A:Around}{E:Value->Shared->Prop}
theorem zY{α:Type}:∀(n:Nat) (xs:List α) (s:Shared) (Q:List α->Shared->Prop),xs.length=n->(∀ys d,ys.Perm xs->Q ys { s with drawn:=d })->wpAny (model P w) A (drawOrder n xs) Q E s
 | 0,xs,s,Q,h,q=>by
  have:xs=[]:=Ho.mp h
  subst this
  unfold drawOrder
  exact aJ (by cases s;exact q [] _ (List.Perm.refl _))
 | n+1,[],s,Q,h,q=>by cases h
 | n+1,x::xs,s,Q,h,q=>by
  unfold drawOrder
  have lt:w.draws .order (s.drawn.get .order)%(x::xs).length<(x::xs).length:=Nat.mod_lt _ (by simp)
  refine ay (m:=choose .order (x::xs).length) (λΓ p hΓ=>?_)
  refine⟨by simp,?_⟩
  have e:(x::xs)[w.draws .order (s.drawn.get .order)%(x::xs).length]?=some (x::xs)[w.draws .order (s.drawn.get .order)%(x::xs).length]:=bP lt
  show wpAny (model P w) A (match (x::xs)[w.draws .order (s.drawn.get .order)%(x::xs).length]? with
   | some y=>do let r <-drawOrder n ((x::xs).eraseIdx (w.draws .order (s.drawn.get .order)%(x::xs).length));pure (y::r)
   | none=>unsupported "internal:drawOrder") Q E { s with drawn:=s.drawn.bump .order }
  rw[e]
  dsimp only
  refine ay (zY n _ _ _ (by rw[List.length_eraseIdx_of_lt lt];simp at h ⊢;lia) λys d hp=>aJ ?_)
  exact q _ d ((hp.cons _).trans (rB _ _ _ e))
variable {s:Shared}{a:Addr}{es:Array (Int×Value)}{t:SetTable}{ep slot i:Nat}
theorem mD{Q:Bool->Shared->Prop}(q:Q (uI w) s):wpAny (model P w) A setsByText Q E s:=by
 unfold setsByText
 exact ay (wpAny_askSetting (aJ q))
theorem Fe{Q:Option (Value×Nat)->Shared->Prop}(hb:uI w=true)(hS:s.heap.get? a=some (e9 es ep t))(hf:t.fits es.size=true)(q:Q (((pickOrder (w.params.setOrder a ep) es)[i]?).map λe=>(e.2,slot)) s) :
  wpAny (model P w) A (setNext a slot i ep) Q E s:=by
 unfold setNext
 refine ay (uf hS rfl hf (ay (mD ?_)))
 rw[hb]
 dsimp only
 rw[aC rfl,aB (by simp)]
 refine ay ?_
 unfold setWalk
 refine ay (uf hS rfl hf (ay (mD ?_)))
 rw[hb,aC rfl]
 exact ay (wpAny_askSetting (aJ (aJ q)))
end
section
variable {P:Program}{w:World}{B:Around}{a I:Addr}{es:Array (Int×Value)}{t:SetTable}{ep n:Nat}{ord:List Value}
theorem zh(slotAt:Nat->Nat)(hh:B.handled=none)(vp:a≠I)(hf:t.fits es.size=true)(hn:es.size=n)(ho:ord.length=n)
  (hx:∀i,i<=n->∀(s:Shared) (C:Around) (E':Value->Shared->Prop) (Q':Option (Value×Nat)->Shared->Prop),s.heap.get? a=some (e9 es ep t)->Q' ((ord[i]?).map λv=>(v,slotAt (i+1))) s->wpAny (model P w) C (setNext a (slotAt i) i ep) Q' E' s) :
  WalksS P w B I [I,a] [I] (λx y=>y=x) n (λi v=>ord[i]?=some v) (λi s=>s.heap.get? I=some (p9 (.int (slotAt i) 0) i n ep a)/\s.heap.get? a=some (e9 es ep t)) where
 sub:=λb hb=>by rw[df.mp hb];exact dD
 grefl:=λ_=>rfl
 gtrans:=λ_ _ _ h1 h2=>h2.trans h1
 frame:=λi s h' tk st _ k=>⟨k I (by simp) _ st.1,k a (by simp) _ st.2⟩
 item:=λi s Q E hi st q=>by
  have e:ord[i]?=some ord[i]:=bP (by rw[ho];exact hi)
  refine QM (r:=some (ord[i],slotAt (i+1))) hh st.1 st.2 hf hn (λC E' Q' hq=>hx i (km hi) s C E' Q' st.2 (by rw[e];exact hq)) λh' h1 h2=>?_
  exact q _ _ e ⟨h1,h2.extBut a _ vp st.2⟩ ⟨λb o hb z=>h2.extBut b o (λy=>hb (by rw[y];exact df.mpr rfl)) z,rfl,rfl,rfl,bB _⟩
 done:=λs Q E st q=>by
  have e:ord[n]?=none:=nA (by rw[ho];exact bB _)
  refine QM (r:=none) hh st.1 st.2 hf hn (λC E' Q' hq=>hx n (bB _) s C E' Q' st.2 (by rw[e];exact hq)) λh' h1=>?_
  exact q _ ⟨λb o hb z=>h1 b o (λy=>hb (by rw[y];exact df.mpr rfl)) z,rfl,rfl,rfl,bB _⟩
 self:=λi s Q E st q=>Kx st.1 q
theorem M5{p:Addr}{pl:List Nat}{c:Nat}(hh:B.handled=none)(vp:a≠I)(hnp:p≠I)(hf:t.fits es.size=true)(hn:es.size=n)(ho:ord.length=n)(hl:pl.length=n)
  (hx:∀i:Nat,i<n->∃(k:Nat) (z:Int) (x:Value),pl[i]?=some k/\es[k]?=some (z,x)/\ord[i]?=some x) :
  WalksS P w B I [I,a,p] [I] (λx y=>y=x) n (λi v=>ord[i]?=some v)
   (λi s=>s.heap.get? I=some (p9 (.ref p) i n ep a)/\s.heap.get? a=some (e9 es ep t)/\s.heap.get? p=some { cls:=.type "tuple",data:=.seq (pl.map λ(j:Nat)=>Value.int j 0).toArray c }) where
 sub:=λb hb=>by rw[df.mp hb];exact dD
 grefl:=λ_=>rfl
 gtrans:=λ_ _ _ h1 h2=>h2.trans h1
 frame:=λi s h' tk st _ k=>⟨k I (by simp) _ st.1,k a (by simp) _ st.2.1,k p (by simp) _ st.2.2⟩
 item:=λi s Q E hi st q=>by
  obtain⟨k,z,x,e1,e2,e3⟩:=hx i hi
  refine QL (r:=some x) hh st.1 st.2.1 hf hn st.2.2 ⟨k,z,by simp[e1],e2⟩ λh' h1 h2=>?_
  exact q _ _ e3 ⟨h1,h2.extBut a _ vp st.2.1,h2.extBut p _ hnp st.2.2⟩ ⟨λb o hb z=>h2.extBut b o (λy=>hb (by rw[y];exact df.mpr rfl)) z,rfl,rfl,rfl,bB _⟩
 done:=λs Q E st q=>by
  refine QL (r:=none) hh st.1 st.2.1 hf hn st.2.2 (by simp[hl]) λh' h1=>?_
  exact q _ ⟨λb o hb z=>h1 b o (λy=>hb (by rw[y];exact df.mpr rfl)) z,rfl,rfl,rfl,bB _⟩
 self:=λi s Q E st q=>Kx st.1 q
end
section
variable {P:Program}{w:World}{A:Around}{E:Value->Shared->Prop}{s:Shared}{a:Addr}{l:List (Str×Tok)}
theorem QR{Q:Bool->Shared->Prop}(hT:s.TypeIs (.ref a) "set")(q:Q false s):wpAny (model P w) A (Builtin.List.listLengthHint (.ref a)) Q E s:=by
 unfold Builtin.List.listLengthHint
 refine ay (wpAny_specialOf hT PySem.F.slot_set_len.lookup ?_)
 generalize hid:("set.__len__" : String)=id0
 wp_delta
 rw[show splitId id0=some ("set","__len__") from by subst hid;decide +kernel]
 subst hid
 refine ay (uV (T:="set") (b:=true) hT (by rw[isSubtype_type];kernel_rfl) ?_)
 refine t8 (λz=>absurd z (by decide)) (λ_=>t8 (λ_=>?_) (λz=>absurd (by decide +kernel) z))
 exact ay (v5 hT (aJ q))
end
theorem Inv.same{X:Cx}{pins:List (Addr×Obj)}{σ:List (Option V)}{H:Hp}{s s':Shared}(I:Inv X pins σ H s)(hh:s'.heap=s.heap)(hg:s'.gens=s.gens)(ho:s'.os=s.os):Inv X pins σ H s':=
 ⟨I.ok,by rw[ho];exact I.os,by rw[hg];exact I.bare,by rw[hh];exact I.base,by rw[hh];exact I.loc,by rw[hh];exact I.cell,I.free,I.gx,by rw[hh];exact I.pin,by rw[hh];exact I.bx,I.len⟩
def TxS(w:World)(p:Addr)(ss:List Str):HO:=.ext λh=>∃l,aHd w h p l/\∀z,z∈l.map (·.1)↔z∈ss
section
variable {X:Cx}
theorem zJ{α:Type} [DecidableEq α]:∀{l m:List α},l.Nodup->(∀x∈l,x∈m)->l.length<=m.length
 | [],m,_,_=>dc _
 | x::l,m,h,k=>by
  have hx:=k x dD
  have:=zJ (m:=m.erase x) (nq.mp h).2 λy hy=>(List.mem_erase_of_ne (λ(e:y=x)=>(nq.mp h).1 (by rw[<-e];exact hy))).mpr (k y (dW _ hy))
  rw[List.length_erase_of_mem hx]at this
  have p:0<m.length:=List.length_pos_of_mem hx
  rw[fh];lia
end
theorem Bq(K:PySem.W.Frag)(z:Str)(H:Hp):tyV K "str" (.str z) H=True:=eq_true rfl
theorem eG{α:Type} [DecidableEq α]:∀{l r:List α},l.Nodup->(∀x∈l,x∈r)->l.length<=r.length
 | [],_,_,_=>dc _
 | x::l,r,hn,hs=>by
  have hx:=hs x dD
  have Xj:=nq.mp hn
  have:=eG (l:=l) (r:=r.erase x) Xj.2 λy hy=>(List.mem_erase_of_ne (λe:y=x=>Xj.1 (by rw[<-e];exact hy))).mpr (hs y (dW _ hy))
  rw[List.length_erase_of_mem hx]at this
  have h0:0<r.length:=List.length_pos_of_mem hx
  rw[fh];lia
section
variable {X:Cx}
def Rk(w:World):List V->Hp->VK->Prop:=λvs H Q=>∃a,vs=[.ref a]/\∃ss:List Str,H a=some (.lst (ss.map V.str))/\ss.length<4000/\∀p,H p=none->Q (.ref p) (upd H p (TxS w p ss))
def xh(w:World):List V->Hp->VK->Prop:=λvs H Q=>∃a,vs=[.ref a]/\∃ss:List Str,H a=some (TxS w a ss)/\ss.length<64/\
 ∀ss':List Str,(∀z,z∈ss'↔z∈ss)->ss'.Nodup->sortedS ss'=true->∀p,H p=none->Q (.ref p) (upd H p (.lst (ss'.map V.str)))
def KS:List V->Hp->VK->Prop:=λvs H Q=>∃a,vs=[.ref a]/\∃bs:List Bool,H a=some (.lst (bs.map V.bl))/\Q (.bl (bs.all id)) H
theorem Ut:∀{bs:List Bool} {us:List Value},Vals (bs.map V.bl) us->∀(i:Nat) (v:Value),us[i]?=some v->v=.bool (bs.getD i true):=by
 intro bs
 induction bs with
 | nil=>intro us r i v h;cases r;cases i <;> cases h
 | cons b bs ih=>
  intro us r i v h
  rw[fc]at r
  cases r with
  | cons r1 r2=>
   cases r1
   cases i with
   | zero=>cases h;rfl
   | succ i=>exact ih r2 i v (by simpa using h)
theorem all_range:∀(bs:List Bool),((List.range bs.length).all λi=>bs.getD i true)=bs.all id
 | []=>rfl
 | b::bs=>by
  rw[fh,List.range_succ_eq_map,Aj,List.all_map,Aj,<-all_range bs]
  rfl
def aAg(neg:Bool):R2:=λx y H Q=>∃a b,x=.ref a/\y=.ref b/\∃aM,H a=some (.dK aM)/\H b=some (.dK aM)/\(∀kv∈aM,∃c,kv.2=.bl c)/\Q (.bl (!neg)) H
def xf:V->List V->Hp->VK->Prop:=λx vs H Q=>∃a b,x=.ref a/\vs=[.ref b]/\a≠b/\∃aM,H a=some (.dK aM)/\∃more,H b=some (.dK more)/\aM.length+more.length<=sizeLine/\Q .non (upd H a (.dK (aAI aM more)))
end
theorem MF{X:Cx}{st:Stmt}:ZS X st wU:=⟨RC⟩
section
variable {X:Cx}{pins:List (Addr×Obj)}{s:Shared}{σ:St}{H:Hp}{A:Around}
theorem iU{xs:List V}{us:List Value}{j:Nat}{x:V}(r:Vals xs us)(h:j<us.toArray.size)(e:xs[j]?=some x):RelV x us.toArray[j]:=by
 have h':j<us.length:=by simpa using h
 obtain⟨u,eu,ru⟩:=r.get e
 have:=bP h'
 rw[eu]at this
 have e1:us.toArray[j]=u:=by simpa using (dU this).symm
 rw[e1];exact ru
end
section
variable {P:Program}{w:World}{A:Around}{E:Value->Shared->Prop}{s:Shared}
theorem Gs{T:String}{r d:Addr}{n:Nat}{Pd:Nat->Value->Prop}{OK:Heap->Prop}{Q:List Value->Shared->Prop}(K:PySem.W.KdlSrc P w T r d n Pd OK)(hh:A.handled=none)(bx:OK s.heap)(hn:n<=sizeLine)
  (q:∀(s':Shared) (vs:List Value),(∀b o,s.heap.get? b=some o->s'.heap.get? b=some o)->s.heap.objs.size<=s'.heap.objs.size->s'.gens=s.gens->s'.os=s.os->vs.length=n->(∀(j:Nat) v,vs[j]?=some v->Pd j v)->Q vs s'):wpAny (model P w) A (collect (.ref r)) Q E s:=by
 have lt:=K.there _ bx
 unfold collect
 refine ay (v8 (pQ entry_proto_collect' ?_))
 rw[vZ PySem.F.plain_proto_collect _]
 refine ay (m:=newList []) (eZ ?_)
 refine aJ ⟨v7 Bh _,pQ entry_list_iadd' ?_⟩
 rw[vZ Bh _]
 let L0:Obj:={ cls:=.type "list",data:=.seq ([]:List Value).toArray }
 have k0:∀b o,s.heap.get? b=some o->(s.heap.push L0).get? b=some o:=λb o e=>bR _ e
 have hL:(s.heap.push L0).get? s.heap.objs.size=some L0:=cH _ rfl
 show wpAny _ A.in1 (Builtin.List.listExtendWith (.ref s.heap.objs.size) (.ref r) (.ref s.heap.objs.size)) _ _ { s with heap:=s.heap.push L0 }
 let R0:Result->Shared->Prop:=λr s'=>match r with
  | .ok (.ret v)=>wpAny (model P w) A (match v with
   | .ref a=>do
    let o <-load a
    match o.data with
     | .seq xs _=>pure xs.toList
     | _=>unsupported "internal:collect"
   | _=>unsupported "internal:collect") Q E s'
  | .ok _=>False
  | .error e=>E e s'
 refine PySem.W.kdl_extend (R:=R0) (s:={ s with heap:=s.heap.push L0 }) K hh (K.keep _ _ bx λb _ o e=>k0 b o e) s.heap.objs.size (jK lt.1) (jK lt.2) _ 0 hL (λh' tk acc c hk hS Gf=>?_) hn
 refine ay (m:=load s.heap.objs.size) (wpAny_load hS (aJ ?_))
 exact q _ acc.toList (λb o e=>hk b o (bI (bC e)) (k0 b o e)) (km (bC hS)) rfl rfl (by rw[dN];exact Gf.1) λj v e=>Gf.2 j v (by rw[<-sx];exact e)
end
theorem oB{K:PySem.W.Frag}{a:Addr}{zs:List V}{idx:List Nat}{tt:CB->TT}{te:CB->TE}{σ:St}{Q:VK}{H1:Hp}(Pv:Addr->Nat->List V->Hp->Prop)(h0:∀D,H1 D=none->Pv D 0 [] (upd H1 D (.lst [])))
  (hl:∀D,H1 D=none->∀i ys H,i<=zs.length->Pv D i ys H->H a=some (.tup zs))
  (hs:∀D,H1 D=none->∀i x ys H,zs[i]?=some x->Pv D i ys H->∀(c:CB),tt c (some x::cE σ idx) H λb H4=>if b=true then te c (some x::cE σ idx) H4 λy H5=>H5 D=some (.lst ys)/\ys.length<sizeLine/\Pv D (i+1) (ys++[y]) (upd H5 D (.lst (ys++[y]))) else Pv D (i+1) ys H4)
  (hd:∀D,H1 D=none->∀ys H,Pv D zs.length ys H->Q (.ref D) H):kg (Yh K a) 1 idx (λ_=>dR 0) tt te σ Q H1:=by
 intro D hD
 refine⟨λi m ys H=>m=zs.length-i/\i<=zs.length/\Pv D i ys H,⟨zs.length,by simp,dc _,h0 D hD⟩,?_⟩
 rintro i m ys H ⟨rfl,hi,p⟩
 by_cases jF:i<zs.length
 ·refine .inr ⟨⟨zs,zs[i],bH (hl D hD i ys H hi p),bP jF⟩,Pv D (i+1),λuq H' p'=>⟨zs.length-(i+1),by omega,rfl,jF,p'⟩,λc own ho y H' yl=>?_⟩
  obtain⟨e,hy⟩:=yl
  subst e
  have ey:=hy zs (bH (hl D hD i ys H' hi p))
  show(∃fk,fk.length=1/\(own++cE σ idx).set 0 _=fk++cE σ idx)/\tt c ((own++cE σ idx).set 0 _) H' _
  rw[aAz ho]
  exact⟨⟨[_],rfl,rfl⟩,hs D hD i y ys H' ey p c⟩
 ·have e:i=zs.length:=by omega
  subst e
  exact .inl ⟨⟨zs,bH (hl D hD _ ys H hi p),bB _⟩,hd D hD ys H p⟩
section
variable {X:Cx}
def aAd(neg:Bool):R2:=λx y H Q=>∃c d,x=.bl c/\y=.bl d/\Q (.bl (if neg then c != d else c==d)) H
theorem Uq{prog:Program}{w:World}{A:Around}{E:Value->Shared->Prop}{s:Shared}{t b:Addr}{ws:List Value}{Q:Value->Shared->Prop}(ht:IsTup s.heap t (([]:List Value)).toArray)(hb:IsTup s.heap b ws.toArray)
  (h1:Q (.ref b) s):wpAny (model prog w) A (binaryOp .Add (.ref t) (.ref b)) Q E s:=by
 obtain⟨⟨cls,dd,data,sl⟩,ho,hc,n,hd⟩:=id ht
 obtain⟨⟨aBF,XR,data2,GR⟩,Oe,Dx,n2,hd2⟩:=id hb
 simp only at hc hd Dx hd2
 subst hc hd Dx hd2
 exact concat_meets ⟨_,ho,rfl⟩ ⟨_,Oe,rfl⟩ noFill_tuple_add seq_tuple_add Hm Hq (Hr _ _)
   (tuple_addW0 t b _ ws.toArray n n2 dd XR sl GR rfl) ⟨ho,Oe,h1⟩
def KQ:R2:=λx y H Q=>∃a b,x=.ref a/\y=.ref b/\∃xs,H a=some (.tup xs)/\∃ys,H b=some (.tup ys)/\xs.length+ys.length<=sizeLine/\
 ∀p H',cp H H'->(∀c,c≠p->H' c=H c)->H' p=some (.tup (xs++ys))->Q (.ref p) H'
theorem Es:nj X (binaryOp .Add) KQ:=by
 intro pins s σ H x y v u Q I rx ry h
 obtain⟨a,b,rfl,rfl,xs,ha,ys,hb,hz,q⟩:=h
 by_cases hx:xs=[]
 ·subst hx
  cases rx;cases ry
  obtain⟨its,r1,p1,_⟩:=I.tuple (bH ha)
  obtain⟨CN,r2,p2,_⟩:=I.tuple (bH hb)
  cases r1
  exact Uq p1 p2 ⟨.ref b,H,I,rfl,q b H (cp.refl H) (λ_ _=>rfl) hb⟩
 ·exact WM pins s σ H _ _ v u Q I rx ry ⟨a,b,xs,ys,rfl,rfl,bH ha,bH hb,hx,hz,λe=>q a H (cp.refl H) (λ_ _=>rfl) (by rw[e,gh];exact ha),λ_ p hp=>q p _ (λb u e=>by rw[aj (av e hp)];exact e) (λc hc=>aj hc) ah⟩
def aHe(lo st:Int)(n:Nat):It:=⟨λi _=>i<n,λi H x H'=>H'=H/\x=.int (lo+i*st),λi _=>n<=i⟩
def S6(ta:TA):TI:=λσ H R=>ta σ H λvs H1=>∃i j:Int,vs=[.int i,.int j,.int 2]/\(0<=i/\i<=1000/\-1<=j/\j<=1000)/\R (aHe i 2 ((j-i+1) / 2).toNat) H1
end
end L2
end
section
namespace L2
open PySem PySem.Spec PyProof.Rows Builtin Builtin.Str
end L2
end
section
namespace L2
open PySem PySem.W PyProof.Rows
def KG{α:Type}(b:Nat->Nat->Bool)(n:Nat)(P:α->Prop):KasT α->Prop
 | .ret a=>P a
 | .ask i j k=>i<n/\j<n/\KG b n P (k (b i j))
theorem KG.bind{α β:Type}{b:Nat->Nat->Bool}{n:Nat}{P:β->Prop}{f:α->KasT β}:∀{t:KasT α},KG b n (λa=>KG b n P (f a)) t->KG b n P (t.bind f)
 | .ret _,h=>h
 | .ask i j k,⟨h1,h2,h3⟩=>⟨h1,h2,KG.bind (t:=k (b i j)) h3⟩
theorem KG.mono{α:Type}{b:Nat->Nat->Bool}{n:Nat}{P P':α->Prop}(hp:∀a,P a->P' a):∀{t:KasT α},KG b n P t->KG b n P' t
 | .ret a,h=>hp a h
 | .ask i j k,⟨h1,h2,h3⟩=>⟨h1,h2,KG.mono hp (t:=k (b i j)) h3⟩
theorem KG.wp{α:Type}{b:Nat->Nat->Bool}{n:Nat}{P:α->Prop}{cmp:Nat->Nat->(Bool->Shared->Prop)->Shared->Prop}{Q:α->Shared->Prop}{s:Shared}(hc:∀i j C,i<n->j<n->C (b i j) s->cmp i j C s)(hq:∀a,P a->Q a s):∀{t:KasT α},KG b n P t->t.kasWp cmp Q s
 | .ret a,h=>hq a h
 | .ask i j k,⟨h1,h2,h3⟩=>hc i j _ h1 h2 (KG.wp hc hq (t:=k (b i j)) h3)
structure Ord(b:Nat->Nat->Bool)(n:Nat):Prop where
 tr:∀i j k,i<n->j<n->k<n->b i j=true->b j k=true->b i k=true
 asy:∀i j,i<n->j<n->b i j=true->b j i=false
 tot:∀i j,i<n->j<n->i≠j->b i j=true\/b j i=true
abbrev jf(p:Array Nat)(i:Nat):Nat:=p.getD i 0
structure rX(p:Array Nat)(n:Nat):Prop where
 perm:p.Perm (List.range n).toArray
theorem rX.size{p:Array Nat}{n:Nat}(h:rX p n):p.size=n:=by rw[h.perm.size_eq];simp
theorem rX.lt{p:Array Nat}{n:Nat}(h:rX p n)(hn:0<n)(i:Nat):jf p i<n:=by
 unfold jf
 rw[iM]
 by_cases hi:i<p.size
 ·rw[fM hi]
  have:=(h.perm.mem_iff (a:=p[i])).mp (Array.getElem_mem hi)
  simpa using this
 ·rw[Hl (by lia)]
  exact hn
theorem rX.ne{p:Array Nat}{n:Nat}(h:rX p n){i j:Nat}(hi:i<n)(hj:j<n)(d:i≠j):jf p i≠jf p j:=by
 have nd:p.toList.Nodup:=(Array.perm_iff_toList_perm.mp h.perm).nodup_iff.mpr (by simpa using List.nodup_range)
 have hs:=h.size
 intro e
 unfold jf at e
 rw[iM,iM,fM (by lia:i<p.size),fM (by lia:j<p.size)]at e
 have e':p.toList[i]'(by simpa using by lia)=p.toList[j]'(by simpa using by lia):=by simpa using e
 exact d ((Au nd).mp e')
def vM(b:Nat->Nat->Bool)(p:Array Nat)(m:Nat):Prop:=∀i,i+1<m->b (jf p i) (jf p (i+1))=true
def Dsc(b:Nat->Nat->Bool)(p:Array Nat)(m:Nat):Prop:=∀i,i+1<m->b (jf p (i+1)) (jf p i)=true
section
variable {b:Nat->Nat->Bool}{n:Nat}
theorem vM.all(O:Ord b n){p:Array Nat}(h:rX p n)(hn:0<n){m:Nat}(a:vM b p m)(hm:m<=n):∀d i,i+(d+1)<m->b (jf p i) (jf p (i+(d+1)))=true
 | 0,i,hi=>a i hi
 | d+1,i,hi=>O.tr _ _ _ (h.lt hn _) (h.lt hn _) (h.lt hn _) (vM.all O h hn a hm d i (by lia)) (a (i+(d+1)) hi)
theorem vM.lt(O:Ord b n){p:Array Nat}(h:rX p n)(hn:0<n){m:Nat}(a:vM b p m)(hm:m<=n){i j:Nat}(hij:i<j)(hj:j<m):b (jf p i) (jf p j)=true:=by
 have:=vM.all O h hn a hm (j-i-1) i (by lia)
 rwa [show i+(j-i-1+1)=j by lia]at this
theorem Jj(O:Ord b n){p:Array Nat}(h:rX p n)(hn:0<n):∀(f m:Nat),1<=m->m+f<=n->vM b p m->KG b n (λk=>m<=k/\k<=m+f/\vM b p k/\(k<m+f->b (jf p k) (jf p (k-1))=true)) (kas_asc p f m)
 | 0,m,_,_,a=>⟨bB _,bB _,a,λz=>absurd z (iJ _)⟩
 | f+1,m,h1,hf,a=>by
  refine⟨h.lt hn _,h.lt hn _,?_⟩
  show KG b n _ (if b (jf p m) (jf p (m-1))=true then _ else _)
  split
  ·rename_i hc
   exact⟨bB _,Nat.le_add_right _ _,a,λ_=>hc⟩
  ·rename_i hc
   have ht:=(O.tot _ _ (h.lt hn m) (h.lt hn (m-1)) (h.ne (by lia) (by lia) (by lia))).resolve_left hc
   refine KG.mono (λk ⟨k1,k2,k3,k4⟩=>⟨by lia,by lia,k3,λz=>k4 (by lia)⟩) (Jj O h hn f (m+1) (by lia) (by lia) λi hi=>?_)
   by_cases e:i+1<m
   ·exact a i e
   ·have:i=m-1:=by lia
    subst this
    rwa [show m-1+1=m by lia]
theorem Lg(O:Ord b n){p:Array Nat}(h:rX p n)(hn:0<n):∀(f m:Nat),1<=m->m+f<=n->Dsc b p m->KG b n (λr=>r.1=p/\r.2.2=0/\m<=r.2.1/\r.2.1<=m+f/\Dsc b p r.2.1) (kas_desc f p m 0)
 | 0,m,_,_,a=>⟨rfl,rfl,bB _,bB _,a⟩
 | f+1,m,h1,hf,a=>by
  refine⟨h.lt hn _,h.lt hn _,?_⟩
  show KG b n _ (if b (jf p m) (jf p (m-1))=true then (if 0 > 0 then _ else kas_desc f p (m+1) 0) else _)
  split
  ·rename_i hc
   rw[aB (by decide)]
   refine KG.mono (λr ⟨k0,k1,k2,k3,k4⟩=>⟨k0,k1,by lia,by lia,k4⟩) (Lg O h hn f (m+1) (by lia) (by lia) λi hi=>?_)
   by_cases e:i+1<m
   ·exact a i e
   ·have:i=m-1:=by lia
    subst this
    rwa [show m-1+1=m by lia]
  ·rename_i hc
   have ht:=(O.tot _ _ (h.lt hn m) (h.lt hn (m-1)) (h.ne (by lia) (by lia) (by lia))).resolve_left hc
   refine⟨h.lt hn _,h.lt hn _,?_⟩
   show KG b n _ (if b (jf p (m-1)) (jf p m)=true then _ else _)
   rw[aC ht]
   exact⟨rfl,rfl,bB _,Nat.le_add_right _ _,a⟩
theorem Mq{p:Array Nat}{m:Nat}(hm:m<=p.size){i:Nat}(hi:i<m):jf (kas_rev p 0 m) i=jf p (m-1-i):=by
 unfold jf kas_rev
 rw[iM,iM,getElem?_mirror_all hm,aC ⟨dc _,hi⟩]
 congr 2
 lia
theorem SJ(O:Ord b n){p:Array Nat}(h:rX p n)(hn:0<n){m:Nat}(h1:1<=m)(hm:m<=n)(d:Dsc b p m):KG b n (λr=>rX r.2 n/\1<=r.1/\r.1<=n/\vM b r.2 r.1) (kas_tail3 m n p):=by
 have h':rX (kas_rev p 0 m) n:=⟨(mirror_perm _ _ _ _).trans h.perm⟩
 refine KG.bind (KG.mono (λk ⟨k1,k2,k3,_⟩=>⟨h',by lia,by lia,k3⟩) (Jj O h' hn (n-m) m h1 (by lia) λi hi=>?_))
 rw[Mq (by rw[h.size];exact hm) (by lia),Mq (by rw[h.size];exact hm) (by lia)]
 have:=d (m-1-(i+1)) (by lia)
 rwa [show m-1-(i+1)+1=m-1-i by lia]at this
theorem SM(O:Ord b n){p:Array Nat}(h:rX p n)(hn:2<=n):KG b n (λr=>rX r.2 n/\1<=r.1/\r.1<=n/\vM b r.2 r.1) (kas_count n p):=by
 refine KG.bind (KG.mono (λm ⟨m1,m2,m3,m4⟩=>?_) (Jj O h (by lia) (n-1) 1 (bB _) (by lia) λi hi=>by lia))
 split
 ·exact⟨h,m1,by show m<=n;lia,m3⟩
 ·rename_i vp
  have jF:m<n:=by
   have:m≠n:=λe=>vp (by rw[e];exact ip n)
   lia
  split
  ·rename_i hgt
   refine⟨h.lt (by lia) _,h.lt (by lia) _,?_⟩
   show KG b n _ (if b (jf p 0) (jf p (m-1))=true then _ else _)
   rw[aC (vM.lt O h (by lia) m3 (by lia) (by lia:0<m-1) (by lia))]
   exact⟨h,m1,by show m<=n;lia,m3⟩
  ·rename_i hgt
   have e:m=1:=by lia
   subst e
   have hb:=m4 (by lia)
   refine KG.bind (KG.mono (λr ⟨k0,k1,k2,k3,k4⟩=>?_) (Lg O h (by lia) (n-2) 2 (by lia) (by lia) λi hi=>?_))
   ·have:i=0:=by lia
    subst this
    exact hb
   ·rw[k1,aB (by decide),k0]
    exact SJ O h (by lia) (by lia) (by lia) k4
theorem xF(O:Ord b n){p:Array Nat}(h:rX p n)(hn:0<n){k:Nat}(hk:k<n)(a:vM b p k):∀(f l r:Nat),l<=r->r<=k->r-l<=f->(∀i,i<l->b (jf p i) (jf p k)=true)->(∀i,r<=i->i<k->b (jf p k) (jf p i)=true)->
  KG b n (λl'=>l'<=k/\(∀i,i<l'->b (jf p i) (jf p k)=true)/\∀i,l'<=i->i<k->b (jf p k) (jf p i)=true) (kas_place p k f l r)
 | 0,l,r,h1,h2,h3,lo,hi=>⟨by lia,lo,λi Pl Oh=>hi i (by lia) Oh⟩
 | f+1,l,r,h1,h2,h3,lo,hi=>by
  unfold kas_place
  split
  ·exact⟨by lia,lo,λi Pl Oh=>hi i (by lia) Oh⟩
  ·refine⟨h.lt hn _,h.lt hn _,?_⟩
   show KG b n _ (if b (jf p k) (jf p ((l+r) / 2))=true then _ else _)
   split
   ·rename_i hc
    refine xF O h hn hk a f l ((l+r) / 2) (by lia) (by lia) (by lia) lo λi Pl Oh=>?_
    by_cases e:i=(l+r) / 2
    ·rw[e];exact hc
    ·exact O.tr _ _ _ (h.lt hn _) (h.lt hn _) (h.lt hn _) hc (vM.lt O h hn a (by lia) (by lia) Oh)
   ·rename_i hc
    have ht:=(O.tot _ _ (h.lt hn k) (h.lt hn ((l+r) / 2)) (h.ne (by lia) (by lia) (by lia))).resolve_left hc
    refine xF O h hn hk a f ((l+r) / 2+1) r (by lia) (by lia) (by lia) (λi Pl=>?_) hi
    by_cases e:i=(l+r) / 2
    ·rw[e];exact ht
    ·exact O.tr _ _ _ (h.lt hn _) (h.lt hn _) (h.lt hn _) (vM.lt O h hn a (by lia) (by lia:i<(l+r) / 2) (by lia)) ht
theorem Mr{p:Array Nat}{k l:Nat}(hk:k<p.size)(hl:l<=k)(i:Nat):jf (bubble p k (k-l)) i=if i=l then jf p k else if l<i/\i<=k then jf p (i-1) else jf p i:=by
 have g:∀(x:Array Nat) (j:Nat),jf x j=x[j]?.getD 0:=λx j=>iM
 have e:k-(k-l)=l:=by lia
 rw[g,g,g,g,getElem?_bubble hk (k-l) (by lia) i,e]
 by_cases c1:i=l
 ·rw[aC c1,aC c1]
 ·rw[aB c1,aB c1]
  by_cases c2:l<i/\i<=k
  ·rw[aC c2,aC c2]
  ·rw[aB c2,aB c2]
theorem SN(O:Ord b n)(hn:0<n):∀(f k:Nat) {p:Array Nat},rX p n->1<=k->k+f=n->vM b p k->KG b n (λp'=>rX p' n/\vM b p' n) (kas_bin f p k)
 | 0,k,p,h,_,e,a=>⟨h,by
  have:k=n:=by lia
  subst this
  exact a⟩
 | f+1,k,p,h,h1,e,a=>by
  refine KG.bind (KG.mono (λl ⟨l1,l2,l3⟩=>?_) (xF O h hn (by lia) a k 0 k (dc _) (bB _) (by lia) (λi hi=>absurd hi (Ao _)) λi hi hk=>by lia))
  refine SN O hn f (k+1) (p:=bubble p k (k-l)) ⟨(bubble_perm _ _ _).trans h.perm⟩ (by lia) (by lia) λi hi=>?_
  have hs:=h.size
  rw[Mr (by lia) l1,Mr (by lia) l1]
  by_cases c1:i=l
  ·rw[aC c1,aB (by lia),aC (by lia)]
   exact l3 _ (by lia) (by lia)
  ·rw[aB c1]
   by_cases c2:i+1=l
   ·rw[aB (by lia),aC c2]
    exact l2 i (by lia)
   ·rw[aB c2]
    by_cases c3:l<i
    ·rw[aC (by lia),aC (by lia)]
     have:=a (i-1) (by lia)
     rwa [show i-1+1=i+1-1 by lia]at this
    ·rw[aB (by lia),aB (by lia)]
     exact a i (by lia)
theorem W8(O:Ord b n)(hn:2<=n):KG b n (λp=>rX p n/\vM b p n) (kas_sort n):=by
 refine KG.bind (KG.mono (λr ⟨r1,r2,r3,r4⟩=>?_) (SM O (p:=(List.range n).toArray) ⟨Array.Perm.refl _⟩ hn))
 split
 ·rw[Nat.max_eq_left r2]
  exact SN O (by lia) (n-r.1) r.1 r1 r2 (by lia) r4
 ·have:r.1=n:=by lia
  exact⟨r1,by rw[<-this];exact r4⟩
end
section
variable {r:Keyed->Int}{a b o:Array Keyed}{x y k:Nat}
abbrev tot(a b:Array Keyed):List Keyed:=a.toList++b.toList
end
theorem ku{n:Nat}(h:n<=1000000):n<=sizeLine:=km (si h (by decide))
theorem BK{n:Nat}(h:n<=1000000):n<sizeLine:=si h (by decide)
end L2
end
section
namespace L2
open PySem PySem.Spec PySem.W PyProof.Rows Builtin
def cu(x y:List Int):Bool:=decide (x.length<y.length)||(decide (x.length=y.length)&&HT.lexLt x y)
theorem lh:∀x:List Int,HT.lexLt x x=false
 | []=>rfl
 | a::l=>by
  unfold HT.lexLt
  simp[lh l]
theorem zN:∀{x y:List Int},x.length=y.length->x≠y->HT.lexLt x y=true\/HT.lexLt y x=true
 | [],[],_,h=>absurd rfl h
 | a::l,b::m,hl,h=>by
  unfold HT.lexLt
  by_cases e:a=b
  ·subst e
   have:=zN (x:=l) (y:=m) (by simpa using hl) (λz=>h (by rw[z]))
   simpa using this
  ·simp only[e,fO e,decide_false,v9,Ai,gI,iH]
   lia
 | [],_::_,hl,_=>by simp at hl
 | _::_,[],hl,_=>by simp at hl
theorem zO:∀{x y:List Int},HT.lexLt x y=true->HT.lexLt y x=false
 | [],[],h=>by simp[HT.lexLt]at h
 | [],b::m,_=>rfl
 | a::l,[],h=>by simp[HT.lexLt]at h
 | a::l,b::m,h=>by
  unfold HT.lexLt at h ⊢
  by_cases e:a=b
  ·subst e
   simp at h ⊢
   exact zO h
  ·simp[e,fO e]at h ⊢
   lia
theorem xA:∀{x y z:List Int},HT.lexLt x y=true->HT.lexLt y z=true->HT.lexLt x z=true
 | [],[],_,h,_=>by simp[HT.lexLt]at h
 | [],b::m,[],_,h=>by simp[HT.lexLt]at h
 | [],b::m,c::n,_,_=>rfl
 | a::l,[],_,h,_=>by simp[HT.lexLt]at h
 | a::l,b::m,[],_,h=>by simp[HT.lexLt]at h
 | a::l,b::m,c::n,h1,h2=>by
  unfold HT.lexLt at h1 h2 ⊢
  by_cases e1:a=b
  ·subst e1
   by_cases e2:a=c
   ·subst e2
    simp at h1 h2 ⊢
    exact xA h1 h2
   ·simp[e2]at h1 h2 ⊢
    lia
  ·by_cases e2:b=c
   ·subst e2
    simp[e1]at h1 h2 ⊢
    lia
   ·by_cases e3:a=c
    ·subst e3
     simp[e1,e2]at h1 h2
     lia
    ·simp[e1,e2,e3]at h1 h2 ⊢
     lia
theorem zA{ss:List (List Int)}(nd:ss.Nodup):Ord (λi j=>cu (ss.getD i []) (ss.getD j [])) ss.length where
 tr:=λi j k hi hj hk h1 h2=>by
  unfold cu at *
  simp only[rZ,eB,gI]at *
  rcases h1 with h1 | ⟨h1,l1⟩ <;> rcases h2 with h2 | ⟨h2,l2⟩
  ·exact .inl (by lia)
  ·exact .inl (by lia)
  ·exact .inl (by lia)
  ·exact .inr ⟨by lia,xA l1 l2⟩
 asy:=λi j hi hj h=>by
  unfold cu at *
  simp only[rZ,eB,gI]at h
  rcases h with h | ⟨h,l⟩
  ·simp only[Bool.or_eq_false_iff,Bool.and_eq_false_imp,decide_eq_false_iff_not,gI]
   exact⟨by lia,λz=>by lia⟩
  ·simp only[Bool.or_eq_false_iff,Bool.and_eq_false_imp,decide_eq_false_iff_not,gI]
   exact⟨by lia,λ_=>zO l⟩
 tot:=λi j hi hj d=>by
  have ne:ss.getD i []≠ss.getD j []:=by
   rw[nF,nF,bP hi,bP hj]
   exact λe=>d ((Au nd).mp e)
  unfold cu
  simp only[rZ,eB,gI]
  rcases G' (ss.getD i []).length (ss.getD j []).length with h | h | h
  ·exact .inl (.inl h)
  ·rcases zN h ne with z | z
   ·exact .inl (.inr ⟨h,z⟩)
   ·exact .inr (.inr ⟨h.symm,z⟩)
  ·exact .inr (.inl h)
section
variable {P:Program}{w:World}{A:Around}{E:Value->Shared->Prop}{s:Shared}
theorem kE:∀{us:List Value} {ns:List Int},IntsAre us ns->ItemsAre (dM P w) (ns.map Sum.inl) us
 | _,_,.nil=>.nil
 | _,_,.cons n t r=>.cons (by show(n==n)=true;simp) (kE r)
theorem aAW{ns ms:List Int}:decide ((ns.map Sum.inl:List Key)=ms.map Sum.inl)=decide (ns=ms):=by
 rw[rY,gI,gI]
 refine⟨λe=>?_,λe=>by rw[e]⟩
 exact Az (λa b h=>t5 h) |>.mp e
theorem XT{p q a c:Addr}{lx ly:Int}{t u:Tok}{its CN:Array Value}{ns ms:List Int}{C:Bool->Shared->Prop}(hu:A.units<cLine)(hp:IsTup s.heap p #[.int lx t,.ref a])(hq:IsTup s.heap q #[.int ly u,.ref c])
  (ha:IsTup s.heap a its) (hc:IsTup s.heap c CN) (i1:IntsAre its.toList ns) (i2:IntsAre CN.toList ms) (hx:lx=ns.length) (hy:ly=ms.length) (h:C (cu ns ms) s):wpAny (model P w) A (keyLt' (tuples' true) (.ref p) (.ref q)) C E s:=by
 obtain⟨o1,e1,c1,n1,d1⟩:=id hp
 obtain⟨o2,e2,c2,n2,d2⟩:=id hq
 obtain⟨o3,e3,c3,n3,d3⟩:=id ha
 obtain⟨o4,e4,c4,n4,d4⟩:=id hc
 refine kat_lt e1 d1 e2 d2 ?_
 show KatLex P w A true _ C [(.int lx t,.int ly u),(.ref a,.ref c)] 0 s
 refine kat_cons ((dM P w).eqBool (a:=Sum.inl lx) (b:=Sum.inl ly) (by show(lx==lx)=true;simp) (by show(ly==ly)=true;simp) ?_)
 refine kat_go (λe=>?_) λe=>?_
 ·have el:lx=ly:=t5 (of_decide_eq_true e)
  refine kat_yes (kat_cons (wpAny_eqBool_tuple (knd:=dM P w) hu ⟨o3,its,n3,e3,c3,d3,kE i1⟩ ⟨o4,CN,n4,e4,c4,d4,kE i2⟩ ?_))
  rw[aAW]
  refine kat_go (λe'=>kat_yes (kat_nil ?_)) λe'=>kat_no ?_
  ·have:ns=ms:=of_decide_eq_true e'
   subst this
   have z:cu ns ns=false:=by unfold cu;rw[lh];simp
   rw[z]at h
   exact h
  ·refine kat_one _ _ (HT.Jc ha hc i1 i2 hu ?_)
   have z:cu ns ms=HT.lexLt ns ms:=by
    unfold cu
    rw[decide_eq_false (by lia:¬ns.length<ms.length),decide_eq_true (by lia:ns.length=ms.length)]
    simp
   rw[z]at h
   exact h
 ·have el:lx≠ly:=λz=>by rw[z]at e;simp at e
  refine kat_no (oneLt_int ?_)
  have z:cu ns ms=decide (lx<ly):=by
   unfold cu
   rw[decide_eq_false (by lia:¬ns.length=ms.length),v9,Ai,rY,gI,gI]
   lia
  rw[z]at h
  exact h
end
section
variable {P:Program}{w:World}{H H1:Hp}{h h1 h2:Heap}{e a:Addr}{o:HO}{fs:List Addr}
theorem Lp(x:gZ P w H h)(hn:H e=none)(k:∀b u,b≠e->h.get? b=some u->h2.get? b=some u):gZ P w H h2:=λa o ea=>
 (x a o ea).stay (λb u hb q=>k b u (λz=>by
  subst z
  rcases hb with rfl | hb
  ·rw[hn]at ea;cases ea
  ·rw[hn]at hb;cases hb) q) (λ_ q=>q) λ_ _ q=>q
theorem Qf(u:Un fs [] H H1 h h1)(he:h.objs.size<=e)(k:∀b u,b≠e->h1.get? b=some u->h2.get? b=some u):Un fs [] H H1 h h2:=
 have ne:∀b ob,h.get? b=some ob->b≠e:=λb ob q=>bI (cV (bC q) he)
 ⟨λb ob q n hb hx=>k _ _ (ne b ob q) (u.keep b ob q n hb hx),λb ob q n hb hx=>let ⟨sl,r⟩:=u.slot b ob q n hb hx;⟨sl,k _ _ (ne b ob q) r⟩,u.free,λb ob q hx=>let ⟨o',r⟩:=u.there b ob q hx;⟨o',k _ _ (ne b ob q) r⟩,u.tups,u.frzs,u.tbls⟩
theorem Xi(x:gZ P w H h)(hn:H a=none)(new:dE P w (upd H a o) h a o):gZ P w (upd H a o) h:=λb u eb=>by
 by_cases hb:b=a
 ·subst hb;rw[ah]at eb;cases eb;exact new
 ·rw[aj hb]at eb
  exact(x b u eb).stay (λ_ _ _ q=>q) (λc q=>by rw[aj (av q hn)];exact q) λc xs q=>by rw[aj (av q hn)];exact q
theorem Zy(u:Un fs [] H H1 h h1)(ha:h.objs.size<=a)(hn:H a=none):Un fs [] H (upd H1 a o) h h1:=
 have ne:∀b ob,h.get? b=some ob->b≠a:=λb ob q=>bI (cV (bC q) ha)
 ⟨u.keep,u.slot,λb ob q n hx=>by rw[aj (ne b ob q)];exact u.free b ob q n hx,u.there,λb xs q=>by rw[aj (av q hn)];exact u.tups b xs q,λb ob xs q=>by rw[aj (av q hn)];exact u.frzs b ob xs q,λb ps q=>by rw[aj (av q hn)];exact u.tbls b ps q⟩
end
def zt:Sp:=λvs H Q _=>∃a,vs=[.ref a]/\∃xs,H a=some (.tup xs)/\∀p,H p=none->Q (.ref p) (upd H p (.tup [.int xs.length,.ref a]))
section
variable {X:Cx}{pins:List (Addr×Obj)}{σ:St}{H:Hp}{s:Shared}
structure vX(X:Cx)(H:Hp)(s:Shared)(D S:Addr)(e1:Nat)(H':Hp)(s':Shared)(kA:Array Value):Prop where
 os:s'.os=s.os
 bare:AllBare s'.gens
 un:Un (nh X.stack) [] H H' s.heap s'.heap
 bx:gZ X.prog X.w H' s'.heap
 same:cp H H'
 nD:H' D=none
 nS:H' S=none
 oD:s'.heap.get? D=some (seqObj "list" #[] e1)
 oS:∃e,s'.heap.get? S=some (seqObj "list" kA e)
theorem vX.call{D S:Addr}{e1:Nat}{H':Hp}{s':Shared}{kA:Array Value}(I:Inv X pins σ H s)(m:vX X H s D S e1 H' s' kA)(hD:s.heap.objs.size<=D)(hS:s.heap.objs.size<=S){k:Nat}{f:Addr}{fd:FuncData}{pm:Str}(F:cq X.prog X.w X.K X.mg X.base eV k f fd [pm] zt)(hr:cv k X.A.in1.in1)
  (hb:Binds X.K fd [pm] []) {a:Addr} {xs:List V} (ha:H a=some (.tup xs)) {Q:Value->Shared->Prop} {E:Value->Shared->Prop}
  (q:∀p s2,H' p=none->vX X H s D S e1 (upd H' p (.tup [.int xs.length,.ref a])) s2 kA->Q (.ref p) s2):wpAny (model X.prog X.w) X.A.in1.in1 (call (.ref f) [.ref a]) Q E s':=by
 have I':Inv X pins σ H' s':=I.call' (ch:=[]) m.os m.un m.bx m.bare (λb z=>absurd z (by simp))
 have nfD:∀b,s.heap.objs.size<=b->b∉nh X.stack:=λb hb z=>by
  rcases bT.mp (I.nM b z) with z | z
  ·exact absurd (cV I.lt hb) (by rw[z];exact iJ _)
  ·exact I.aCt hb z
 refine jJ (ic (F.run X.A.in1.in1 X.stack s' H' ⟨[.ref a],[]⟩ [.ref a] [.ref a] (λv H2=>∃p,v=.ref p/\H' p=none/\H2=upd H' p (.tup [.int xs.length,.ref a])) (λ_ _ _=>False) hr I'.yW.in1.in1 (hb s' [.ref a] I'.qc rfl) (.cons rfl .nil) ⟨a,rfl,xs,m.same _ _ ha,λp hp=>⟨p,rfl,hp,rfl⟩⟩) λr s2 hq=>?_)
 cases r with
 | error e=>exact False.elim hq
 | ok fl=>
  cases fl with
  | next=>exact False.elim hq
  | brk=>exact False.elim hq
  | cont=>exact False.elim hq
  | ret u=>
   refine hide λgG hG=>?_
   obtain⟨v,H2,os,bare,un,bx,rv,p,rfl,hp,rfl⟩:=hq
   refine hG ?_
   cases rv
   obtain⟨eS,oS⟩:=m.oS
   exact q p s2 hp ⟨os.trans m.os,bare,m.un.trans un,bx,m.same.trans λb u eb=>by rw[aj (av eb hp)];exact eb,un.free D _ m.oD m.nD (by simp),un.free S _ oS m.nS (by simp),un.keep D _ m.oD m.nD (nfD D hD) (by simp),eS,un.keep S _ oS m.nS (nfD S hS) (by simp)⟩
theorem vX.push{D S:Addr}{e1:Nat}{H':Hp}{s':Shared}{kA:Array Value}(m:vX X H s D S e1 H' s' kA)(hS:s.heap.objs.size<=S)(Zf:D≠S)(g:Array Value->Array Value):vX X H s D S e1 H' { s' with heap:=s'.heap.update S (Obj.mapSeq g) } (g kA):=by
 obtain⟨eS,oS⟩:=m.oS
 have sb:=sj s'.heap S (Obj.mapSeq g)
 have k:∀b u,b≠S->s'.heap.get? b=some u->(s'.heap.update S (Obj.mapSeq g)).get? b=some u:=λb u nb q=>(sb.2 b nb).trans q
 exact⟨m.os,m.bare,Qf m.un hS k,Lp m.bx m.nS k,m.same,m.nD,m.nS,k _ _ Zf m.oD,_,get?_update_seq oS g⟩
def aBL(H':Hp)(as:List Addr)(ss:List (List Int))(n:Nat)(kA:Array Value):Prop:=kA.size=n/\∀(j:Nat) v,kA[j]?=some v->∃p a ns,v=.ref p/\as[j]?=some a/\ss[j]?=some ns/\H' p=some (.tup [.int (ns.length:Nat),.ref a])
theorem N8{D S:Addr}{e1:Nat}{H0:Hp}{s0:Shared}(I:Inv X pins σ H s)(m:vX X H s D S e1 H0 s0 #[])(hD:s.heap.objs.size<=D)(hS:s.heap.objs.size<=S)(Zf:D≠S){k:Nat}{f:Addr}{fd:FuncData}{pm:Str}(F:cq X.prog X.w X.K X.mg X.base eV k f fd [pm] zt)(hr:cv k X.A.in1.in1)
  (hb:Binds X.K fd [pm] []) {as:List Addr} {ss:List (List Int)} (ls:as.length=ss.length) (Zg:as.length<64) (hs:∀(i:Nat) a ns,as[i]?=some a->ss[i]?=some ns->H a=some (.tup (List.map V.int ns))) {Q:PUnit->Shared->Prop} {E:Value->Shared->Prop} {body:Value->PUnit->Sem (ForInStep PUnit)}
  (eI:∀a R s1,wpAny (model X.prog X.w) X.A.in1.in1 (call (.ref f) [.ref a]) (λv s2=>wpAny (model X.prog X.w) X.A.in1.in1 (Builtin.List.listUpdate (.ref S) (·.push v)) (λ_ s3=>R (.yield ⟨⟩) s3) E s2) (λ_ _=>False) s1->wpAny (model X.prog X.w) X.A.in1.in1 (body (.ref a) ⟨⟩) R E s1)
  (q:∀H' s' kA,vX X H s D S e1 H' s' kA->aBL H' as ss as.length kA->Q ⟨⟩ s'):wpAny (model X.prog X.w) X.A.in1.in1 (forIn (as.map Value.ref) PUnit.unit body) Q E s0:=by
 refine ksk_fold (λi s'=>∃H' kA,vX X H s D S e1 H' s' kA/\aBL H' as ss i kA) (as.map Value.ref) 0 s0 ⟨H0,#[],m,rfl,λj v e=>by simp at e⟩ (λj x s1 hx hJ=>?_) λs' hd=>?_
 ·refine hide λgG hG=>?_
  obtain⟨H',kA,m1,ks,kk⟩:=hJ
  refine hG ?_
  rw[cU]at hx
  cases ea:as[j]? with
  | none=>rw[ea]at hx;cases hx
  | some a=>
   rw[ea]at hx
   cases hx
   have hj:j<as.length:=(dO.mp ea).1
   have es:ss[j]?=some ss[j]:=bP (by lia)
   refine eI a _ s1 (m1.call I hD hS F hr hb (hs j a _ ea es) λp s2 hp m2=>?_)
   obtain⟨eS,oS⟩:=m2.oS
   have z1:kA.size<=sizeLine:=ku (by lia)
   have z2:(kA.push (.ref p)).size<=sizeLine:=by rw[Array.size_push];exact ku (by lia)
   refine listUpdate_at (xs:=kA) oS rfl ⟨rfl,_,kA.push (.ref p),m2.push hS Zf (·.push (.ref p)),by rw[Array.size_push,ks],λi v ev=>?_⟩ z1 (Nat.le_succ_of_le z2)
   by_cases hi:i<kA.size
   ·rw[Array.getElem?_push_lt hi]at ev
    obtain⟨p',a',WX,Ub,e2',e3',e4'⟩:=kk i v (by rw[fM hi];exact ev)
    exact⟨p',a',WX,Ub,e2',e3',by rw[aj (av e4' hp)];exact e4'⟩
   ·have zV:i=kA.size:=by
     have:=(za.mp ev).1
     rw[Array.size_push]at this
     lia
    subst zV
    rw[Array.getElem?_push_size]at ev
    cases ev
    rw[ks,Nat.zero_add]
    exact⟨p,a,_,rfl,ea,es,by rw[ah,aQ]⟩
 ·refine hide λgG hG=>?_
  obtain⟨H',kA,m1,ks,kk⟩:=hd
  refine hG ?_
  rw[aQ,Nat.zero_add]at ks
  exact q H' s' kA m1 ⟨ks,kk⟩
end
section
variable {prog:Program}{w:World}{A:Around}{E:Value->Shared->Prop}{s:Shared}{κ:SortKind}
theorem SX{ks vs:List Value}{b:Nat->Nat->Bool}(hl:ks.length=vs.length)(O:Ord b vs.length)(hn:2<=vs.length)(Zg:vs.length<64)
  (hc:∀i j (Q:Bool->Shared->Prop),i<vs.length->j<vs.length->Q (b i j) s->wpAny (model prog w) A (keyLt' κ (kas_item (ks.toArray.zip vs.toArray) i).1 (kas_item (ks.toArray.zip vs.toArray) j).1) Q (λ_ _=>False) s) :
  wpAny (model prog w) A (sortRuns'.run (SortSt.mk' κ (ks.toArray.zip vs.toArray) #[] 7 none)) (λr s3=>s3=s/\∃p,rX p vs.length/\vM b p vs.length/\arrOf r.2=p.map (kas_item (ks.toArray.zip vs.toArray))/\failedOf r.2=none) E s:=by
 have g:(kas_sort vs.length).kasWp (kas_ask prog w A κ ks) (λp s''=>(rX p vs.length/\vM b p vs.length)/\s''=s) s:=
  KG.wp (λi j C hi hj hC=>by rw[kat_ask_eq hl];exact hc i j C hi hj hC) (λp hp=>⟨hp,rfl⟩) (W8 O hn)
 exact kat_run (Q:=λBz s'=>s'=s/\∃p,rX p vs.length/\vM b p vs.length/\arrOf Bz=p.map (kas_item (ks.toArray.zip vs.toArray))/\failedOf Bz=none) hl hn Zg (λp' Bz s' _ a2 a3 a4=>⟨a4.2,p',a4.1.1,a4.1.2,a2,a3⟩) g
end
section
variable {P:Program}{w:World}{H':Hp}{h:Heap}{p a:Addr}
theorem Lh{l:Int}(bx:gZ P w H' h)(e:H' p=some (.tup [.int l,.ref a])):∃t,IsTup h p #[.int l t,.ref a]:=by
 refine hide λgG hG=>?_
 obtain⟨_,its,r,ht⟩:=bx p _ e
 refine hG ?_
 cases r with
 | cons r1 r2=>
  obtain⟨t,rfl⟩:=r1
  cases r2 with
  | cons r3 r4=>
   cases r4
   cases r3
   exact⟨t,ht⟩
theorem VG{ns:List Int}(bx:gZ P w H' h)(e:H' a=some (.tup (List.map V.int ns))):∃its,IsTup h a its/\IntsAre its.toList ns:=by
 refine hide λgG hG=>?_
 obtain⟨_,its,r,ht⟩:=bx a _ e
 refine hG ?_
 exact⟨_,ht,intsAre_of r⟩
end
section
variable {X:Cx}{pins:List (Addr×Obj)}{σ:St}{H:Hp}{s:Shared}
structure Fin(X:Cx)(H:Hp)(s:Shared)(D:Addr)(H':Hp)(s':Shared)(bs:List Addr):Prop where
 os:s'.os=s.os
 bare:AllBare s'.gens
 un:Un (nh X.stack) [] H H' s.heap s'.heap
 bx:gZ X.prog X.w H' s'.heap
 same:cp H H'
 nD:H' D=none
 oD:∃c,s'.heap.get? D=some (seqObj "list" (bs.map Value.ref).toArray c)
theorem zy{D S:Addr}{e1:Nat}{H':Hp}{s':Shared}{kA:Array Value}{bs:List Addr}{st:SortSt}{Pq:PySem.Fin->Shared->Prop}{E:Value->Shared->Prop}(m:vX X H s D S e1 H' s' kA)(hD:s.heap.objs.size<=D)(hS:s.heap.objs.size<=S)(Zf:D≠S)(hk:kA.size<=100000)(hb:bs.length<=100000)
  (aFZ:(arrOf st).map (·.2)=(bs.map Value.ref).toArray) (hf:failedOf st=none) (q:∀s2,Fin X H s D H' s2 bs->Pq (.done (.ret .none)) s2):wpAny (model X.prog X.w) X.A.in1.in1 (ksk_tail D false e1 (.ref S) st) Pq E s':=by
 obtain⟨eS,oS⟩:=m.oS
 have m1:=m.push hS Zf (λ_=>#[])
 have sb:=sj (s'.heap.update S (Obj.mapSeq λ_=>(#[]:Array Value))) D (Obj.mapSeq λ_=>(bs.map Value.ref).toArray)
 have k:∀b u,b≠D->(s'.heap.update S (Obj.mapSeq λ_=>(#[]:Array Value))).get? b=some u->((s'.heap.update S (Obj.mapSeq λ_=>(#[]:Array Value))).update D (Obj.mapSeq λ_=>(bs.map Value.ref).toArray)).get? b=some u:=λb u nb q=>(sb.2 b nb).trans q
 unfold ksk_tail
 dsimp only
 refine ay (listUpdate_at (xs:=kA) oS rfl ?_ (ku (by lia)) (dc _))
 refine ay (wpAny_letGo ?_)
 refine ay (seqEpoch_at m1.oD rfl ?_)
 rw[aFZ]
 refine ay (listUpdate_at m1.oD rfl ?_ (dc _) (by
  have z:((bs.map Value.ref).toArray).size<=sizeLine:=by rw[cO,aQ];exact ku (by lia)
  first | exact z | exact Nat.le_succ_of_le z))
 rw[hf]
 simp only[bne_self_eq_false,sg,iH]
 exact aJ (q _ ⟨m1.os,m1.bare,Qf m1.un hD k,Lp m1.bx m1.nD k,m1.same,m1.nD,_,get?_update_seq m1.oD λ_=>(bs.map Value.ref).toArray⟩)
theorem xG{h:Heap}:∀{l:List Value},(∀v∈l,∃p a,∃k:Int,∃t,v=.ref p/\IsTup h p #[.int k t,.ref a])->∃fs,KatTups h l fs/\fs.length=l.length/\∀f∈fs,∃(k:Int) (t:Tok),f=.int k t
 | [],_=>⟨[],.nil,rfl,λ_ z=>nomatch z⟩
 | v::l,hv=>by
  refine hide λgG hG=>?_
  obtain⟨p,a,k,t,rfl,o,e,c,n,d⟩:=hv v dD
  obtain⟨fs,r1,r2,r3⟩:=xG (l:=l) λu hu=>hv u (dW _ hu)
  refine hG ?_
  exact⟨.int k t::fs,.cons e c d rfl r1,by rw[fh,fh,r2],λf hf=>by
   rcases bT.mp hf with rfl | hf
   ·exact⟨k,t,rfl⟩
   ·exact r3 f hf⟩
def setB(ss:List (List Int))(i j:Nat):Bool:=cu (ss.getD i []) (ss.getD j [])
theorem getD_some{α:Type}{l:List α}{i:Nat}{x d:α}(h:l[i]?=some x):l.getD i d=x:=by rw[nF,h];rfl
theorem QJ{D S:Addr}{e1:Nat}{H':Hp}{s':Shared}{kA:Array Value}{as:List Addr}{ss:List (List Int)}{Pq:PySem.Fin->Shared->Prop}{E:Value->Shared->Prop}(m:vX X H s D S e1 H' s' kA)(hu:X.A.in1.in1.units<cLine)(hD:s.heap.objs.size<=D)(hS:s.heap.objs.size<=S)(Zf:D≠S)
  (kk:aBL H' as ss as.length kA) (ls:as.length=ss.length) (Zg:as.length<64) (nd:ss.Nodup) (hs:∀(i:Nat) a ns,as[i]?=some a->ss[i]?=some ns->H a=some (.tup (List.map V.int ns)))
  (q:∀s2 p,rX p as.length->vM (setB ss) p as.length->Fin X H s D H' s2 (p.toList.map λi=>as.getD i 0)->Pq (.done (.ret .none)) s2):wpAny (model X.prog X.w) X.A.in1.in1 (ksk_end D false (as.map Value.ref).toArray e1 (.ref S) kA) Pq E s':=by
 obtain⟨ks,kv⟩:=kk
 have hzs:(kA.zip (as.map Value.ref).toArray).size=as.length:=by rw[Array.size_zip,ks,cO,aQ,Nat.min_self]
 have itm:∀i,i<as.length->∃p,kas_item (kA.zip (as.map Value.ref).toArray) i=(.ref p,.ref (as.getD i 0))/\∃a ns,as[i]?=some a/\ss[i]?=some ns/\H' p=some (.tup [.int (ns.length:Nat),.ref a]):=λi hi=>by
  have hi1:i<kA.size:=by lia
  obtain⟨p,a,ns,e1,e2,e3,e4⟩:=kv i kA[i] (fM hi1)
  refine⟨p,?_,a,ns,e2,e3,e4⟩
  unfold kas_item
  rw[iM,fM (by rw[hzs];exact hi),Option.getD_some,Array.getElem_zip,e1,getD_some e2]
  congr 1
  have:(as.map Value.ref)[i]?=some (.ref a):=by rw[cU,e2];rfl
  have h2:=dO.mp this
  simpa using h2.2
 have aCl:∀p:Array Nat,rX p as.length->(p.map (kas_item (kA.zip (as.map Value.ref).toArray))).map (·.2)=((p.toList.map λi=>as.getD i 0).map Value.ref).toArray:=λp hp=>by
  apply Array.ext'
  rw[Array.toList_map,Array.toList_map,Bb,iI,iI]
  refine v3 λi hi=>?_
  have jF:i<as.length:=by
   have:=(hp.perm.mem_iff (a:=i)).mp (by simpa using hi)
   simpa using this
  obtain⟨p',e,_⟩:=itm i jF
  show(kas_item _ i).2=_
  rw[e]
  rfl
 have aDS:∀p:Array Nat,rX p as.length->(p.toList.map λi=>as.getD i 0).length<=100000:=λp hp=>by rw[aQ,dN,hp.size];lia
 unfold ksk_end
 dsimp only
 simp only[sg,iH]
 by_cases h2:(as.map Value.ref).toArray.size<2
 ·rw[aC h2,aC h2]
  refine ay (aJ ?_)
  rw[StateT.run_pure]
  refine ay (aJ ?_)
  dsimp only
  have hp:rX (List.toArray (List.range as.length)) as.length:=⟨Array.Perm.refl _⟩
  rw[cO,aQ]at h2
  refine zy (st:=SortSt.mk' general' (kA.zip (as.map Value.ref).toArray) #[] 7 none) m hD hS Zf (by lia) (aDS _ hp) ?_ rfl λs2 f=>q s2 _ hp (λi hi=>by lia) f
  rw[<-aCl _ hp]
  have:(List.toArray (List.range as.length)).map (kas_item (kA.zip (as.map Value.ref).toArray))=kA.zip (as.map Value.ref).toArray:=by
   have:=kas_range (kA.zip (as.map Value.ref).toArray)
   rwa [hzs]at this
  rw[this]
 ·rw[aB h2,aB h2]
  rw[cO,aQ]at h2
  have h2':2<=as.length:=by lia
  have tups:∀v∈kA.toList,∃p a,∃k:Int,∃t,v=.ref p/\IsTup s'.heap p #[.int k t,.ref a]:=λv hv=>by
   obtain⟨i,hi,rfl⟩:=Hh.mp hv
   obtain⟨p,a,ns,e1,e2,e3,e4⟩:=kv i (kA.toList[i]) (by rw[<-sx];exact bP hi)
   obtain⟨t,ht⟩:=Lh m.bx e4
   exact⟨p,a,_,t,e1,ht⟩
  refine hide λgG hG=>?_
  obtain⟨fs,kt,lf,hf⟩:=xG tups
  refine hG ?_
  have kind:wpAny (model X.prog X.w) X.A.in1.in1 (keyKind' kA) (λκ s2=>κ=tuples' true/\s2=s') E s':=by
   have:=kat_kind (M:=model X.prog X.w) (A:=X.A.in1.in1) (E:=E) (s:=s') (T:=Value.type "int") (Q:=λκ s2=>κ=tuples' true/\s2=s') kt (by rw[lf,dN];lia) (λv hv=>by
    obtain⟨k,t,rfl⟩:=hf v hv
    exact .now) (by decide) ⟨by congr 1,rfl⟩
   rwa [Array.toArray_toList]at this
  refine ay (dk kind (λκ s2 ⟨e1,e2⟩=>?_) λ_ _ x=>x)
  subst e1 e2
  have hn:0<as.length:=by lia
  have obj:∀i,i<as.length->∃p a t its,∃k:Int,(kas_item (kA.zip (as.map Value.ref).toArray) i).1=.ref p/\IsTup s2.heap p #[.int k t,.ref a]/\IsTup s2.heap a its/\IntsAre its.toList (ss.getD i [])/\k=(ss.getD i []).length:=λi hi=>by
   refine hide λgG hG=>?_
   obtain⟨p,e,a,ns,e2,e3,e4⟩:=itm i hi
   obtain⟨t,ht⟩:=Lh m.bx e4
   obtain⟨its,ha,hia⟩:=VG m.bx (m.same _ _ (hs i a ns e2 e3))
   refine hG ?_
   exact⟨p,a,t,its,_,by rw[e],ht,ha,by rw[getD_some e3];exact hia,by rw[getD_some e3]⟩
  have ssD:∀i,i<as.length->ss[i]?=some (ss.getD i []):=λi hi=>by
   rw[nF,bP (by lia)];rfl
  have ek:kA.toList.toArray=kA:=by simp
  have run:=SX (prog:=X.prog) (w:=X.w) (A:=X.A.in1.in1) (E:=E) (κ:=tuples' true) (ks:=kA.toList) (vs:=as.map Value.ref) (b:=setB ss) (s:=s2) (by rw[dN,aQ];exact ks)
   (by have:=zA nd;rw[<-ls]at this;rw[aQ];exact this) (by rw[aQ];exact h2') (by rw[aQ];exact Zg) (λi j C hi hj hC=>by
    rw[aQ]at hi hj
    refine hide λgG hG=>?_
    obtain⟨p,a,t,its,k,e1,t1,t2,t3,t4⟩:=obj i hi
    obtain⟨p',a',t',its',k',Ub,t1',t2',t3',t4'⟩:=obj j hj
    refine hG ?_
    rw[ek,e1,Ub]
    exact XT hu t1 t1' t2 t2' t3 t3' t4 t4' hC)
  rw[aQ,ek]at run
  refine ay (dk run (λr s3 ⟨e,p,hp,ha,e1,e2⟩=>?_) λ_ _ x=>x)
  obtain⟨⟨⟩,Bz⟩:=r
  subst e
  dsimp only
  exact zy m hD hS Zf (by lia) (aDS _ hp) (by rw[e1];exact aCl p hp) e2 λs4 f=>q s4 p hp ha f
end
theorem DS:∀l:List Addr,Vals (List.map V.ref l) (List.map Value.ref l)
 | []=>.nil
 | a::l=>.cons rfl (DS l)
section
variable {X:Cx}{pins:List (Addr×Obj)}{σ:St}{H:Hp}{s:Shared}
theorem HR{k:Nat}{f:Addr}{fd:FuncData}{pm:Str}{x:Value}{as:List Addr}{ss:List (List Int)}{Q:VK}(I:Inv X pins σ H s)(F:cq X.prog X.w X.K X.mg X.base eV k f fd [pm] zt)(hr:cv k X.A.in1.in1)(hb:Binds X.K fd [pm] [])
  (ls:as.length=ss.length) (Zg:as.length<64) (nd:ss.Nodup) (hs:∀(i:Nat) a ns,as[i]?=some a->ss[i]?=some ns->H a=some (.tup (List.map V.int ns)))
  (hc:∀(Q':List Value->Shared->Prop),(∀s',(∀b o,s.heap.get? b=some o->s'.heap.get? b=some o)->s.heap.objs.size<=s'.heap.objs.size->s'.gens=s.gens->s'.os=s.os->Q' (as.map Value.ref) s')->wpAny (model X.prog X.w) X.A.in1 (collect x) Q' X.xe s)
  (q:∀D H' p,cp H H'->H D=none->rX p as.length->vM (setB ss) p as.length->H' D=some (.lst (List.map V.ref (p.toList.map λi=>as.getD i 0)))->Q (.ref D) H') :
  wpAny (model X.prog X.w) X.A (PySem.call (.builtin "sorted") [x] [(Str.ofString "key",.ref f)]) (EP X pins σ Q) X.xe s:=by
 refine call_function_entry_kw kind_sorted plain_sorted entry_sorted (ksk_s1 _ _) ?_
 unfold Builtin.«sorted»
 refine ay (m:=checkCount "sorted" 1 1 _) (aJ ?_)
 refine ay (hc _ λs1 k1 z1 g1 o1=>?_)
 refine ay (wpAny_newList ?_ (by rw[aQ];exact ku (by lia)))
 have U9:(s1.heap.push (seqObj "list" (as.map Value.ref).toArray 0)).get? s1.heap.objs.size=some (seqObj "list" (as.map Value.ref).toArray 0):=cH _ rfl
 refine ay (jh (wpAny_call_entry_kw slot_list_sort ⟨_,U9,rfl⟩ entry_list_sort ?body (ksk_l1 _ _)))
 case body=>
  show wpAny (model X.prog X.w) X.A.in1.in1 (Builtin.«list.sort» ⟨[.ref s1.heap.objs.size],[(Str.ofString "key",.ref f)]⟩) _ _ _
  rw[ksk_t1]
  unfold ksk_tree
  have lv:(as.map Value.ref).toArray.size<=sizeLine:=by rw[cO,aQ];exact ku (by lia)
  obtain⟨e1,aCS⟩:∃e1,((s1.heap.push (seqObj "list" (as.map Value.ref).toArray 0)).update s1.heap.objs.size (Obj.mapSeq λ_=>(#[]:Array Value))).get? s1.heap.objs.size=some (seqObj "list" #[] e1):=⟨_,get?_update_seq U9 λ_=>#[]⟩
  have sb:=sj (s1.heap.push (seqObj "list" (as.map Value.ref).toArray 0)) s1.heap.objs.size (Obj.mapSeq λ_=>(#[]:Array Value))
  have aB8:((s1.heap.push (seqObj "list" (as.map Value.ref).toArray 0)).update s1.heap.objs.size (Obj.mapSeq λ_=>(#[]:Array Value))).objs.size=s1.heap.objs.size+1:=by rw[Heap.size_update,size_push']
  refine ay (listItems_at U9 rfl ?_)
  refine ay (listUpdate_at U9 rfl ?_ lv (dc _))
  refine ay (seqEpoch_at aCS rfl ?_)
  refine ay (wpAny_newTuple ?_ (by rw[Bb,aQ];exact ku (by lia)))
  refine ay (wpAny_newList ?_ (dc _))
  refine jh ?_
  have Yw:(((s1.heap.push (seqObj "list" (as.map Value.ref).toArray 0)).update s1.heap.objs.size (Obj.mapSeq λ_=>(#[]:Array Value))).push (seqObj "tuple" (as.map Value.ref).toArray 0)).objs.size=s1.heap.objs.size+2:=by rw[size_push',aB8]
  have keep:∀b o,s.heap.get? b=some o->((((s1.heap.push (seqObj "list" (as.map Value.ref).toArray 0)).update s1.heap.objs.size (Obj.mapSeq λ_=>(#[]:Array Value))).push (seqObj "tuple" (as.map Value.ref).toArray 0)).push (seqObj "list" #[] 0)).get? b=some o:=λb o e=>by
   have lb:b<s1.heap.objs.size:=cV (bC e) z1
   exact bR _ (bR _ ((sb.2 b (bI lb)).trans (bR _ (k1 b o e))))
  have m0:vX X H s s1.heap.objs.size (s1.heap.objs.size+2) e1 H { s1 with heap:=(((s1.heap.push (seqObj "list" (as.map Value.ref).toArray 0)).update s1.heap.objs.size (Obj.mapSeq λ_=>(#[]:Array Value))).push (seqObj "tuple" (as.map Value.ref).toArray 0)).push (seqObj "list" #[] 0) } #[]:=
   ⟨o1,by show AllBare s1.gens;rw[g1];exact I.bare,Un.kept keep,I.bx.kept keep,cp.refl H,I.bx.fresh z1,I.bx.fresh (by lia),bR _ (bR _ aCS),0,by rw[<-Yw];exact cH _ rfl⟩
  unfold ksk_rest
  refine ay (lN ?_)
  rw[<-Array.forIn_toList,Bb]
  show wpAny (model X.prog X.w) X.A.in1.in1 _ _ X.xe { s1 with heap:=(((s1.heap.push (seqObj "list" (as.map Value.ref).toArray 0)).update s1.heap.objs.size (Obj.mapSeq λ_=>(#[]:Array Value))).push (seqObj "tuple" (as.map Value.ref).toArray 0)).push (seqObj "list" #[] 0) }
  rw[Yw]
  refine ay (N8 I m0 z1 (by lia:s.heap.objs.size<=s1.heap.objs.size+2) (by lia:s1.heap.objs.size≠s1.heap.objs.size+2) F hr hb ls Zg hs (λa R s2 hw=>?_) λH' s' kA m kk=>?_)
  ·refine ay (lO (dk hw (λv s3 h3=>?_) λ_ _ hF=>hF.elim))
   dsimp only
   exact ay (dk h3 (λ_ s4 h4=>aJ h4) λ_ _ x=>x)
  ·obtain⟨eS,oS⟩:=m.oS
   refine ay (listItems_at oS rfl ?_)
   refine QJ m hr.jn z1 (by lia:s.heap.objs.size<=s1.heap.objs.size+2) (by lia:s1.heap.objs.size≠s1.heap.objs.size+2) kk ls Zg nd hs λs2 p hp ha fin=>⟨_,rfl,?_⟩
   obtain⟨c,oD⟩:=fin.oD
   have hn:H s1.heap.objs.size=none:=I.bx.fresh z1
   have bl:(List.map V.ref (p.toList.map λi=>as.getD i 0)).length<=sizeLine:=by rw[aQ,aQ,dN,hp.size];exact ku (by lia)
   have I2:Inv X pins σ (upd H' s1.heap.objs.size (.lst (List.map V.ref (p.toList.map λi=>as.getD i 0)))) s2:=I.call' (ch:=[]) fin.os (Zy fin.un z1 hn) (Xi fin.bx fin.nD ⟨bl,_,c,DS _,oD⟩) fin.bare (λb z=>absurd z (by simp))
   exact aJ ⟨_,rfl,.ref s1.heap.objs.size,_,I2,rfl,q _ _ p (fin.same.trans λb u eb=>by rw[aj (av eb fin.nD)];exact eb) hn hp ha ah⟩
end
def qj(h:Heap)(d:Addr)(es:Array DictEntry)(ep:Nat):Prop:=∃o,h.get? d=some o/\o.ExactDict/\o.data=.dict es ep
section
variable {P:Program}{w:World}{A:Around}{E:Value->Shared->Prop}{s:Shared}{d it:Addr}{es:Array DictEntry}{ep i:Nat}
theorem qj.ty(r:qj s.heap d es ep):s.TypeIs (.ref d) "dict":=let ⟨o,e,c,_⟩:=r;⟨o,e,c.1⟩
theorem qj.on{h h':Heap}(r:qj h d es ep)(k:∀o,h.get? d=some o->h'.get? d=some o):qj h' d es ep:=let ⟨o,e,c⟩:=r;⟨o,k _ e,c⟩
theorem Q8{Q:Value->Shared->Prop}(lo:(d==sysModules)=false)(r:qj s.heap d es ep)(q:Q (.ref s.heap.objs.size) { s with heap:=s.heap.push { cls:=.type "dict_keyiterator",data:=.fields #[.ref d,.int 0 0,.int es.size 0,.int ep 0] } }) :
  wpAny (model P w) A (pyIter (.ref d)) Q E s:=by
 have ty:=r.ty
 refine hide λgG hG=>?_
 obtain⟨o,ho,hc,Xm⟩:=r
 refine hG ?_
 refine wpAny_pyIter_slot ty PySem.F.slot_dict_iter (ji PySem.F.slot_dict_iter ty PySem.F.entry_dict_iter ?_ (PySem.F.args_dict_iter_1 _))
 unfold Builtin.«dict.__iter__»
 refine ay ?_
 unfold Builtin.Dict.dictSlotNone
 refine ay (wpAny_notOrdered_dict ty (aJ ?_))
 refine(?_:wpAny (model P w) _ (Builtin.Dict.showsAll d >>= _) _ _ s)
 unfold Builtin.Dict.showsAll
 rw[aB (λz=>by rw[lo]at z;cases z)]
 refine ay (aJ (ay (wpAny_dictEntries ho Xm (ay (wpAny_dictEpoch ho Xm ?_)))))
 refine ay (eZ (aJ ⟨_,rfl,"dict_keyiterator",_,⟨_,cH _ rfl,rfl⟩,DK.lookup,?_⟩))
 exact q
theorem Q9{Q:Option Value->Shared->Prop}(ki:s.heap.IsKeyIter it d i es.size ep)(r:qj s.heap d es ep)(hi:i<es.size)
  (q:∀h',h'.IsKeyIter it d (i+1) es.size ep->Heap.SameBut it s.heap h'->Q (some es[i].key) { s with heap:=h' }):wpAny (model P w) A (pyNext (.ref it)) Q E s:=by
 refine hide λgG hG=>?_
 obtain⟨o,ho,hc,hd⟩:=id ki
 obtain⟨od,hod,_,hdd⟩:=id r
 refine hG ?_
 have ty:=ki.typeIs
 unfold pyNext
 refine ay (lO (pU (name:=Str.ofString "__next__") ty DK (ji DK ty PX ?_ (P0 _))))
 refine ay (aJ (ay (ay ?_)))
 first | refine ay (Bj ty (aJ (ay (t7 ho hd ?_)))) | refine ay (Bg ty (aJ (ay (t7 ho hd ?_))))
 rw[show Builtin.Dict_items.ownsTuple "dict_keyiterator" = false by decide]
 simp only[sg,iH]
 refine(?_:wpAny (model P w) _ (if (Value.ref d==Value.none)=true then _ else _) _ _ s)
 rw[aB (λz=>by cases z)]
 refine ay (aJ (ay (wpAny_dictEntries hod hdd ?_)))
 rw[aB (by simp)]
 refine ay (aJ (ay (wpAny_dictEpoch hod hdd ?_)))
 rw[aB (by simp)]
 refine aJ ?_
 simp only[show ¬((i:Int)<0) from by omega,iH,pR,fM hi]
 refine ay ?_
 first | refine ay (Bj ty (aJ (ay (Hb ty ?_)))) | refine ay (Bg ty (aJ (ay (Hb ty ?_))))
 refine(?_:wpAny (model P w) _ (setField (.ref it) 1 (rawInt ((i:Int)+1)) >>= _) _ _ s)
 refine ay (qp ho hd (by simp) ?_)
 have ki':(s.heap.update it (Obj.mapFields (·.setIfInBounds 1 (rawInt ((i:Int)+1))))).IsKeyIter it d (i+1) es.size ep:=by
  refine⟨_,mO _ ho (wu (uW hd _)),(Obj.cls_mapFields ..).trans hc,?_⟩
  rw[uW hd]
  simp[rawInt]
 refine ay (jh (ay (Hb (s:={ s with heap:=s.heap.update it (Obj.mapFields (·.setIfInBounds 1 (rawInt ((i:Int)+1)))) }) ki'.typeIs ?_)))
 exact aJ (aJ ⟨_,rfl,aJ (q _ ki' (sj ..))⟩)
theorem V0{Q:Option Value->Shared->Prop}(hh:A.handled=none)(ki:s.heap.IsKeyIter it d i es.size ep)(r:qj s.heap d es ep)(hi:es.size<=i)
  (q:∀h',Heap.ExtBut it s.heap h'->Q none { s with heap:=h' }):wpAny (model P w) A (pyNext (.ref it)) Q E s:=by
 refine hide λgG hG=>?_
 obtain⟨o,ho,hc,hd⟩:=id ki
 obtain⟨od,hod,_,hdd⟩:=id r
 refine hG ?_
 have ty:=ki.typeIs
 unfold pyNext
 refine ay (lO (pU (name:=Str.ofString "__next__") ty DK (ji DK ty PX ?_ (P0 _))))
 refine ay (aJ (ay (ay ?_)))
 first | refine ay (Bj ty (aJ (ay (t7 ho hd ?_)))) | refine ay (Bg ty (aJ (ay (t7 ho hd ?_))))
 rw[show Builtin.Dict_items.ownsTuple "dict_keyiterator" = false by decide]
 simp only[sg,iH]
 refine(?_:wpAny (model P w) _ (if (Value.ref d==Value.none)=true then _ else _) _ _ s)
 rw[aB (λz=>by cases z)]
 refine ay (aJ (ay (wpAny_dictEntries hod hdd ?_)))
 rw[aB (by simp)]
 refine ay (aJ (ay (wpAny_dictEpoch hod hdd ?_)))
 rw[aB (by simp)]
 refine aJ ?_
 simp only[show ¬((i:Int)<0) from by omega,iH,pR,Hl hi]
 refine ay ?_
 first | refine ay (Bj ty (aJ ?_)) | refine ay (Bg ty (aJ ?_))
 refine(?_:wpAny (model P w) _ (setField (.ref it) 0 .none >>= _) _ _ s)
 refine ay (qp ho hd (by simp) ?_)
 refine(?_:wpAny (model P w) _ (newExc (.type "StopIteration") [] >>= _) _ _ _)
 refine ay ?_
 simp only[newExc,newTuple]
 refine ay (eZ ?_ (by size_fits))
 refine ay (m:=firstArgMember _ _) (kl (a:=Value.none)
  (by first | rfl | (simp only[firstArgMember];rfl)) ?_)
 refine eZ ?_ (by size_fits)
 simp only[raiseNew]
 refine ay (wpAny_handled ?_)
 rw[show A.in1.handled=none from hh]
 refine ay (aJ (wpAny_throw ?_))
 refine ay (uV (T:="StopIteration") (b:=true)
  ⟨_,cH _ rfl,rfl⟩ qo ?_)
 exact aJ (q _ (((sj ..).extBut.push _).push _))
theorem Ny(hh:A.handled=none)(ne:d≠it):Walks P w A it [it,d] [it] es.size (λj v=>(es[j]?.map λe=>e.key)=some v) (λj h=>h.IsKeyIter it d j es.size ep/\qj h d es ep) where
 sub:=λb hb=>by simp at hb;simp[hb]
 frame:=λ_ _ _ st hk=>⟨st.1.at λo e=>hk it (by simp) o e,st.2.on λo e=>hk d (by simp) o e⟩
 item:=λj s Q E hj st hQ=>Q9 st.1 st.2 hj λh' k1 k2=>by
  refine hQ _ h' s.toks (by rw[fM hj];rfl) ⟨k1,st.2.on λo e=>k2.extBut d o ne e⟩ λb o hb e=>?_
  exact k2.extBut b o (λz=>hb (by simp[z])) e
 done:=λs Q E st hQ=>V0 hh st.1 st.2 (bB _) λh' k=>by
  refine hQ h' s.toks λb o hb e=>?_
  exact k b o (λz=>hb (by simp[z])) e
 self:=λ_ _ _ _ st hQ=>wpAny_pyIter_keyiter st.1 hQ
theorem VR(lo:(d==sysModules)=false):KdlSrc P w "dict" d d es.size (λj v=>(es[j]?.map λe=>e.key)=some v) (λh=>qj h d es ep) where
 type:=λ_ r=>r.ty
 there:=λ_ ⟨_,e,_⟩=>⟨bC e,bC e⟩
 keep:=λ_ _ r hk=>r.on λo e=>hk d (.inl rfl) o e
 notList:=by decide
 notTuple:=by decide
 hint:=λ_ _ _ _ r hq=>kdl_hint_dict r.ty hq
 iter:=λ_ s hh r=>⟨_,_,(λ_ _ hq=>Q8 lo r hq),Ny hh (by obtain⟨_,e,_⟩:=r;exact bI (bC e)),⟨⟨_,cH _ rfl,rfl,rfl⟩,r.on λo e=>bR _ e⟩⟩
end
def aI(H:Hp)(bs:List Addr)(ts:List (List Int)):Prop:=bs.length=ts.length/\∀(i:Nat) b t,bs[i]?=some b->ts[i]?=some t->H b=some (.tup (List.map V.int t))
def Rj(x:V)(H:Hp)(Q:VK):Prop:=∃d,x=.ref d/\∃aM ss,H d=some (.dT aM)/\aM.map (·.1)=ss.map (List.map Sum.inl)/\ss.length<64/\
 ∀D H' bs ts,cp H H'->H D=none->H' D=some (.lst (List.map V.ref bs))->aI H' bs ts->ts.Perm ss->ts.Pairwise (λa b=>cu a b=true)->Q (.ref D) H'
def wR(te:TE):TE:=λσ H Q=>te σ H λx H1=>Rj x H1 Q
theorem n8(ns:List Int):List.map kV (List.map Sum.inl ns)=List.map V.int ns:=by rw[iI];rfl
theorem aBI{ss:List (List Int)}{p:Array Nat}(hp:rX p ss.length)(O:Ord (setB ss) ss.length)(a:vM (setB ss) p ss.length)(h0:0<ss.length):(p.toList.map λi=>ss.getD i []).Pairwise λx y=>cu x y=true:=by
 rw[List.pairwise_map,List.pairwise_iff_getElem]
 intro i j hi hj hij
 have hs:=hp.size
 rw[dN]at hi hj
 have:=vM.lt O hp h0 a (bB _) hij (by lia)
 have e:∀k (hk:k<p.size),jf p k=p.toList[k]'(by simpa using hk):=λk hk=>by
  unfold jf
  rw[iM,fM hk]
  simp
 rw[e i hi,e j hj]at this
 exact this
theorem Wm{α:Type}{l:List α}{p:Array Nat}{d:α}(hp:rX p l.length):(p.toList.map λi=>l.getD i d).Perm l:=by
 have h1:p.toList.Perm (List.range l.length):=by simpa using Array.perm_iff_toList_perm.mp hp.perm
 have h2:=h1.map λi=>l.getD i d
 have e:(List.range l.length).map (λi=>l.getD i d)=l:=by
  apply qx
  intro i
  rw[cU]
  by_cases hi:i<l.length
  ·rw[List.getElem?_range hi,bP hi]
   simp[nF,bP hi]
  ·rw[nA (by simpa using hi),nA (by lia)]
   rfl
 rwa [e]at h2
theorem tj{α β:Type}{f:α->β}:∀{l:List α},(l.map f).Nodup->l.Nodup
 | [],_=>qq
 | a::l,h=>by
  rw[fc,nq]at h
  exact nq.mpr ⟨λz=>h.1 (wq z),tj h.2⟩
theorem zF{α β:Type}{F:α->β->Prop}:∀{l:List α} {m:List β},Paired F l m->∀{i:Nat} {b:β},m[i]?=some b->∃a,l[i]?=some a/\F a b
 | _,_,.nil,i,b,h=>by simp at h
 | _,_,.cons (a:=a) r rs,i,b,h=>by
  cases i with
  | zero=>cases h;exact⟨a,rfl,r⟩
  | succ n=>exact zF rs (i:=n) h
section
variable {X:Cx}{k:Nat}{f:Addr}{fd:FuncData}{pm g:Str}{e:Expr}{te:TE}{p kp kpos pos:Pos}
theorem RQ(hg:Gl X g)(hm:X.mg g=some (.ref f))(lA:(g==("__debug__" : Str))=false):PE X (.Name g kp) (tC (.ref f)):=λpins s σ H Q I h=>hX I hg hm ⟨.ref f,H,I,rfl,h⟩ lA
theorem RN(F:cq X.prog X.w X.K X.mg X.base eV k f fd [pm] zt)(hr:cv (k+2) X.A)(hg:Gl X "sorted")(hm:X.mg "sorted" = none)(hv:bootBuiltins "sorted" = some (.builtin "sorted"))(hgf:Gl X g)(hmf:X.mg g=some (.ref f))(hb:Binds X.K fd [pm] [])(ha:PE X e te)
  (lA:(g==("__debug__" : Str))=false:=by decide) (he:starEach [e] X.env=[(false,eval e X.env)]:=by rfl) :
  PE X (.Call (.Name "sorted" p) [e] [⟨some "key",.Name g kp,kpos⟩] pos) (wR te):=by
 intro pins s σ H Q I h
 refine mM (xE I hg hm hv ?_)
 refine callWith_kw (cM ((vT ha Ii he) pos pins s σ H (λvs H1=>match vs with | [x]=>Rj x H1 Q | _=>False) I h) λus s1 ⟨vs,H1,I1,r1,q1⟩=>?_) (by rw[he];rfl) (by rw[he];rfl)
 match vs,r1,q1 with
 | [x],r1,q1=>
  obtain⟨u,rfl,ru⟩:=vals1 r1
  refine cM ((Wq (nm:=some (Str.ofString "key")) (kpos:=kpos) (RQ (kp:=kp) hgf hmf lA) aAq) pos pins s1 σ H1 (λzs H2=>zs=[.ref f]/\H2=H1) I1 ⟨rfl,rfl⟩) λws s2 ⟨zs,H2,I2,r2,ez,eh⟩=>?_
  subst ez eh
  obtain⟨u2,rfl,ru2⟩:=vals1 r2
  cases ru2
  obtain⟨d,rfl,aM,ss,hd,ek,l64,q⟩:=q1
  cases ru
  obtain⟨zl,lo,xs,pr,o,es,ep,ho,hx,Xm,hes,nd⟩:=I2.bx d _ hd
  have lx:aM.length=xs.length:=pr.length
  have lk:aM.length=ss.length:=by have:=fZ List.length ek;simpa using this
  have at':∀(i:Nat) x,xs[i]?=some x->∃kv,aM[i]?=some kv/\kv.1=x.1/\H2 x.2.1=some (.tup (kv.1.map kV)):=λi x hx=>by
   obtain⟨kv,e1,e2⟩:=zF pr hx
   exact⟨kv,e1,e2.1,e2.2.1⟩
  have sets:∀(i:Nat) a ns,(xs.map (·.2.1))[i]?=some a->ss[i]?=some ns->H2 a=some (.tup (List.map V.int ns)):=λi a ns ha Va=>by
   rw[cU]at ha
   cases ex:xs[i]? with
   | none=>rw[ex]at ha;cases ha
   | some x=>
    rw[ex]at ha
    cases ha
    obtain⟨kv,e1,_,e3⟩:=at' i x ex
    have:(aM.map (·.1))[i]?=some (ns.map Sum.inl):=by rw[ek,cU,Va];rfl
    rw[cU,e1]at this
    have e4:kv.1=ns.map Sum.inl:=dU this
    rw[e4,n8]at e3
    exact e3
  have nds:ss.Nodup:=by
   have e5:xs.map (·.1)=ss.map (List.map Sum.inl):=by
    rw[<-ek]
    apply qx
    intro i
    rw[cU,cU]
    cases ex:xs[i]? with
    | none=>rw[nA (by have:=List.getElem?_eq_none_iff.mp ex;lia)];rfl
    | some x=>obtain⟨kv,e1,e2,_⟩:=at' i x ex;rw[e1];exact fZ some e2.symm
   rw[e5]at nd
   exact tj nd
  have lss:(xs.map (·.2.1)).length=ss.length:=by rw[aQ];lia
  refine HR (as:=xs.map (·.2.1)) (ss:=ss) I2 F hr.in1.in1 hb lss (by lia) nds sets (λQ' hQ'=>?_) λD H' p sm hD hp ha hl=>?_
  ·refine Gs (A:=X.A.in1) (VR (es:=es) (ep:=ep) lo) hr.hd ⟨o,ho,hx,Xm⟩ (by rw[show es.size=aM.length by rw[<-dN,hes,aQ];lia];exact zl) λs' vs k1 k2 k3 k4 k5 k6=>?_
   have e6:vs=(xs.map (·.2.1)).map Value.ref:=by
    apply qx
    intro i
    cases ev:vs[i]? with
    | none=>
     have:=List.getElem?_eq_none_iff.mp ev
     rw[nA]
     rw[aQ,aQ]
     have:es.size=xs.length:=by rw[<-dN,hes,aQ]
     lia
    | some v=>
     have h1:=k6 i v ev
     rw[<-sx,hes,cU]at h1
     rw[cU,cU]
     cases ex:xs[i]? with
     | none=>rw[ex]at h1;cases h1
     | some x=>rw[ex]at h1;exact h1.symm
   rw[e6]at *
   exact hQ' s' k1 k2 k3 k4
  ·have hpS:rX p ss.length:=by rw[<-lss];exact hp
   have haS:vM (setB ss) p ss.length:=by rw[<-lss];exact ha
   refine q D H' (p.toList.map λi=>(xs.map (·.2.1)).getD i 0) (p.toList.map λi=>ss.getD i []) sm hD hl ⟨by simp,λi b t hb ht=>?_⟩ (Wm hpS) ?_
   ·rw[cU]at hb ht
    cases ei:p.toList[i]? with
    | none=>rw[ei]at hb;cases hb
    | some j=>
     rw[ei]at hb ht
     have hj:j<ss.length:=by
      have:=(hpS.perm.mem_iff (a:=j)).mp (by simpa using ny ei)
      simpa using this
     have hb':(xs.map (·.2.1)).getD j 0=b:=dU hb
     have ht':ss.getD j []=t:=dU ht
     refine sm _ _ (sets j b t ?_ ?_)
     ·rw[<-hb',nF,bP (by lia)];rfl
     ·rw[<-ht',nF,bP hj];rfl
   ·by_cases h0:0<ss.length
    ·exact aBI hpS (zA nds) haS h0
    ·have:p.toList=[]:=by
      have:=hpS.size
      exact PB (by rw[dN];lia)
     rw[this]
     exact List.Pairwise.nil
end
section
variable {X:Cx}
def aD1(i j:Int):Prop:=0<j/\j<2 ^ 300
theorem R7:nj X (binaryOp .FloorDiv) (rI aD1 λi j=>.int (i / j)):=opI λi j _ _ _ _ _ hc q=>by
 have h1:(0:Int)<j:=hc.1
 have h2:j<2 ^ 300:=hc.2
 refine floordiv_int (by omega) (by rw[Int.fdiv_eq_ediv_of_nonneg i (by omega)];exact q) (.inl (PyProof.noPylong_of_log2 ?_))
 have h3:j.natAbs<2 ^ 300:=by omega
 have h4:j.natAbs≠0:=by omega
 have:=(Nat.log2_lt h4).mpr h3
 omega
def KR:List V->Hp->VK->Prop:=λvs H Q=>∃a,vs=[.ref a]/\∃bs:List Bool,H a=some (.lst (bs.map V.bl))/\Q (.bl (bs.any id)) H
theorem O7:∀{bs:List Bool} {us:List Value},Vals (bs.map V.bl) us->∀(i:Nat) (v:Value),us[i]?=some v->v=.bool (bs.getD i false):=by
 intro bs
 induction bs with
 | nil=>intro us r i v h;cases r;cases i <;> cases h
 | cons b bs ih=>
  intro us r i v h
  rw[fc]at r
  cases r with
  | cons r1 r2=>
   cases r1
   cases i with
   | zero=>cases h;rfl
   | succ i=>exact ih r2 i v (by simpa using h)
theorem any_range:∀(bs:List Bool),((List.range bs.length).any λi=>bs.getD i false)=bs.any id
 | []=>rfl
 | b::bs=>by
  rw[fh,List.range_succ_eq_map,qm,Ag,qm,<-any_range bs]
  rfl
variable {k:Nat}{f:Addr}{fd:FuncData}{pm g:Str}{e:Expr}{te:TE}{p kp kpos pos:Pos}
theorem MJ(F:cq X.prog X.w X.K X.mg X.base eV k f fd [pm] zt)(hr:cv (k+2) X.A)(hg:Gl X "sorted")(hm:X.mg "sorted" = none)(hv:bootBuiltins "sorted" = some (.builtin "sorted"))(hgf:Gl X g)(hmf:X.mg g=some (.ref f))(hb:Binds X.K fd [pm] [])(ha:ZE X e te)
  (lA:(g==("__debug__" : Str))=false:=by decide) (he:starEach [e] X.env=[(false,eval e X.env)]:=by rfl) :
  ZE X (.Call (.Name "sorted" p) [e] [⟨some "key",.Name g kp,kpos⟩] pos) (wR te):=⟨RN F hr hg hm hv hgf hmf hb ha.to lA he⟩
def BX:V->List V->Hp->VK->Prop:=λx vs H Q=>∃l i y,x=.ref l/\vs=[.int i,y]/\∃xs,H l=some (.lst xs)/\0<=i/\i<=xs.length/\xs.length<100000/\Q .non (upd H l (.lst (xs.take i.toNat++y::xs.drop i.toNat)))
end
end L2
namespace L2
open PySem PySem.Spec PySem.W PyProof.Rows Builtin
theorem zf{X:Cx}{pos:Pos}:ZE X (.Dict [] [] pos) wV:=⟨RT⟩
end L2
end
section
namespace L2
open PySem PySem.Spec PyProof.Rows
def aBM(K:PySem.W.Frag)(a:Addr)(n:Nat):It:=
 ⟨λi H=>i<n/\∃xs,qi K H a xs/\xs.length=n,λi H x H'=>H'=H/\∀xs,qi K H a xs->xs[n-1-i]?=some x,λi _=>i=n⟩
theorem Q5{prog:Program}{w:World}{A:Around}{E:Value->Shared->Prop}{s:Shared}{it l:Addr}{Q:Option Value->Shared->Prop}(hh:iS A s.heap)(hit:s.heap.IsRevIter it l (-1))
  (hQ:∀h',Heap.ExtBut it s.heap h'->Q none { s with heap:=h' }):wpAny (model prog w) A (pyNext (.ref it)) Q E s:=by
 obtain⟨o,ho,hc,hd⟩:=id hit
 unfold pyNext
 refine ay (lO (pU (name:=Str.ofString "__next__") hit.typeIs PySem.F.slot_lri_next (ji PySem.F.slot_lri_next hit.typeIs PySem.F.entry_lri_next ?_ (PySem.F.args_lri_next_1 _))))
 unfold Builtin.«list_reverseiterator.__next__»
 refine ay (kl (a:=(Value.ref it,[])) rfl ?_)
 try dsimp only
 refine ay (ib ho hd (x:=rawInt (-1)) rfl ?_)
 show wpAny _ _ (if (-1:Int)<0 then _ else _) _ _ s
 rw[aC (by decide)]
 refine ay (lN ?_)
 first
 | show wpAny _ _ (newExc (.type "StopIteration") [] >>= _) _ _ _
 | (refine ay ?_;show wpAny _ _ (newExc (.type "StopIteration") [] >>= _) _ _ _)
 refine ay ?_
 simp only[newExc,newTuple]
 refine ay (eZ ?_ (by size_fits))
 refine ay (m:=firstArgMember _ _) (kl (a:=Value.none) (by first | rfl | (simp only[firstArgMember];rfl)) ?_)
 refine eZ ?_ (by size_fits)
 refine By (A:=A.in1) hh rfl rfl (by simp;omega) λh' kp ⟨Zx,Jt⟩=>?_
 refine ay (uV (T:="StopIteration") (b:=true) ⟨_,Jt,rfl⟩ qo ?_)
 exact aJ (hQ _ λb o _ z=>kp b o z)
theorem Qh{P:Program}{w:World}{K:PySem.W.Frag}{tg:Expr}(a it:Addr)(n:Nat):Turn P w K tg (aBM K a n) [it] it (λi h=>i<=n/\h.IsRevIter it a ((n:Int)-1-(i:Int))) where
 mem:=by simp
 obj:=λi h st b hb=>by
  have e:b=it:=by simpa using hb
  subst e
  obtain⟨_,o,e,c,d⟩:=st
  exact⟨o,e,λv z=>by rw[d]at z;cases z⟩
 keep:=λi h h' st k=>⟨st.1,st.2.at λo e=>k it (by simp) o e⟩
 item:=by
  intro X hP hw hK hc i pins s σ H E I hf st hg
  subst hP hw hK
  obtain⟨hi,xs,hq,hn⟩:=hg
  obtain⟨its,rv,p,hz⟩:=I.list hq
  have hx:xs[n-1-i]?=some (xs[n-1-i]'(by lia)):=bP (by lia)
  obtain⟨u,hu,ru⟩:=rv.get hx
  obtain⟨f0,f1,f2,f3,f4,f5⟩:=hf it (by simp)
  have e1:(n:Int)-1-(i:Int)=((n-1-i:Nat):Int):=by lia
  have Yv:=st.2
  rw[e1]at Yv
  refine wpAny_pyNext_rev_item Yv p.isList (x:=u) (by simpa using hu) λh' Bz sb=>?_
  have I1:Inv X pins σ H { s with heap:=h' }:=I.turned (t':=s.toks) (λb o hb e=>(sb.2 b hb).trans e) f0 f1 f3 f4 f5
  obtain⟨o,e,c,d⟩:=id Bz
  have e2:((n-1-i:Nat):Int)-1=(n:Int)-1-((i+1:Nat):Int):=by lia
  rw[e2]at Bz
  exact⟨u,rfl,Ls (s:={ s with heap:=h' }) e c d (by decide) ⟨_,H,I1,ru,⟨rfl,λys hy=>by rw[I.Fn hy hq];exact hx⟩,⟨hi,Bz⟩,λb hb=>(hf b hb).1⟩⟩
 done:=by
  intro X hP hw hK hc i pins s σ H E I hf st hg
  subst hP hw hK
  obtain⟨f0,f1,f2,f3,f4,f5⟩:=hf it (by simp)
  have hg':i=n:=hg
  have Yv:=st.2
  rw[hg',show(n:Int)-1-(n:Int)=-1 by lia]at Yv
  exact Q5 ((I.ok.hd hc).now I) Yv λh' eb=>⟨rfl,I.turned (t':=s.toks) (λb o hb e=>eb b o hb e) f0 f1 f3 f4 f5⟩
 self:=λ_ _ _ _ _ st h=>wpAny_pyIter_revIter st.2 h
section
variable {X:Cx}{tg:Expr}
theorem boot_reversed:bootBuiltins "reversed" = some (.type "reversed"):=by decide +kernel
def S8(K:PySem.W.Frag)(ta:TA):TI:=λσ H R=>ta σ H λvs H1=>∃a,vs=[.ref a]/\∃xs,qi K H1 a xs/\R (aBM K a xs.length) H1
theorem aAs{a:Expr}{ta:TA}{p pos:Pos}(hg:Gl X "reversed")(hm:X.mg "reversed" = none)(ha:PA X [a] ta)(hs:starEach [a] X.env=[(false,eval a X.env)]:=by rfl):PI X tg (.Call (.Name "reversed" p) [a] [] pos) (S8 X.K ta):=by
 intro pins s σ H R I h
 refine Call_ (xE I hg hm boot_reversed (Ht (cM (ha pos pins s σ H _ I h) λus s1 ⟨vs,H1,I1,r1,q1⟩=>?_) hs rfl))
 obtain⟨l,e,xs,hq,q⟩:=q1
 subst e
 cases r1 with
 | cons r rr=>
  cases rr
  cases r
  obtain⟨its,rv,pl,hz⟩:=I1.list hq
  have hlen:=rv.length
  refine call_reversed_list pl.isList ?_
  have I2:Inv X pins σ H1 { s1 with heap:=s1.heap.push (revObj l ((its.toArray.size:Int)-1)) }:=I1.kept (t':=s1.toks) λb o e=>bR _ e
  have st:Heap.IsRevIter (s1.heap.push (revObj l ((its.toArray.size:Int)-1))) s1.heap.objs.size l ((its.toArray.size:Int)-1):=⟨_,cH _ rfl,rfl,rfl⟩
  refine wpAny_pyIter_revIter st ?_
  refine⟨s1.heap.objs.size,[s1.heap.objs.size],_,_,H1,rfl,I2,Qh l _ xs.length,⟨dc _,?_⟩,λb hb=>?_,q⟩
  ·have e:(xs.length:Int)-1-((0:Nat):Int)=(its.toArray.size:Int)-1:=by simp;lia
   show Heap.IsRevIter _ _ _ ((xs.length:Int)-1-((0:Nat):Int))
   rw[e]
   exact st
  ·have e:b=s1.heap.objs.size:=by simpa using hb
   subst e
   exact I1.Xy (bB _) (I1.bx.fresh (bB _))
theorem JG{K:PySem.W.Frag}{a:Addr}{xs:List V}{g:TG}{tb:TS}{D:Ends}{σ:St}{H:Hp}(Pv:Nat->St->Hp->Prop)(h0:Pv 0 σ H)(hl:∀i σ H,i<=xs.length->Pv i σ H->H a=some (.lst xs))
  (hs:∀i x σ H,xs.reverse[i]?=some x->Pv i σ H->g x σ H λσ2 H2=>tb { D with nx:=Pv (i+1),ct:=Pv (i+1),bk:=D.nx } σ2 H2) (hd:∀σ H,Pv xs.length σ H->D.nx σ H):yt (aBM K a xs.length) g tb D σ H:=by
 refine⟨λi m σ H=>m=xs.length-i/\i<=xs.length/\Pv i σ H,⟨xs.length,by simp,dc _,h0⟩,?_⟩
 rintro i m σ H ⟨rfl,hi,p⟩
 have hL:=hl i σ H hi p
 by_cases jF:i<xs.length
 ·refine .inr ⟨⟨jF,xs,bw hL,rfl⟩,Pv (i+1),λσ' H' p'=>⟨xs.length-(i+1),by lia,rfl,jF,p'⟩,λx H' yl=>?_⟩
  obtain⟨rfl,hx⟩:=yl
  refine hs i x σ _ ?_ p
  rw[Hj jF]
  exact hx xs (bw hL)
 ·have e:i=xs.length:=by lia
  subst e
  exact .inl ⟨rfl,hd σ H p⟩
theorem Vl{a:Expr}{ta:TA}{p pos:Pos}(h1:Gl X (Str.ofString "reversed"))(h2:X.mg (Str.ofString "reversed")=none)(h3:ZA X [a] ta)(h4:starEach [a] X.env=[(false,eval a X.env)]:=by rfl):ZI X tg (.Call (.Name (Str.ofString "reversed") p) [a] [] pos) (S8 X.K ta):=⟨aAs h1 h2 h3.1 h4⟩
end
theorem tU{α:Type} [DecidableEq α] {cl dl:List α}:((List.range (min cl.length dl.length)).all (λj=>decide (cl[j]?=dl[j]?))&&cl.length==dl.length)=decide (cl=dl):=by
 rw[rY,eB,nr,decide_eq_true_iff,beq_iff_eq]
 constructor
 ·rintro⟨h,l⟩
  apply qx
  intro i
  by_cases hi:i<cl.length
  ·exact of_decide_eq_true (h i (List.mem_range.mpr (by lia)))
  ·rw[nA (by lia),nA (by lia)]
 ·rintro rfl
  exact⟨λj _=>decide_eq_true rfl,rfl⟩
theorem xI:∀{x y:List Int},List.map V.int x=List.map V.int y->x=y
 | [],[],_=>rfl
 | [],_::_,h=>by cases h
 | _::_,[],h=>by cases h
 | a::x,b::y,h=>by
  rw[fc,fc]at h
  injection h with h1 h2
  rw[V.int.inj h1,xI h2]
section
variable {X:Cx}{pins:List (Addr×Obj)}{s:Shared}{σ:St}{H:Hp}{A:Around}
theorem CT{x y:List Int}{us ws:List Value}(r1:Vals (List.map V.int x) us)(r2:Vals (List.map V.int y) ws)(j:Nat)(h1:j<us.toArray.size)(h2:j<ws.toArray.size) :
  SeqAt.EqAt A s us.toArray[j] ws.toArray[j] (decide (x[j]?=y[j]?)):=by
 have l1:=r1.length
 have l2:=r2.length
 rw[aQ]at l1 l2
 have j1:j<x.length:=by rw[l1];simpa using h1
 have j2:j<y.length:=by rw[l2];simpa using h2
 have e1:x[j]?=some x[j]:=bP j1
 have e2:y[j]?=some y[j]:=bP j2
 have h:=CW (A:=A) (s:=s) (iU (x:=.int x[j]) r1 h1 (by rw[cU,e1];rfl)) (iU (x:=.int y[j]) r2 h2 (by rw[cU,e2];rfl)) rfl rfl
 have e3:Dz (.int x[j]) (.int y[j])=decide (x[j]?=y[j]?):=by
  rw[e1,e2,rY,decide_eq_true_iff,vY]
  show(x[j]==y[j])=true↔_
  rw[beq_iff_eq]
 rw[e3]at h
 exact h
theorem T6{p q:Addr}{x y:List Int}(I:Inv X pins σ H s)(hp:H p=some (.tup (List.map V.int x)))(hq:H q=some (.tup (List.map V.int y)))(hu:A.units<cLine):SeqAt.EqAt A s (.ref p) (.ref q) (decide (x=y)):=by
 by_cases e:p=q
 ·subst e
  have:x=y:=by
   have h:=hp.symm.trans hq
   simp only[vY,HO.tup.injEq]at h
   exact xI h
  rw[decide_eq_true this]
  exact SeqAt.EqAt.same _
 ·obtain⟨us,r1,t1,_⟩:=I.tuple (bH hp)
  obtain⟨ws,r2,t2,_⟩:=I.tuple (bH hq)
  have l1:=r1.length
  have l2:=r2.length
  rw[aQ]at l1 l2
  have h:=SeqAt.RcAt.tuples (A:=A) (e:=λj=>decide (x[j]?=y[j]?)) t1 t2 hu λj h1 h2=>CT r1 r2 j h1 h2
  rw[cO,cO,<-l1,<-l2,tU]at h
  exact .of_refs e h
theorem tO{ps qs:List Addr}{us ws:List Value}{cl dl:List (List Int)}(I:Inv X pins σ H s)(r1:Vals (List.map V.ref ps) us)(r2:Vals (List.map V.ref qs) ws)(a:aI H ps cl)(b:aI H qs dl)(hu:A.units<cLine)(j:Nat)(h1:j<us.toArray.size)(h2:j<ws.toArray.size) :
  SeqAt.EqAt A s us.toArray[j] ws.toArray[j] (decide (cl[j]?=dl[j]?)):=by
 have l1:=r1.length
 have l2:=r2.length
 rw[aQ]at l1 l2
 have j1:j<ps.length:=by rw[l1];simpa using h1
 have j2:j<qs.length:=by rw[l2];simpa using h2
 have e1:ps[j]?=some ps[j]:=bP j1
 have e2:qs[j]?=some qs[j]:=bP j2
 have k1:j<cl.length:=by rw[<-a.1];exact j1
 have k2:j<dl.length:=by rw[<-b.1];exact j2
 have c1:cl[j]?=some cl[j]:=bP k1
 have c2:dl[j]?=some dl[j]:=bP k2
 have v1:us.toArray[j]=.ref ps[j]:=iU (x:=.ref ps[j]) r1 h1 (by rw[cU,e1];rfl)
 have v2:ws.toArray[j]=.ref qs[j]:=iU (x:=.ref qs[j]) r2 h2 (by rw[cU,e2];rfl)
 have:=T6 (A:=A) I (a.2 j _ _ e1 c1) (b.2 j _ _ e2 c2) hu
 rw[v1,v2,c1,c2]
 have e3:decide ((some cl[j]:Option (List Int))=some dl[j])=decide (cl[j]=dl[j]):=by simp only[vY]
 rw[e3];exact this
def Rv(neg:Bool):R2:=λx y H Q=>∃a b,x=.ref a/\y=.ref b/\∃u v:List Int,H a=some (.tup (List.map V.int u))/\H b=some (.tup (List.map V.int v))/\Q (.bl (if neg then !decide (u=v) else decide (u=v))) H
def KN(neg:Bool):R2:=λx y H Q=>∃a b,x=.ref a/\y=.ref b/\∃ps qs cl dl,H a=some (.lst (List.map V.ref ps))/\H b=some (.lst (List.map V.ref qs))/\aI H ps cl/\aI H qs dl/\Q (.bl (if neg then !decide (cl=dl) else decide (cl=dl))) H
theorem WK(hu:X.A.units+1<cLine):nj X (compareOp .NotEq) (KN true):=by
 intro pins s σ H x y v u Q I rx ry h
 obtain⟨a,b,rfl,rfl,ps,qs,cl,dl,h1,h2,a1,a2,q⟩:=h
 cases rx;cases ry
 obtain⟨us,r1,t1,_⟩:=I.list (bw h1)
 obtain⟨ws,r2,t2,_⟩:=I.list (bw h2)
 have l1:=r1.length
 have l2:=r2.length
 rw[aQ]at l1 l2
 by_cases hl:cl.length=dl.length
 ·refine SeqAt.RcNeAt.lists (e:=λj=>decide (cl[j]?=dl[j]?)) t1.isList t2.isList (by rw[cO,cO,<-l1,<-l2,a1.1,a2.1,hl]) (by lia) (λj h1 h2=>tO I r1 r2 a1 a2 (by rw[Am];lia) j h1 h2) _ _ _ _ ⟨.bl _,H,I,rfl,?_⟩
  have e:=tU (cl:=cl) (dl:=dl)
  rw[hl,Nat.min_self,ip,Bool.and_true]at e
  rw[cO,<-l1,a1.1,hl,e]
  exact q
 ·refine SeqAt.RcNeAt.lists_lengths t1.isList t2.isList (by rw[cO,cO,<-l1,<-l2,a1.1,a2.1];simpa using hl) (by lia) _ _ _ _ ⟨.bl _,H,I,rfl,?_⟩
  have e:decide (cl=dl)=false:=decide_eq_false λz=>hl (by rw[z])
  have q':Q (.bl (!decide (cl=dl))) H:=q
  rw[e]at q'
  exact q'
end
def Up(xs:Array Nat):Prop:=xs.toList.Pairwise (· < ·)
theorem Up.lt{xs:Array Nat}(u:Up xs){i k:Nat}(h:i<k)(hk:k<xs.size):xs.getD i 0<xs.getD k 0:=by
 have h1:i<xs.toList.length:=by rw[dN];lia
 have h2:k<xs.toList.length:=by rw[dN];lia
 have:=(List.pairwise_iff_getElem.mp u) i k h1 h2 h
 rw[wx,wx]at this
 rw[iM,iM,fM (by lia),fM hk]
 exact this
theorem TY{xs:Array Nat}{i j:Nat}(h:i<xs.size):xs.getD i j=xs.getD i 0:=by
 rw[iM,iM,fM h];rfl
theorem ye{xs:Array Nat}{j:Nat}(u:Up xs):∀(f lo hi:Nat),hi-lo<=f->lo<=hi->hi<=xs.size->(∀i,i<lo->xs.getD i 0<j)->(∀i,hi<=i->i<xs.size->j<=xs.getD i 0)->
  SetTable.below.go xs j f lo hi<=xs.size/\(∀i,i<SetTable.below.go xs j f lo hi->xs.getD i 0<j)/\∀i,SetTable.below.go xs j f lo hi<=i->i<xs.size->j<=xs.getD i 0
 | 0,lo,hi,h0,h1,h2,a,b=>by
  have e:lo=hi:=by lia
  subst e
  exact⟨h2,a,b⟩
 | f+1,lo,hi,h0,h1,h2,a,b=>by
  unfold SetTable.below.go
  by_cases c:lo<hi
  ·rw[aC c]
   dsimp only
   have hm:(lo+hi) / 2<xs.size:=by lia
   rw[TY hm]
   by_cases d:xs.getD ((lo+hi) / 2) 0<j
   ·rw[aC d]
    refine ye u f _ _ (by lia) (by lia) h2 (λi Pl=>?_) b
    by_cases e:i=(lo+hi) / 2
    ·rw[e];exact d
    ·have:=u.lt (i:=i) (k:=(lo+hi) / 2) (by lia) hm;lia
   ·rw[aB d]
    refine ye u f _ _ (by lia) (by lia) (by lia) a λi Pl hz=>?_
    by_cases e:i=(lo+hi) / 2
    ·rw[e];lia
    ·have:=u.lt (i:=(lo+hi) / 2) (k:=i) (by lia) hz;lia
  ·rw[aB c]
   have e:lo=hi:=by lia
   subst e
   exact⟨h2,a,b⟩
theorem rH{xs:Array Nat}(u:Up xs)(j:Nat):SetTable.below xs j<=xs.size/\(∀i,i<SetTable.below xs j->xs.getD i 0<j)/\∀i,SetTable.below xs j<=i->i<xs.size->j<=xs.getD i 0:=
 ye u xs.size 0 xs.size (by lia) (dc _) (bB _) (λi h=>absurd h (Ao _)) (λi h1 h2=>absurd h2 (by lia))
def lV(xs:Array Nat)(i:Nat):Nat:=if i=0 then 0 else xs.getD (i-1) 0+1
theorem below_at{xs:Array Nat}(u:Up xs){i:Nat}(hi:i<=xs.size):SetTable.below xs (lV xs i)=i:=by
 obtain⟨h0,h1,h2⟩:=rH u (lV xs i)
 generalize SetTable.below xs (lV xs i)=r at h0 h1 h2 ⊢
 unfold lV at h1 h2
 rcases G' r i with h | h | h
 ·have:=h2 (i-1) (by lia) (by lia)
  rw[aB (by lia)]at this
  lia
 ·exact h
 ·have:=h1 i h
  by_cases e:i=0
  ·rw[aC e]at this;lia
  ·rw[aB e]at this
   have:=u.lt (i:=i-1) (k:=i) (by lia) (by lia)
   lia
theorem O8{xs:Array Nat}(u:Up xs){j:Nat}(h:j∈xs.toList):xs[SetTable.below xs j]?=some j:=by
 obtain⟨k,hk,e⟩:=Hf h
 rw[dN]at hk
 rw[wx]at e
 have ek:xs.getD k 0=j:=by rw[iM,fM hk];exact e
 obtain⟨h0,h1,h2⟩:=rH u j
 have:SetTable.below xs j=k:=by
  generalize SetTable.below xs j=r at h0 h1 h2 ⊢
  rcases G' r k with h | h | h
  ·have a:=h2 r (bB _) (by lia)
   have b:=u.lt (i:=r) (k:=k) h hk
   lia
  ·exact h
  ·have:=h1 k h;lia
 rw[this,fM hk,e]
theorem yQ{α:Type}(xs:Array α)(p:Nat)(x:α):(SetTable.insertAt xs p x).toList=xs.toList.take p++x::xs.toList.drop p:=by
 unfold SetTable.insertAt
 simp[Array.toList_extract,List.extract]
 exact List.take_of_length_le (by simp)
theorem M6{xs:Array Nat}(u:Up xs){j:Nat}(h:j∉xs.toList):Up (SetTable.insertAt xs (SetTable.below xs j) j):=by
 obtain⟨h0,h1,h2⟩:=rH u j
 generalize SetTable.below xs j=r at h0 h1 h2 ⊢
 unfold Up
 rw[yQ,uk]
 have lt:∀a∈xs.toList.take r,a<j:=λa ha=>by
  obtain⟨k,hk,e⟩:=Hf ha
  rw[jL,dN]at hk
  rw[List.getElem_take,wx]at e
  have:=h1 k (by lia)
  rw[iM,fM (by lia)]at this
  rw[<-e];exact this
 have gt:∀a∈xs.toList.drop r,j<a:=λa ha=>by
  have hm:=List.mem_of_mem_drop ha
  obtain⟨k,hk,e⟩:=Hf ha
  rw[wg,dN]at hk
  rw[List.getElem_drop,wx]at e
  have:=h2 (r+k) (by lia) (by lia)
  rw[iM,fM (by lia)]at this
  have h3:j<=a:=by rw[<-e];exact this
  have h4:j≠a:=λz=>h (by rw[z];exact hm)
  lia
 refine⟨u.sublist (List.take_sublist _ _),wm.mpr ⟨gt,u.sublist (List.drop_sublist _ _)⟩,λa ha b hb=>?_⟩
 rcases bT.mp hb with e | hb
 ·rw[e];exact lt a ha
 ·have:=lt a ha;have:=gt b hb;lia
theorem qT{t:SetTable}{hashAt:Nat->Int}{h:Int}:∀(f:Nat) (p:SetTable.Probe) (j:Nat) (d:Option Nat),(∀q,p.dummy=some q->t.slot q=.dummy)->SetTable.probe.go t hashAt h f p=some (.empty j d)->
  t.slot j=.empty/\∀q,d=some q->t.slot q=.dummy
 | 0,p,j,d,_,e=>by cases e
 | f+1,p,j,d,hd,e=>by
  unfold SetTable.probe.go at e
  have adv:∀p:SetTable.Probe,(t.advance p).dummy=p.dummy:=λp=>by unfold SetTable.advance;split <;> rfl
  cases hs:t.slot p.j with
  | empty=>
   rw[hs]at e
   dsimp only at e
   cases e
   exact⟨hs,hd⟩
  | dummy=>
   rw[hs]at e
   refine qT f _ j d (λq hq=>?_) e
   rw[adv]at hq
   cases hq
   exact hs
  | live i=>
   rw[hs]at e
   dsimp only at e
   split at e
   ·cases e
   ·refine qT f _ j d (λq hq=>?_) e
    rw[adv]at hq
    exact hd q hq
theorem JF{t:SetTable}(u:Up t.place){h:Int}{j:Nat}{b:Bool}(e:t.freeSlot h=some (j,b)):j∉t.place.toList:=by
 unfold SetTable.freeSlot at e
 have key:∀q,t.slot q=.empty\/t.slot q=.dummy->q∉t.place.toList:=λq hq hm=>by
  have z:=O8 u hm
  have sl:t.slot q=.live (SetTable.below t.place q):=by
   unfold SetTable.slot
   dsimp only
   rw[z];simp
  rw[sl]at hq
  rcases hq with h | h <;> cases h
 cases hp:t.probe (λ_=>h+1) h (t.probeStart h) with
 | none=>rw[hp]at e;cases e
 | some m=>
  rw[hp]at e
  cases m with
  | candidate j i n=>cases e
  | empty j0 d=>
   obtain⟨a,c⟩:=qT _ _ _ _ (λq hq=>by cases hq) hp
   dsimp only at e
   cases d with
   | none=>cases e;exact key _ (.inl a)
   | some q=>cases e;exact key _ (.inr (c q rfl))
theorem sN(n:Nat):Up (Array.range n):=by
 unfold Up
 rw[Array.toList_range]
 exact List.pairwise_lt_range
theorem aAP{t:SetTable}(u:Up t.place)(es:Array (Int×Value))(h:Int)(x:Value):Up (layNew t es h x).2.1.place:=by
 unfold layNew
 split
 ·rename_i slot aBR q
  dsimp only
  unfold SetTable.orStandIn
  split
  ·exact M6 u (JF u q)
  ·exact sN _
 ·exact sN _
theorem W5{mask finger moves:Nat}{led plain:Bool}{hs:Array Int}{t':SetTable}{o:Array Nat}(h:SetTable.laid mask finger moves led plain hs=some (t',o)):Up t'.place:=by
 unfold SetTable.laid at h
 cases q:SetTable.layClean mask hs with
 | none=>rw[q]at h;cases h
 | some owner=>
  rw[q]at h
  cases h
  unfold Up
  rw[Bb,List.pairwise_map,List.pairwise_filterMap]
  refine List.pairwise_lt_range.imp λ{a b} hab c hc d hd=>?_
  cases ha:owner.getD a none with
  | none=>rw[ha]at hc;cases hc
  | some k=>
   cases hb:owner.getD b none with
   | none=>rw[hb]at hd;cases hd
   | some k'=>
    rw[ha]at hc;rw[hb]at hd
    cases hc;cases hd
    exact hab
theorem Q6{t:SetTable}(es:Array (Int×Value))(k:Nat):Up (relayAll t es k).2.1.place:=by
 unfold relayAll
 split
 ·rename_i t' o q
  dsimp only
  split
  ·exact W5 q
  ·exact sN _
 ·exact sN _
def yX(p:Int×Tok):Int×Value:=(hashInt p.1,.int p.1 p.2)
structure lJ(w:World)(h:Heap)(a:Addr)(l:List (Int×Tok)):Prop where
 ex:∃es ep t,h.get? a=some (e9 es ep t)/\es.toList=l.map (yX)/\t.fits es.size=true/\t.led = !uI w/\Up t.place
 nd:(l.map (·.1)).Nodup
 sz:l.length<scanBound
theorem lJ.at{w:World}{h h':Heap}{a:Addr}{l:List (Int×Tok)}(x:lJ w h a l)(k:∀o,h.get? a=some o->h'.get? a=some o):lJ w h' a l:=
 ⟨let ⟨es,ep,t,e,r⟩:=x.ex;⟨es,ep,t,k _ e,r⟩,x.nd,x.sz⟩
section
variable {P:Program}{w:World}{A:Around}{E:Value->Shared->Prop}{s:Shared}{a:Addr}{l:List (Int×Tok)}
theorem Oz(l:List (Int×Tok)):ElemsOf (intKind P w) (l.map (yX)):=by
 intro e he
 obtain⟨p,_,rfl⟩:=gd.mp he
 exact⟨⟨p.1,intKind_is P w _ _,rfl⟩,rfl⟩
theorem Ox(x:Int):∀l:List (Int×Tok),(∀j,(l.map (yX)).findIdx? (λe=>(intKind P w).is x e.2)=some j->x∈l.map (·.1))/\((l.map (yX)).findIdx? (λe=>(intKind P w).is x e.2)=none->x∉l.map (·.1)):=by
 intro l
 refine⟨λj h=>?_,λh hm=>?_⟩
 ·obtain⟨hj,hp,_⟩:=List.findIdx?_eq_some_iff_getElem.mp h
  rw[List.getElem_map]at hp
  rw[aQ]at hj
  have:(l[j]).1=x:=(intKind P w).inj _ _ _ (intKind_is P w _ _) hp
  exact gd.mpr ⟨l[j],se hj,this⟩
 ·obtain⟨p,hp,rfl⟩:=gd.mp hm
  have:=List.findIdx?_eq_none_iff.mp h (yX p) (wq hp)
  rw[show(intKind P w).is p.1 (yX p).2=true from intKind_is P w _ _]at this
  cases this
theorem zD{es':List (Int×Value)}{l:List (Int×Tok)}(p:es'.Perm (l.map (yX))):∃l':List (Int×Tok),es'=l'.map (yX)/\l'.Perm l:=by
 let back:Int×Value->Int×Tok:=λe=>match e.2 with | .int x t=>(x,t) | _=>(default,0)
 have hb:∀q:Int×Tok,back (yX q)=q:=λq=>rfl
 refine⟨es'.map back,?_,?_⟩
 ·rw[iI]
  conv=>lhs;rw[<-Af es']
  refine v3 λe he=>?_
  obtain⟨q,_,rfl⟩:=gd.mp (p.mem_iff.mp he)
  rfl
 ·have:=p.map back
  rw[iI,show(back ∘ yX)=id from funext hb,Af]at this
  exact this
theorem add_int{x:Int}{tk:Tok}{Q:Bool->Shared->Prop}(S:lJ w s.heap a l)(room:l.length+1<scanBound)
  (q:∀h' l' b,Heap.SameBut a s.heap h'->lJ w h' a l'->(∀z,z∈l'.map (·.1)↔z∈l.map (·.1)\/z=x)->l'.length<=l.length+1->Q b { s with heap:=h' }) :
  wpAny (model P w) A (setAddHashed a (.int x tk) (hashInt x)) Q E s:=by
 obtain⟨⟨es,ep,t,ho,Y3,hf,Tg,iF⟩,nd,sz⟩:=S
 have hsz:es.size=l.length:=by rw[<-dN,Y3,aQ]
 have hE:ElemsOf (intKind P w) es.toList:=by rw[Y3];exact Oz l
 have hk:(intKind P w).is x (.int x tk)=true:=intKind_is P w _ _
 have hd:(e9 es ep t).data=.set es ep t:=rfl
 unfold setAddHashed setAddHashedIn
 refine jh (ay (uf ho hd hf ?_))
 dsimp only
 rw[byScan_of (knd:=intKind P w) rfl (by rw[hsz];exact sz) hE]
 simp only[↓reduceIte]
 unfold setAddByScan
 refine ay (ay (lN (ay (wpAny_setScan_of (knd:=intKind P w) hk ho hd hf hE ?_))))
 have hfi:=Ox (P:=P) (w:=w) x l
 rw[<-Y3]at hfi
 cases hr:List.findIdx? (λe=>(intKind P w).is x e.2) es.toList with
 | some j=>
  dsimp only
  have hm:=hfi.1 j hr
  refine aJ (aJ ?_)
  have e:s={ s with heap:=s.heap }:=by cases s;rfl
  rw[e]
  exact q s.heap l false (Heap.SameBut.refl a s.heap) ⟨⟨es,ep,t,ho,Y3,hf,Tg,iF⟩,nd,sz⟩ (λz=>⟨.inl,λh=>h.elim id λe=>e ▸ hm⟩) (nk _)
 | none=>
  have hm:=hfi.2 hr
  dsimp only
  have pp:=layNew_perm t es (hashInt x) (.int x tk)
  have pf:=layNew_fits t es (hashInt x) (.int x tk)
  have pl:=W4 t es (hashInt x) (.int x tk)
  have pq:=aAP iF es (hashInt x) (.int x tk)
  generalize hL:layNew t es (hashInt x) (.int x tk)=L at pp pf pl pq ⊢
  obtain⟨rV,t1,aBR,gave⟩:=L
  dsimp only at pp pf pl pq ⊢
  rw[Array.toList_push,Y3]at pp
  obtain⟨l1,e1,p1⟩:=zD (l:=l++[(x,tk)]) (es':=rV.toList) (by rw[fK];exact pp)
  have aCy:l1.length=l.length+1:=by rw[p1.length_eq,cP];rfl
  have nd1:(l1.map (·.1)).Nodup:=by
   rw[(p1.map (·.1)).nodup_iff,fK,Aw]
   refine⟨nd,by simp,λu hu v hv=>?_⟩
   rw[fc,Ah,df]at hv
   rintro rfl
   rw[hv]at hu
   exact hm hu
  have aCv:∀z,z∈l1.map (·.1)↔z∈l.map (·.1)\/z=x:=λz=>by
   rw[(p1.map (·.1)).mem_iff,fK,dq];simp
  have aFT:rV.size=l.length+1:=by rw[<-dN,e1,aQ,aCy]
  have gw:∀(b:Bool) {s₁:Shared} {Q':Unit->Shared->Prop},Q' () s₁->wpAny (model P w) A (match b with | true=>rule "set.scan.the-table-gave-way" | false=>pure ()) Q' E s₁:=
   λb s₁ Q' hq=>by cases b <;> first | exact aJ hq | exact lN hq
  refine ay (gw _ ?_)
  have fin:∀t2:SetTable,t2.fits rV.size=true->t2.led=t.led->Up t2.place->
    wpAny (model P w) A (do
     storeSet a rV t2
     if (!aBR&&t2.tooFull)=true then do
      (match (relayAll t2 rV (SetTable.grown rV.size)).2.2 with | true=>rule "set.scan.the-table-gave-way" | false=>pure ())
      storeSet a (relayAll t2 rV (SetTable.grown rV.size)).1 (relayAll t2 rV (SetTable.grown rV.size)).2.1
      pure (some true)
     else pure (some true)) (λr s'=>∃b,r=some b/\Q b s') E s:=by
   intro t2 f2 l2 p2
   refine ay (wpAny_storeSet_of ho hd ?_ (by rw[aFT];exact Ap room))
   have g1:(s.heap.update a (Obj.putSet rV t2)).get? a=some (e9 rV (ep+1) t2):=by
    have:=mO (Obj.putSet rV t2) ho (by rw[putSet_of rV t2 hd];rfl)
    rw[putSet_of rV t2 hd]at this;exact this
   have sb:=sj s.heap a (Obj.putSet rV t2)
   split
   ·have rp:=relayAll_perm t2 rV (SetTable.grown rV.size)
    have rf:=relayAll_fits t2 rV (SetTable.grown rV.size)
    have rl:=Nw t2 rV (SetTable.grown rV.size)
    have rq:=Q6 (t:=t2) rV (SetTable.grown rV.size)
    generalize hR:relayAll t2 rV (SetTable.grown rV.size)=R at rp rf rl rq ⊢
    obtain⟨es2,t3,aHg⟩:=R
    dsimp only at rp rf rl rq ⊢
    rw[e1]at rp
    obtain⟨l2',e2,p2'⟩:=zD rp
    have aCx:l2'.length=l.length+1:=by rw[p2'.length_eq,aCy]
    have aFS:es2.size=l.length+1:=by rw[<-dN,e2,aQ,aCx]
    refine ay (gw _ ?_)
    refine ay (wpAny_storeSet_of g1 rfl ?_ (by rw[aFS];exact Ap room))
    have g2:((s.heap.update a (Obj.putSet rV t2)).update a (Obj.putSet es2 t3)).get? a=some (e9 es2 (ep+1+1) t3):=by
     have:=mO (Obj.putSet es2 t3) g1 (by rw[putSet_of es2 t3 (show(e9 rV (ep+1) t2).data=_ from rfl)];rfl)
     rw[putSet_of es2 t3 (show(e9 rV (ep+1) t2).data=_ from rfl)]at this;exact this
    refine aJ ⟨true,rfl,q _ l2' true (sb.trans (sj _ a _)) ⟨⟨es2,_,t3,g2,e2,rf,by rw[rl,l2,Tg],rq⟩,by rw[(p2'.map (·.1)).nodup_iff];exact nd1,by lia⟩ (λz=>by rw[(p2'.map (·.1)).mem_iff];exact aCv z) (by lia)⟩
   ·exact aJ ⟨true,rfl,q _ l1 true sb ⟨⟨rV,_,t2,g1,e1,f2,by rw[l2,Tg],p2⟩,nd1,by lia⟩ aCv (by lia)⟩
  split
  ·rename_i ng
   refine ay ?_
   rw[hashByValue_scannable 8 (show(Value.int x tk).scannable=true from rfl)]
   refine aJ ?_
   rw[show(if plainKind (Value.int x tk)=true then t1 else { t1 with plain:=false })=t1 from rfl]
   refine dk (fin t1 pf pl pq) (λr s' h=>?_) λ_ _ h=>h
   obtain⟨b,rfl,hq⟩:=h
   exact aJ hq
  ·rename_i ng
   refine ay (aJ ?_)
   simp only[↓reduceIte]
   refine dk (fin t1 pf pl pq) (λr s' h=>?_) λ_ _ h=>h
   obtain⟨b,rfl,hq⟩:=h
   exact aJ hq
end
section
variable {P:Program}{w:World}{A:Around}{R:Result->Shared->Prop}{I:Addr}{fp wr:List Addr}{G:Array GenState->Array GenState->Prop}{n:Nat}{Pv:Nat->Value->Prop}{St:Nat->Shared->Prop}
theorem Fm(W:WalksS P w A.in1 I fp wr G n Pv St)(S:Addr)(hSf:S∉fp)(val:Nat->Int)(hval:∀i v,Pv i v->∃t,v=.int (val i) t)(hb:n+1<scanBound) :
  ∀(k i:Nat) (s:Shared) (l:List (Int×Tok)),n-i=k->i<=n->St i s->lJ w s.heap S l->l.length<=i->(∀z,z∈l.map (·.1)↔∃j,j<i/\val j=z)->
   (∀s' l',Moved (S::wr) G s s'->lJ w s'.heap S l'->(∀z,z∈l'.map (·.1)↔∃j,j<n/\val j=z)->R (.ok (.ret .none)) s')->
   codeAny (model P w) A (.builtin "set.update.loop" ⟨[.ref S,.ref I],[]⟩) R s:=by
 have nw:S∉wr:=λz=>hSf (W.sub _ z)
 have up:∀b∈wr,b∈S::wr:=λb z=>dW _ z
 intro k
 induction k with
 | zero=>
  intro i s l hk hi st hS hl hm r
  obtain rfl:i=n:=by lia
  refine pQ F.entry_set_update_loop ?_
  rw[vZ G9 _]
  refine ay (m:=pyNext (.ref I)) (W.done s _ _ st λs' mv=>?_)
  refine aJ (r s' l (mv.mono up) (hS.at λo e=>mv.heap S o nw e) hm)
 | succ k ih=>
  intro i s l hk hi st hS hl hm r
  have lt:i<n:=by lia
  refine pQ F.entry_set_update_loop ?_
  rw[vZ G9 _]
  refine ay (m:=pyNext (.ref I)) (W.item i s _ _ lt st λv s' pv Bz mv=>?_)
  obtain⟨t,rfl⟩:=hval i v pv
  have Xs:=hS.at (h':=s'.heap) λo e=>mv.heap S o nw e
  refine ay (m:=holding [Value.int (val i) t] (setAdd S (.int (val i) t))) (jh ?_)
  unfold setAdd
  refine jh (ay ((intKind P w).pyHash (k:=val i) (intKind_is _ _ _ _) ?_))
  refine add_int (s:={ s' with toks:=s'.toks+1 }) Xs (by lia) λh' l' b sb S2 m2 aCx=>?_
  refine aJ ⟨v7 G9 _,ih (i+1) _ l' (by lia) lt (W.frame _ s' _ _ Bz (nk _) λc hc o e=>?_) S2 (by lia) (λz=>?_) λs2 l2 mv2 S3 m3=>?_⟩
  ·rw[sb.2 c (λq:c=S=>hSf (by rw[<-q];exact hc))];exact e
  ·rw[m2 z,hm z]
   constructor
   ·rintro(⟨j,hj,e⟩ | e)
    ·exact⟨j,by lia,e⟩
    ·exact⟨i,by lia,e.symm⟩
   ·rintro⟨j,hj,e⟩
    by_cases q:j=i
    ·subst q;exact .inr e.symm
    ·exact .inl ⟨j,by lia,e⟩
  ·refine r s2 l2 (Moved.trans W.gtrans ((mv.mono up).then_heap (nk _) λc o hc e=>?_) mv2) S3 m3
   rw[sb.2 c (λq:c=S=>hc (by rw[q];exact dD))];exact e
end
theorem xJ:∀{vs:List Value} {ss:List Int},IntsAre vs ss->∀(i:Nat) (v:Value),vs[i]?=some v->∃t,v=.int (ss.getD i 0) t
 | _,_,.nil,i,v,h=>by cases i <;> cases h
 | _,_,.cons y t r,0,v,h=>by cases h;exact⟨t,rfl⟩
 | _,_,.cons y t r,i+1,v,h=>by
  obtain⟨u,e⟩:=xJ r i v (by simpa using h)
  exact⟨u,by rw[e];rfl⟩
section
variable {P:Program}{w:World}{A:Around}{E:Value->Shared->Prop}{s:Shared}
theorem aB9{l:Addr}{items:Array Value}{ss:List Int}{Q:Value->Shared->Prop}(hh:A.handled=none)(hl:s.heap.IsList l items)(hi:IntsAre items.toList ss)(hb:items.size+1<scanBound)
  (h:∀(h':Heap) (tk:Nat) (ls:List (Int×Tok)),lJ w h' s.heap.objs.size ls->(∀z,z∈ls.map (·.1)↔z∈ss)->(∀b o,b<s.heap.objs.size->s.heap.get? b=some o->h'.get? b=some o)->Q (.ref s.heap.objs.size) { s with heap:=h',toks:=tk }) :
  wpAny (model P w) A (call (.type "set") [.ref l]) Q E s:=by
 have e:∀z:Int,(∃j,j<items.size/\ss.getD j 0=z)↔z∈ss:=λz=>by
  have hlen:items.size=ss.length:=by rw[<-dN];exact hi.length
  rw[hlen,Hh]
  constructor
  ·rintro⟨j,hj,e⟩;exact⟨j,hj,by rw[<-e];simp[hj]⟩
  ·rintro⟨j,hj,e⟩;exact⟨j,hj,by rw[<-e];simp[hj]⟩
 obtain⟨c,tl,aF2⟩:=iL.mro
 have aCT:=iL.made
 have Ju:=iL.sub
 refine jJ (Ak (aJ (a:=_) ⟨Ar _ (by decide +kernel),pQ PySem.F.entry_type_call ?_⟩))
 rw[Around.under_plain (weight_type_call_type "set" [.ref l] []) rfl]
 have h1:=iL.notType
 have h2:=iL.canCreate
 have hct:=PySem.F.typeCall_set_1 (.ref l)
 repeat (any_goals (first | assumption | wp_step))
 refine ic (Ky (x:=.ref l) (E:=E) (Q:=λobj s₁=>obj=.ref s.heap.objs.size/\s₁={ s with heap:=s.heap.push (e9 #[] 0 (.fresh 0 0 (!uI w))) }) ⟨rfl,rfl⟩) λr s₁ hr=>?_
 cases r with
 | error e=>exact hr
 | ok fl=>
  cases fl with
  | ret obj=>
   obtain⟨rfl,rfl⟩:=hr
   have hS:(s.heap.push (e9 #[] 0 (.fresh 0 0 (!uI w)))).get? s.heap.objs.size=some (e9 #[] 0 (.fresh 0 0 (!uI w))):=cH _ rfl
   have hT:Shared.TypeIs { s with heap:=s.heap.push (e9 #[] 0 (.fresh 0 0 (!uI w))) } (.ref s.heap.objs.size) "set":=⟨_,hS,rfl⟩
   have hli:=iL.init.lookup
   have hbi:=iL.init.bind (.ref s.heap.objs.size)
   repeat (any_goals (first | assumption | wp_step))
   refine ic (Ba (R:=wants (λr s₂=>r=.none/\∃h' tk ls,s₂={ s with heap:=h',toks:=tk }/\lJ w h' s.heap.objs.size ls/\(∀z,z∈ls.map (·.1)↔z∈ss)/\
     (∀b o,b<s.heap.objs.size->s.heap.get? b=some o->h'.get? b=some o)) E) iL.init.plain PySem.F.entry_set_init (check_set_init_1 hT ?_)) λr₂ s₂ hr₂=>?_
   ·obtain⟨ol,Xh,vW,nl,Pn⟩:=hl
    obtain⟨aE8,Si,aCs,Ik⟩:=ol
    simp only at vW Pn
    subst vW;subst Pn
    have aA8:(s.heap.push (e9 #[] 0 (.fresh 0 0 (!uI w)))).get? l=some { cls:=.type "list",dict:=Si,data:=.seq items nl,slots:=Ik }:=bR _ Xh
    have aFU:=PySem.F.sub_list_set
    have aFV:=PySem.F.sub_list_frozenset
    have vp:(Value.type "list" == Value.type "dict")=false:=by decide
    have Og:(s.heap.push (e9 #[] 0 (.fresh 0 0 (!uI w)))).IsList l items:=⟨_,aA8,rfl,nl,rfl⟩
    unfold Builtin.«set.__init__» noKeywords Builtin.Frozenset.updateFrom
    unfold e9 at *
    generalize hPI:pyIter=PI
    wp_walk
    subst hPI
    refine wd Og (ay (v8 ?_))
    have hlS:l<s.heap.objs.size:=bC Xh
    have hh3:A.in1.in1.in1.handled=none:=by simp[hh]
    have hsz:(s.heap.push (e9 #[] 0 (.fresh 0 0 (!uI w)))).objs.size=s.heap.objs.size+1:=pP _ _
    have aBb:l≠(s.heap.push (e9 #[] 0 (.fresh 0 0 (!uI w)))).objs.size:=by rw[hsz];exact bI (sf hlS)
    have hSf:s.heap.objs.size∉[(s.heap.push (e9 #[] 0 (.fresh 0 0 (!uI w)))).objs.size,l]:=by
     rw[hsz];simp only[bT,df,nu,or_false,not_or];exact⟨bI (qv _),jK hlS⟩
    refine Fm ((Walks.list hh3 _ l aBb items).toS) s.heap.objs.size hSf (λj=>ss.getD j 0) (λi v hv=>?hv) hb (items.size-0) 0 _ [] (by lia) (dc _)
     ⟨⟨_,cH _ rfl,rfl,rfl⟩,(Og.push _)⟩ ?hS0 (dc _) (λz=>⟨(λz=>nomatch z),λ⟨_,hj,_⟩=>absurd hj (Ao _)⟩) ?hR
    case hv=>exact xJ hi i v (by rw[sx];exact hv)
    case hS0=>exact⟨⟨#[],0,_,bR _ hS,rfl,rfl,rfl,List.Pairwise.nil⟩,qq,by decide⟩
    case hR=>
     intro s' l' hm Xs mem
     obtain⟨h',g',d',tk',os'⟩:=s'
     have eg:g'=s.gens:=hm.gens
     have ed:d'=s.drawn:=hm.drawn
     have eo:os'=s.os:=hm.os
     subst eg;subst ed;subst eo
     refine aJ (aJ ⟨rfl,h',tk',l',rfl,Xs,λz=>(mem z).trans (e z),λb o hb e=>?_⟩)
     refine hm.heap b o ?_ (bR _ (bR _ e))
     rw[hsz]
     simp only[bT,df,nu,or_false,not_or];exact⟨bI hb,bI (sf hb)⟩
   ·cases r₂ with
    | error e=>exact hr₂
    | ok fl₂=>
     cases fl₂ with
     | ret r=>
      obtain⟨rfl,h',tk,ls,rfl,Xs,hm',Oh⟩:=hr₂
      repeat (any_goals (first | assumption | wp_step))
      exact h _ _ _ Xs hm' Oh
     | _=>exact hr₂.elim
  | _=>exact hr.elim
end
section
variable {P:Program}{w:World}{A:Around}{E:Value->Shared->Prop}{s:Shared}{a:Addr}{l:List (Int×Tok)}
theorem lJ.typeIs(S:lJ w s.heap a l):s.TypeIs (.ref a) "set":=let ⟨_,_,_,e,_⟩:=S.ex;⟨_,e,rfl⟩
def Mu(P:Program)(w:World)(z:Nat)(a:Addr)(l:List (Int×Tok))(I:Addr)(s':Shared):Prop:=
 ∃(ord:List Value) (fp:List Addr) (St:Nat->Shared->Prop),(∀B:Around,B.handled=none->WalksS P w B I fp [I] (λx y=>y=x) l.length (λi v=>ord[i]?=some v) St)/\St 0 s'/\
  (∀b∈fp,b<s'.heap.objs.size/\(b=a\/z<=b))/\I∈fp/\ord.Perm (l.map λp=>Value.int p.1 p.2)
end
section
variable {P:Program}{w:World}{A:Around}{E:Value->Shared->Prop}{s:Shared}{a:Addr}{es:Array (Int×Value)}{t:SetTable}{ep slot i:Nat}
theorem Iu{Q:Option (Value×Nat)->Shared->Prop}(hb:uI w=false)(hl:t.led=true)(d:(!t.plain&&decide (es.size > 1))=false)(hS:s.heap.get? a=some (e9 es ep t))(hf:t.fits es.size=true)
  (q:Q (match es[SetTable.below t.place slot]?,t.place[SetTable.below t.place slot]? with | some (_,x),some j=>some (x,j+1) | _,_=>none) s):wpAny (model P w) A (setNext a slot i ep) Q E s:=by
 unfold setNext
 refine ay (uf hS rfl hf (ay (mD ?_)))
 rw[hb]
 dsimp only
 rw[aB (by simp)]
 show wpAny _ _ (if (!t.plain&&decide (es.size > 1))=true then _ else _) _ _ _
 rw[d,aB (by simp)]
 show wpAny _ _ ((if (!t.led && !es.isEmpty)=true then _ else _) >>= _) _ _ _
 rw[hl,Bool.not_true,v9,aB (by simp)]
 exact ay (aJ (aJ q))
end
section
variable {P:Program}{w:World}{A:Around}{E:Value->Shared->Prop}{s:Shared}{a:Addr}{l:List (Int×Tok)}
theorem Nn{Q:Value->Shared->Prop}(S:lJ w s.heap a l)
  (q:∀I s',s.heap.objs.size<=I->(∀b o,s.heap.get? b=some o->s'.heap.get? b=some o)->s'.gens=s.gens->s'.os=s.os->Mu P w s.heap.objs.size a l I s'->Q (.ref I) s'):wpAny (model P w) A (pyIter (.ref a)) Q E s:=by
 obtain⟨⟨es,ep,t,ho,Y3,hf,Tg,iF⟩,nd,sz⟩:=id S
 have hsz:es.size=l.length:=by rw[<-dN,Y3,aQ]
 have hval:es.toList.map (·.2)=l.map λp=>Value.int p.1 p.2:=by rw[Y3,iI];rfl
 have lt:a<s.heap.objs.size:=bC ho
 refine wpAny_pyIter_slot S.typeIs PySem.F.slot_set_iter (ji PySem.F.slot_set_iter S.typeIs yI ?_ (PySem.F.args_set_iter_1 _))
 unfold Builtin.«frozenset.__iter__»
 refine ay (m:=Builtin.Frozenset.slot0 "__iter__" ⟨[.ref a],[]⟩) (kl (a:=a) rfl ?_)
 unfold Builtin.Frozenset.sizeOf
 refine ay (ay (G8 ho rfl hf (aJ ?_)))
 unfold setDrawn
 refine ay (ay (uf ho rfl hf (ay (mD (aJ ?_)))))
 have last:∀(first:Value) (s1:Shared),s1.heap.get? a=some (e9 es ep t)->(∀b o,s.heap.get? b=some o->s1.heap.get? b=some o)->s.heap.objs.size<=s1.heap.objs.size->s1.gens=s.gens->s1.os=s.os->
   (∀s',s'.heap.get? s1.heap.objs.size=some (p9 first 0 es.size ep a)->(∀b o,s1.heap.get? b=some o->s'.heap.get? b=some o)->Mu P w s.heap.objs.size a l s1.heap.objs.size s')->
   wpAny (model P w) A.in1 (do let e <-setEpoch a;let v <-newFields "set_iterator" [first,rawInt 0,Value.ref a,rawInt es.size,rawInt e];ret v) (λfin s'=>∃v,fin=Fin.done (Flow.ret v)/\∃T' r,s'.TypeIs v T'/\typeLookup (Value.type T') (Str.ofString "__next__")=pure (some r)/\Q v s') E s1:=by
  intro first s1 h1 k1 z1 g1 o1 hw
  refine ay (wpAny_setEpoch_of h1 rfl hf ?_)
  unfold newFields
  refine ay (eZ ?_ (by size_fits))
  have hI:(s1.heap.push { cls:=.type "set_iterator",data:=.fields [first,rawInt 0,Value.ref a,rawInt es.size,rawInt ep].toArray }).get? s1.heap.objs.size=some (p9 first 0 es.size ep a):=cH _ rfl
  refine aJ ⟨_,rfl,"set_iterator",_,⟨_,hI,rfl⟩,fB.lookup,q _ _ z1 (λb o e=>bR _ (k1 b o e)) g1 o1 (hw _ hI λb o e=>bR _ e)⟩
 show wpAny _ _ (if (!uI w&&(!t.plain&&decide (es.size > 1)))=true then _ else _) _ _ _
 by_cases hd:(!uI w&&(!t.plain&&decide (es.size > 1)))=true
 ·rw[aC hd]
  refine ay (zY es.size (List.range es.size) _ _ (by simp) λys d hp=>?_)
  have hyl:ys.length=es.size:=by rw[hp.length_eq,List.length_range]
  refine ay (wpAny_newTuple ?_ (by rw[aQ,hyl,hsz];exact Ap sz))
  refine last (.ref s.heap.objs.size) _ (bR _ ho) (λb o e=>bR _ e) (by show _<=(Heap.push _ _).objs.size;rw[pP];exact nk _) rfl rfl λs' hI k=>?_
  have e1:(Heap.push s.heap { cls:=.type "tuple",data:=.seq (ys.map λ(i:Nat)=>rawInt i).toArray }).objs.size=s.heap.objs.size+1:=pP _ _
  have YZ:=k s.heap.objs.size _ (cH _ rfl)
  have Y7:=k a _ (bR _ ho)
  have lts:∀j∈ys,j<es.size:=λj hj=>List.mem_range.mp (hp.mem_iff.mp hj)
  refine⟨ys.map λj=>(es.toList.map (·.2)).getD j .none,_,_,λC hC=>M5 (n:=l.length) (pl:=ys) (c:=0) (p:=s.heap.objs.size) (es:=es) (t:=t) (ep:=ep) (a:=a) hC (by rw[e1];exact bI (sf lt)) (by rw[e1];exact bI (qv _)) hf hsz (by rw[aQ,hyl,hsz]) (by rw[hyl,hsz]) λi hi=>?_,⟨by rw[<-hsz];exact hI,Y7,YZ⟩,?_,by simp,?_⟩
  ·have Pl:i<ys.length:=by rw[hyl,hsz];exact hi
   have hk:=lts ys[i] (se Pl)
   refine⟨ys[i],es[ys[i]].1,es[ys[i]].2,bP Pl,fM hk,?_⟩
   rw[cU,bP Pl,wa,nF,cU,sx,fM hk]
   rfl
  ·intro b hb
   simp only[bT,nu,or_false]at hb
   rcases hb with rfl | rfl | rfl
   ·exact⟨bC hI,.inr (by rw[e1];exact nk _)⟩
   ·exact⟨bC Y7,.inl rfl⟩
   ·exact⟨bC YZ,.inr (bB _)⟩
  ·rw[<-hval]
   refine(hp.map _).trans ?_
   rw[show(List.range es.size).map (λj=>(es.toList.map (·.2)).getD j .none)=es.toList.map (·.2) from ?_]
   refine qx λi=>?_
   by_cases hi:i<es.size
   ·simp[hi]
   ·simp[hi]
 ·rw[aB hd]
  refine ay (aJ ?_)
  refine last (rawInt 0) s ho (λ_ _ e=>e) (bB _) rfl rfl λs' hI k=>?_
  have Y7:=k a _ ho
  have fpl:∀b∈[s.heap.objs.size,a],b<s'.heap.objs.size/\(b=a\/s.heap.objs.size<=b):=λb hb=>by
   simp only[bT,nu,or_false]at hb
   rcases hb with rfl | rfl
   ·exact⟨bC hI,.inr (bB _)⟩
   ·exact⟨bC Y7,.inl rfl⟩
  cases hb:uI w with
  | true=>
   refine⟨(pickOrder (w.params.setOrder a ep) es).toList.map (·.2),_,_,λC hC=>zh (n:=l.length) (es:=es) (t:=t) (ep:=ep) (a:=a) (λ_=>0) hC (bI lt) hf hsz (by rw[aQ,(zB _ es).length_eq,dN,hsz]) λi _ s1 C' E' Q' h1 hq=>?_,⟨by rw[<-hsz];exact hI,Y7⟩,fpl,by simp,?_⟩
   ·refine Fe hb h1 hf ?_
    rw[cU,sx,Option.map_map]at hq
    exact hq
   ·rw[<-hval];exact(zB _ es).map _
  | false=>
   have led:t.led=true:=by rw[Tg,hb];rfl
   have hpz:t.place.size=es.size:=by
    unfold SetTable.fits at hf
    rw[eB]at hf
    exact eq_of_beq hf.1
   have dr:(!t.plain&&decide (es.size > 1))=false:=by rw[hb]at hd;simpa using hd
   refine⟨es.toList.map (·.2),_,_,λC hC=>zh (n:=l.length) (es:=es) (t:=t) (ep:=ep) (a:=a) (lV t.place) hC (bI lt) hf hsz (by rw[aQ,dN,hsz]) λi hi s1 C' E' Q' h1 hq=>?_,⟨by rw[<-hsz];exact hI,Y7⟩,fpl,by simp,by rw[hval]⟩
   refine Iu hb led dr h1 hf ?_
   rw[below_at iF (by lia)]
   rw[cU,sx]at hq
   by_cases h2:i<es.size
   ·rw[fM h2]at hq ⊢
    rw[fM (show i<t.place.size by lia)]
    have e:lV t.place (i+1)=t.place[i]'(by lia)+1:=by
     unfold lV
     rw[aB (by lia),Nat.add_sub_cancel,iM,fM (show i<t.place.size by lia)]
     rfl
    rw[e]at hq
    exact hq
   ·rw[Hl (by lia)]at hq ⊢
    exact hq
theorem De{Q:List Value->Shared->Prop}(hh:A.handled=none)(S:lJ w s.heap a l)
  (q:∀(s':Shared) (vs:List Value),(∀b o,s.heap.get? b=some o->s'.heap.get? b=some o)->s.heap.objs.size<=s'.heap.objs.size->s'.gens=s.gens->s'.os=s.os->vs.Perm (l.map λp=>Value.int p.1 p.2)->Q vs s'):wpAny (model P w) A (collect (.ref a)) Q E s:=by
 have lt:a<s.heap.objs.size:=let ⟨_,_,_,e,_⟩:=S.ex;bC e
 unfold collect
 refine ay (v8 (pQ entry_proto_collect' ?_))
 rw[vZ PySem.F.plain_proto_collect _]
 refine ay (m:=newList []) (eZ ?_)
 refine aJ ⟨v7 Bh _,pQ entry_list_iadd' ?_⟩
 rw[vZ Bh _]
 let L0:Obj:={ cls:=.type "list",data:=.seq ([]:List Value).toArray }
 have k0:∀b o,s.heap.get? b=some o->(s.heap.push L0).get? b=some o:=λb o e=>bR _ e
 have hL:(s.heap.push L0).get? s.heap.objs.size=some L0:=cH _ rfl
 have S0:lJ w (s.heap.push L0) a l:=S.at λo e=>k0 a o e
 show wpAny _ A.in1 (Builtin.List.listExtendWith (.ref s.heap.objs.size) (.ref a) (.ref s.heap.objs.size)) _ _ { s with heap:=s.heap.push L0 }
 unfold Builtin.List.listExtendWith
 refine ay (v5 (T:="set") (lJ.typeIs (s:={ s with heap:=s.heap.push L0 }) S0) ?_)
 have h1:Builtin.List.listSameRef (.ref s.heap.objs.size) (.ref a)=false:=by simp[Builtin.List.listSameRef,jK lt]
 have h2:(Value.type "set" == Value.type "list")=false:=by decide
 have h3:(Value.type "set" == Value.type "tuple")=false:=by decide
 simp only[h1,h2,h3,Ai,sg,iH]
 refine ay (Nn (s:={ s with heap:=s.heap.push L0 }) S0 λI s1 zI k1 g1 o1 W=>?_)
 have S1:lJ w s1.heap a l:=S0.at λo e=>k1 a o e
 have zW:=k1 _ _ hL
 have vp:s.heap.objs.size≠I:=by
  have:(s.heap.push L0).objs.size<=I:=zI
  rw[pP]at this
  exact bI this
 refine ay (jh (QR (lJ.typeIs S1) ?_))
 obtain⟨ord,fp,St,wk,st,fpl,mI,po⟩:=W
 have hlen:l.length<=sizeLine:=Ap S.sz
 have z1:(s.heap.push L0).objs.size=s.heap.objs.size+1:=pP _ _
 have nf:s.heap.objs.size∉fp:=λz=>by
  rcases(fpl _ z).2 with e | e
  ·exact absurd e (jK lt)
  ·have e':(s.heap.push L0).objs.size<=s.heap.objs.size:=e
   rw[z1]at e'
   exact absurd e' (Nat.not_succ_le_self _)
 refine t8 (λ_=>?_) (λz=>absurd (by decide +kernel) z)
 refine ay (lN (ay ?_))
 show wpAny _ _ (updateSeq s.heap.objs.size (·.push .none) >>= λ_=>updateSeq s.heap.objs.size (·.pop)) _ _ _
 refine ay (wpAny_updateSeq zW rfl ?_)
 have hL2:=mO (Obj.mapSeq (·.push Value.none)) zW rfl
 refine wpAny_updateSeq (hz:=by seq_fits) hL2 rfl ?_
 have hL3:=mO (Obj.mapSeq (·.pop)) hL2 rfl
 have oth:∀b o,b≠s.heap.objs.size->s1.heap.get? b=some o->((s1.heap.update s.heap.objs.size (Obj.mapSeq (·.push Value.none))).update s.heap.objs.size (Obj.mapSeq (·.pop))).get? b=some o:=
  λb o hb e=>(mP _ _ (fO hb)).trans ((mP _ _ (fO hb)).trans e)
 have W1:=wk A.in1 hh
 refine aJ ⟨v7 PySem.F.plain_extend_loop _,codeAny_extend_loopS W1 hlen _ nf _ l.length 0 _ #[] _ rfl (dc _) (W1.frame 0 s1 _ s1.toks st (bB _) λb hb o e=>oth b o (λz=>nf (z ▸ hb)) e) hL3 (ItemsOf.nil _) λs2 acc c2 mv hS2 Gf=>?_⟩
 refine ay (m:=load s.heap.objs.size) (wpAny_load hS2 (aJ ?_))
 refine q s2 acc.toList (λb o e=>mv.heap b o (λhm=>?_) (oth b o (bI (bC e)) (k1 b o (k0 b o e)))) (km (bC hS2)) (mv.gens.trans g1) (mv.os.trans o1) ?_
 ·have jF:b<s.heap.objs.size:=bC e
  rcases bT.mp hm with e1 | e1
  ·exact absurd e1 (bI jF)
  ·rw[df.mp e1]at jF
   have:(s.heap.push L0).objs.size<=I:=zI
   rw[z1]at this
   exact absurd (cV jF (Nat.le_of_succ_le this)) (iJ _)
 ·have e:acc.toList=ord:=by
   refine qx λj=>?_
   by_cases hj:j<l.length
   ·have h0:j<acc.size:=by rw[Gf.1];exact hj
    have h1:acc[j]?=some acc[j]:=fM h0
    rw[sx,h1,Gf.2 j _ h1]
   ·rw[nA (by rw[dN,Gf.1];lia),nA (by rw[po.length_eq,aQ];lia)]
  rw[e];exact po
theorem Jr{vs:List Value}{l:List (Int×Tok)}(po:vs.Perm (l.map λp=>Value.int p.1 p.2)):∃ts,IntsAre vs ts/\ts.Perm (l.map (·.1)):=by
 have:∃l':List (Int×Tok),vs=l'.map (λp:Int×Tok=>Value.int p.1 p.2)/\l'.Perm l:=by
  let back:Value->Int×Tok:=λe=>match e with | .int x t=>(x,t) | _=>(default,0)
  refine⟨vs.map back,?_,?_⟩
  ·rw[iI]
   conv=>lhs;rw[<-Af vs]
   refine v3 λe he=>?_
   obtain⟨z,_,rfl⟩:=gd.mp (po.mem_iff.mp he)
   rfl
  ·have:=po.map back
   rw[iI,show(back ∘ λp:Int×Tok=>Value.int p.1 p.2)=id from rfl,Af]at this
   exact this
 obtain⟨l',rfl,pl⟩:=this
 refine⟨l'.map (·.1),?_,pl.map _⟩
 clear po pl
 induction l' with
 | nil=>exact .nil
 | cons p l' ih=>exact .cons p.1 p.2 ih
theorem HS{x:Value}{us:List Int}{Q:Value->Shared->Prop}(Zg:us.length<64)
  (hc:∀(Q':List Value->Shared->Prop),(∀(s':Shared) (vs:List Value) (ts:List Int),(∀b o,s.heap.get? b=some o->s'.heap.get? b=some o)->s.heap.objs.size<=s'.heap.objs.size->s'.gens=s.gens->s'.os=s.os->IntsAre vs ts->ts.Perm us->Q' vs s')->wpAny (model P w) A.in1 (collect x) Q' E s)
  (q:∀(s':Shared) (D c:Nat) (vs:List Value) (ss:List Int),(∀b o,s.heap.get? b=some o->s'.heap.get? b=some o)->s.heap.objs.size<=D->s'.gens=s.gens->s'.os=s.os->s'.heap.get? D=some { cls:=.type "list",data:=.seq vs.toArray c }->IntsAre vs ss->
   ss.Perm us->ss.Pairwise (·<=·)->Q (.ref D) s'):wpAny (model P w) A (call (.builtin "sorted") [x]) Q E s:=by
 refine Calls.call_function_entry kind_sorted plain_sorted entry_sorted (args_sorted1 _) ?_
 unfold Builtin.«sorted»
 refine ay (m:=checkCount "sorted" 1 1 _) (aJ ?_)
 refine ay (hc _ λs1 vs ts k1 old g1 o1 Tb pts=>?_)
 have hl:vs.length=us.length:=by rw[Tb.length,pts.length_eq]
 refine ay (wpAny_newList ?_ (by rw[hl];exact lU (by lia)))
 have U9:(s1.heap.push (seqObj "list" vs.toArray 0)).get? s1.heap.objs.size=some (seqObj "list" vs.toArray 0):=cH _ rfl
 refine ay (jh (ji slot_list_sort ⟨_,U9,rfl⟩ entry_list_sort (list_sort_tree U9 Tb (by lia) λout ss' e1 e2 e3=>⟨_,rfl,?_⟩) (args_list_sort _)))
 obtain⟨c,hc⟩:=sortedHeap_at (out:=out) U9
 refine aJ ⟨_,rfl,q _ s1.heap.objs.size c out.toList ss' (λb o e=>?_) old g1 o1 (by rw[hc]) e1 (e2.trans pts) e3⟩
 have lt:=bC (k1 b o e)
 show(sortedHeap _ _ _ _).get? b=some o
 rw[sortedHeap_old (bI lt) (by rw[size_push'];exact sf lt)]
 exact bR _ (k1 b o e)
end
def InS(w:World)(p:Addr)(ss:List Int):HO:=.ext λh=>∃l,lJ w h p l/\∀z,z∈l.map (·.1)↔z∈ss
section
variable {X:Cx}
def Em(w:World):List V->Hp->VK->Prop:=λvs H Q=>∃a ss,vs=[.ref a]/\H a=some (InS w a ss)/\ss.length<64/\
 ∀ss':List Int,(∀z,z∈ss'↔z∈ss)->ss'.Pairwise (· < ·)->∀p,H p=none->Q (.ref p) (upd H p (.lst (ss'.map V.int)))
theorem Jd{l:List Int}(n:l.Nodup)(h:l.Pairwise (·<=·)):l.Pairwise (· < ·):=(List.Pairwise.and n h).imp λ⟨a,b⟩=>by lia
theorem vK(hh:X.A.handled=none):fX X (.builtin "sorted") (Em X.w):=by
 intro pins s σ H vs us Q I rv h
 obtain⟨a,ss,rfl,hq,hn,q⟩:=h
 obtain⟨u,rfl,ru⟩:=vals1 rv
 cases ru
 obtain⟨⟨l,hS,hm⟩,_,_⟩:=I.bx a _ hq
 have hl:(l.map (·.1)).length<=ss.length:=zJ hS.nd λx hx=>(hm x).mp hx
 refine HS (us:=l.map (·.1)) (by lia) (λQ' hQ'=>De (A:=X.A.in1) hh hS λs' vs k z g o po=>let ⟨ts,h1,h2⟩:=Jr po;hQ' s' vs ts k z g o h1 h2) λs' D c vs ss' k z g o hD Ta pss srt=>?_
 have Xj:H D=none:=I.bx.fresh z
 have I1:Inv X pins σ (upd H D (.lst (ss'.map V.int))) { s with heap:=s'.heap,toks:=s.toks }:=I.laid k z ⟨by rw[aQ,pss.length_eq];exact lU (by lia),vs,c,ur Ta,hD⟩
 refine⟨.ref D,_,I1.same rfl g o,rfl,q ss' (λz=>(pss.mem_iff).trans (hm z)) (Jd (pss.nodup_iff.mpr hS.nd) srt) _ Xj⟩
def Rl(w:World):List V->Hp->VK->Prop:=λvs H Q=>∃a,vs=[.ref a]/\∃ss:List Int,H a=some (.lst (ss.map V.int))/\ss.length<4000/\∀p,H p=none->Q (.ref p) (upd H p (InS w p ss))
def pj(w:World):List V->Hp->VK->Prop:=λvs H Q=>∃a,vs=[.ref a]/\∃ss:List Int,H a=some (InS w a ss)/\ss.length<64/\
 ∀ss':List Int,(∀z,z∈ss'↔z∈ss)->ss'.Pairwise (· < ·)->∀p,H p=none->Q (.ref p) (upd H p (.lst (ss'.map V.int)))
theorem yd(hh:X.A.handled=none):fX X (.builtin "sorted") (pj X.w):=(vK hh).imp λx H Q ⟨p,e,ss,h,n,q⟩=>⟨p,ss,e,h,n,q⟩
end
end L2
end
section
namespace HT
open PySem PyProof.Rows L2
section
variable {prog:Program}{w:World}{A:Around}{E:Value->Shared->Prop}{s:Shared}
theorem pK{t sl:Addr}{items:Array Value}{vl vu:Value}{lo hi:Option Int}{Q:Value->Shared->Prop}(ht:IsTup s.heap t items)(hs:s.heap.IsSliceOf sl vl vu .none)(pl:IsPart vl lo)(pu:IsPart vu hi)
  (h1:dB items.size 0 lo=0) (h2:dB items.size items.size hi=items.size) (h:Q (.ref t) s):wpAny (model prog w) A (getItem (.ref t) (.ref sl)) Q E s:=by
 obtain⟨os,hos,hcs,hds⟩:=id hs
 have hTs:s.TypeIs (.ref sl) "slice":=⟨os,hos,hcs⟩
 unfold getItem
 try with_reducible refine jh ?_
 first | refine ay (aJ ?_) | skip
 refine ay (wpAny_sequenceKey ht.typeIs (by decide) ?_)
 refine ay (pU (name:=Str.ofString "__getitem__") ht.typeIs zb
  (ji zb ht.typeIs entry_tuple_getitem ?_ (args_tuple_getitem _ _)))
 show wpAny _ _ (Builtin.Tuple.tupleItemsOf (.ref t) >>= _) _ _ s
 refine ay (tupleItemsOf_ ht ?_)
 refine ay (v5 hTs ?_)
 rw[aC (by decide)]
 refine ay (kP hs pl pu ?_)
 have fq:(((dB items.size 0 lo:Nat):Int)==0&&(1:Int)==1&&(dB items.size items.size hi-dB items.size 0 lo)==items.size)=true:=by
  rw[h1,h2];simp
 show wpAny _ _ (if (((dB items.size 0 lo:Nat):Int)==0&&(1:Int)==1&&(dB items.size items.size hi-dB items.size 0 lo)==items.size)=true then _ else _) _ _ s
 rw[aC fq]
 refine ay (m:=Builtin.Tuple.tupleIsExact (.ref t)) ?_
 unfold Builtin.Tuple.tupleIsExact
 refine ay (v5 ht.typeIs (aJ ?_))
 rw[aC (by decide)]
 exact ay (lN (aJ ⟨_,rfl,aJ h⟩))
end
end HT
namespace L2
open PySem PySem.Spec PyProof.Rows
section
variable {X:Cx}
def KD:V->Option Int->Option Int->Hp->VK->Prop:=λx lo hi H Q=>∃a,x=.ref a/\∃xs,H a=some (.tup xs)/\
 ((HT.dB xs.length 0 lo=0/\HT.dB xs.length xs.length hi=xs.length)->Q (.ref a) H)/\(¬(HT.dB xs.length 0 lo=0/\HT.dB xs.length xs.length hi=xs.length)->∀p,H p=none->Q (.ref p) (upd H p (.tup (jG xs lo hi))))
theorem aB7:Vh X KD:=by
 intro pins s σ H x v vl vu lo hi sl Q I rx hs pl pu h
 obtain⟨a,rfl,xs,hx,q1,q2⟩:=h
 by_cases hw:HT.dB xs.length 0 lo=0/\HT.dB xs.length xs.length hi=xs.length
 ·cases rx
  obtain⟨its,r,ht,hz⟩:=I.tuple (bH hx)
  have hlen:its.toArray.size=xs.length:=by rw[cO];exact r.length.symm
  refine⟨"tuple",_,zb.lookup,ht.typeIs,?_⟩
  exact HT.pK ht hs pl pu (by rw[hlen];exact hw.1) (by rw[hlen];exact hw.2) ⟨.ref a,H,I,rfl,q1 hw⟩
 ·exact aEc pins s σ H _ v vl vu lo hi sl Q I rx hs pl pu ⟨a,rfl,xs,hx,hw,q2 hw⟩
end
section
variable {X:Cx}{pins:List (Addr×Obj)}{s:Shared}{σ:St}{H:Hp}
def aAe(neg:Bool):R2:=λx y H Q=>∃a L,x=.ref a/\y=.ref L/\∃u bs ts,H a=some (.tup (List.map V.int u))/\H L=some (.lst (List.map V.ref bs))/\aI H bs ts/\Q (.bl (if neg then !decide (u∈ts) else decide (u∈ts))) H
end
def oO{δ:Type}(Rep:Hp->V->δ->Prop)(H:Hp)(vs:List V)(ds:List δ):Prop:=vs.length=ds.length/\∀(i:Nat) v d,vs[i]?=some v->ds[i]?=some d->Rep H v d
theorem oO.nil{δ:Type}{Rep:Hp->V->δ->Prop}{H:Hp}:oO Rep H [] []:=⟨rfl,λi v d h=>by simp at h⟩
theorem oO.snoc{δ:Type}{Rep:Hp->V->δ->Prop}{H:Hp}{vs:List V}{ds:List δ}{v:V}{d:δ}(h:oO Rep H vs ds)(hv:Rep H v d):oO Rep H (vs++[v]) (ds++[d]):=by
 refine⟨by rw[cP,cP,h.1];rfl,λi u e hu he=>?_⟩
 have hl:=h.1
 by_cases hi:i<vs.length
 ·rw[nE hi]at hu
  rw[nE (by lia)]at he
  exact h.2 i u e hu he
 ·rw[mQ (by lia)]at hu
  rw[mQ (by lia),<-hl]at he
  have h0:i-vs.length=0:=by
   cases z:i-vs.length with
   | zero=>rfl
   | succ n=>rw[z]at hu;simp at hu
  rw[h0]at hu he
  cases hu;cases he
  exact hv
theorem oO.mono{δ:Type}{Rep:Hp->V->δ->Prop}{H H':Hp}{vs:List V}{ds:List δ}(k:∀v d,Rep H v d->Rep H' v d)(h:oO Rep H vs ds):oO Rep H' vs ds:=⟨h.1,λi v d a b=>k v d (h.2 i v d a b)⟩
def jH(H:Hp)(v:V)(x:List Int):Prop:=∃b,v=.ref b/\H b=some (.tup (List.map V.int x))
theorem BP{H:Hp}{vs:List V}{ts:List (List Int)}(h:oO jH H vs ts):∃bs,vs=List.map V.ref bs/\aI H bs ts:=by
 induction vs generalizing ts with
 | nil=>
  have:ts=[]:=Ho.mp h.1.symm
  subst this
  exact⟨[],rfl,rfl,λi b t e=>by simp at e⟩
 | cons v vs ih=>
  cases ts with
  | nil=>exact absurd h.1 (by simp)
  | cons t ts=>
   obtain⟨bs,e1,s1⟩:=ih (ts:=ts) ⟨by have:=h.1;simpa using this,λi v d a b=>h.2 (i+1) v d (by simpa using a) (by simpa using b)⟩
   obtain⟨b,rfl,hb⟩:=h.2 0 v t rfl rfl
   refine⟨b::bs,by rw[e1];rfl,by rw[fh,fh,s1.1],λi c u hc hu=>?_⟩
   cases i with
   | zero=>cases hc;cases hu;exact hb
   | succ n=>exact s1.2 n c u (by simpa using hc) (by simpa using hu)
theorem o6{δ:Type}(f:Nat->Option δ)(i:Nat):(List.range (i+1)).filterMap f=(List.range i).filterMap f++(f i).toList:=by
 rw[List.range_succ,List.filterMap_append]
 cases e:f i <;> simp[e]
theorem T5{δ:Type}(f:Nat->Option δ)(i:Nat):((List.range i).filterMap f).length<=i:=fJ (List.length_filterMap_le _ _) (by rw[List.length_range];exact bB _)
theorem JR{K:PySem.W.Frag}{a:Addr}{zs:List V}{idx:List Nat}{tt:CB->TT}{te:CB->TE}{σ:St}{Q:VK}{H1:Hp}{δ:Type}(S:Hp->Hp->Prop)(f:Nat->Option δ)(Rep:Addr->Hp->V->δ->Prop)(sr:S H1 H1)(st:∀H H',S H1 H->S H H'->S H1 H')
  (sp:∀D H o,H1 D=none->S H1 H->S H1 (upd H D o)) (sk:∀D H H' o,H1 D=none->S H1 H->S H H'->H D=some o->H' D=some o)
  (mono:∀D H H' v d,S H1 H->S H H'->Rep D H v d->Rep D H' v d) (Iv:∀D H o v d,H1 D=none->S H1 H->(∃xs,H D=some (.lst xs))->Rep D H v d->Rep D (upd H D o) v d)
  (hL:∀H,S H1 H->H a=some (.lst zs)) (l9:zs.length<=900000)
  (hs:∀(D:Addr) (c:CB) (H:Hp) (i:Nat) (z:V) (yes:V->Hp->Prop) (no:Hp->Prop),zs[i]?=some z->S H1 H->H1 D=none->(∃xs,H D=some (.lst xs))->(∀d,f i=some d->∀v H',S H H'->Rep D H' v d->yes v H')->(f i=none->∀H',S H H'->no H')->tt c (some (z)::cE σ idx) H λb H4=>if b=true then te c (some (z)::cE σ idx) H4 yes else no H4)
  (q:∀D H' vs,S H1 H'->H1 D=none->H' D=some (.lst vs)->oO (Rep D) H' vs ((List.range (zs.length)).filterMap f)->Q (.ref D) H'):kg (J9 K a) 1 idx (λ_=>dR 0) tt te σ Q H1:=by
 obtain⟨Pc,pJ⟩:∃Pc:Addr->Nat->List V->Hp->Prop,∀Z i ys H',Pc Z i ys H'↔S H1 H'/\H' Z=some (.lst ys)/\oO (Rep Z) H' ys ((List.range i).filterMap f):=⟨_,λ_ _ _ _=>dZ⟩
 refine Dd Pc (λZ hZ=>(pJ _ _ _ _).mpr ⟨sp Z _ _ hZ sr,ah,.nil⟩) (λZ hZ i ys H' _ pv=>hL H' ((pJ _ _ _ _).mp pv).1) (λZ hZ i z ys H' hz pv cb=>?_) (λZ hZ ys H' pv=>?_)
 ·obtain⟨s1,xR,rl⟩:=(pJ _ _ _ _).mp pv
  have hi:i<zs.length:=(dO.mp hz).1
  refine hs Z cb H' i z _ _ hz s1 hZ ⟨_,xR⟩ (λd hd v H2 s2 hv=>?_) (λhn H2 s2=>?_)
  ·refine⟨sk Z _ _ _ hZ s1 s2 xR,?_,(pJ _ _ _ _).mpr ⟨sp Z _ _ hZ (st _ _ s1 s2),ah,?_⟩⟩
   ·rw[rl.1]
    have:=T5 f i
    exact si (by lia:((List.range i).filterMap f).length<=1000000) (by decide)
   ·rw[o6,hd]
    exact(((rl.mono λv d=>mono Z _ _ v d s1 s2)).snoc hv).mono λv d=>Iv Z H2 _ v d hZ (st _ _ s1 s2) ⟨_,sk Z _ _ _ hZ s1 s2 xR⟩
  ·refine(pJ _ _ _ _).mpr ⟨st _ _ s1 s2,sk Z _ _ _ hZ s1 s2 xR,?_⟩
   rw[o6,hn,Option.toList_none,gh]
   exact rl.mono λv d=>mono Z _ _ v d s1 s2
 ·obtain⟨s1,xR,rl⟩:=(pJ _ _ _ _).mp pv
  exact q Z H' ys s1 hZ xR rl
theorem O3{K:PySem.W.Frag}{a:Addr}{zs:List V}{idx:List Nat}{tt:CB->TT}{te:CB->TE}{σ:St}{Q:VK}{H1:Hp}{δ:Type}(S:Hp->Hp->Prop)(f:Nat->Option δ)(Rep:Addr->Hp->V->δ->Prop)(sr:S H1 H1)(st:∀H H',S H1 H->S H H'->S H1 H')
  (sp:∀D H o,H1 D=none->S H1 H->S H1 (upd H D o)) (sk:∀D H H' o,H1 D=none->S H1 H->S H H'->H D=some o->H' D=some o)
  (mono:∀D H H' v d,S H1 H->S H H'->Rep D H v d->Rep D H' v d) (Iv:∀D H o v d,H1 D=none->S H1 H->(∃xs,H D=some (.lst xs))->Rep D H v d->Rep D (upd H D o) v d)
  (hL:∀H,S H1 H->H a=some (.tup zs)) (l9:zs.length<=900000)
  (hs:∀(D:Addr) (c:CB) (H:Hp) (i:Nat) (z:V) (yes:V->Hp->Prop) (no:Hp->Prop),zs[i]?=some z->S H1 H->H1 D=none->(∃xs,H D=some (.lst xs))->(∀d,f i=some d->∀v H',S H H'->Rep D H' v d->yes v H')->(f i=none->∀H',S H H'->no H')->tt c (some (z)::cE σ idx) H λb H4=>if b=true then te c (some (z)::cE σ idx) H4 yes else no H4)
  (q:∀D H' vs,S H1 H'->H1 D=none->H' D=some (.lst vs)->oO (Rep D) H' vs ((List.range (zs.length)).filterMap f)->Q (.ref D) H'):kg (Yh K a) 1 idx (λ_=>dR 0) tt te σ Q H1:=by
 obtain⟨Pc,pJ⟩:∃Pc:Addr->Nat->List V->Hp->Prop,∀Z i ys H',Pc Z i ys H'↔S H1 H'/\H' Z=some (.lst ys)/\oO (Rep Z) H' ys ((List.range i).filterMap f):=⟨_,λ_ _ _ _=>dZ⟩
 refine oB Pc (λZ hZ=>(pJ _ _ _ _).mpr ⟨sp Z _ _ hZ sr,ah,.nil⟩) (λZ hZ i ys H' _ pv=>hL H' ((pJ _ _ _ _).mp pv).1) (λZ hZ i z ys H' hz pv cb=>?_) (λZ hZ ys H' pv=>?_)
 ·obtain⟨s1,xR,rl⟩:=(pJ _ _ _ _).mp pv
  have hi:i<zs.length:=(dO.mp hz).1
  refine hs Z cb H' i z _ _ hz s1 hZ ⟨_,xR⟩ (λd hd v H2 s2 hv=>?_) (λhn H2 s2=>?_)
  ·refine⟨sk Z _ _ _ hZ s1 s2 xR,?_,(pJ _ _ _ _).mpr ⟨sp Z _ _ hZ (st _ _ s1 s2),ah,?_⟩⟩
   ·rw[rl.1]
    have:=T5 f i
    exact si (by lia:((List.range i).filterMap f).length<=1000000) (by decide)
   ·rw[o6,hd]
    exact(((rl.mono λv d=>mono Z _ _ v d s1 s2)).snoc hv).mono λv d=>Iv Z H2 _ v d hZ (st _ _ s1 s2) ⟨_,sk Z _ _ _ hZ s1 s2 xR⟩
  ·refine(pJ _ _ _ _).mpr ⟨st _ _ s1 s2,sk Z _ _ _ hZ s1 s2 xR,?_⟩
   rw[o6,hn,Option.toList_none,gh]
   exact rl.mono λv d=>mono Z _ _ v d s1 s2
 ·obtain⟨s1,xR,rl⟩:=(pJ _ _ _ _).mp pv
  exact q Z H' ys s1 hZ xR rl
theorem jy{K:PySem.W.Frag}{a:Addr}{zs:List V}{idx:List Nat}{tt:CB->TT}{te:CB->TE}{σ:St}{Q:VK}{H1:Hp}{δ:Type}(f:Nat->Option δ)(Rep:Addr->Hp->V->δ->Prop)(mono:∀D H H' v d,cp H H'->Rep D H v d->Rep D H' v d)(Iv:∀D H o v d,(∃xs,H D=some (.lst xs))->H1 D=none->Rep D H v d->Rep D (upd H D o) v d)
  (hL:H1 a=some (.lst zs)) (l9:zs.length<=900000)
  (hs:∀(D:Addr) (c:CB) (H:Hp) (i:Nat) (z:V) (yes:V->Hp->Prop) (no:Hp->Prop),zs[i]?=some z->cp H1 H->H1 D=none->(∃xs,H D=some (.lst xs))->(∀d,f i=some d->∀v H',cp H H'->Rep D H' v d->yes v H')->(f i=none->∀H',cp H H'->no H')->tt c (some (z)::cE σ idx) H λb H4=>if b=true then te c (some (z)::cE σ idx) H4 yes else no H4)
  (q:∀D H' vs,cp H1 H'->H1 D=none->H' D=some (.lst vs)->oO (Rep D) H' vs ((List.range (zs.length)).filterMap f)->Q (.ref D) H'):kg (J9 K a) 1 idx (λ_=>dR 0) tt te σ Q H1:=
 JR cp f Rep (λ_ _ e=>e) (λ_ _ a b=>a.trans b) (λD H o hD s b u e=>by rw[aj (av e hD)];exact s b u e) (λD H H' o _ _ s e=>s D o e) (λD H H' v d _ s r=>mono D H H' v d s r) (λD H o v d hD _ hl r=>Iv D H o v d hl hD r) (λH s=>s _ _ hL) l9 hs q
theorem je{K:PySem.W.Frag}{a:Addr}{zs:List V}{idx:List Nat}{tt:CB->TT}{te:CB->TE}{σ:St}{Q:VK}{H1:Hp}{δ:Type}(f:Nat->Option δ)(Rep:Addr->Hp->V->δ->Prop)(mono:∀D H H' v d,cp H H'->Rep D H v d->Rep D H' v d)(Iv:∀D H o v d,(∃xs,H D=some (.lst xs))->H1 D=none->Rep D H v d->Rep D (upd H D o) v d)
  (hL:H1 a=some (.tup zs)) (l9:zs.length<=900000)
  (hs:∀(D:Addr) (c:CB) (H:Hp) (i:Nat) (z:V) (yes:V->Hp->Prop) (no:Hp->Prop),zs[i]?=some z->cp H1 H->H1 D=none->(∃xs,H D=some (.lst xs))->(∀d,f i=some d->∀v H',cp H H'->Rep D H' v d->yes v H')->(f i=none->∀H',cp H H'->no H')->tt c (some (z)::cE σ idx) H λb H4=>if b=true then te c (some (z)::cE σ idx) H4 yes else no H4)
  (q:∀D H' vs,cp H1 H'->H1 D=none->H' D=some (.lst vs)->oO (Rep D) H' vs ((List.range (zs.length)).filterMap f)->Q (.ref D) H'):kg (Yh K a) 1 idx (λ_=>dR 0) tt te σ Q H1:=
 O3 cp f Rep (λ_ _ e=>e) (λ_ _ a b=>a.trans b) (λD H o hD s b u e=>by rw[aj (av e hD)];exact s b u e) (λD H H' o _ _ s e=>s D o e) (λD H H' v d _ s r=>mono D H H' v d s r) (λD H o v d hD _ hl r=>Iv D H o v d hl hD r) (λH s=>s _ _ hL) l9 hs q
theorem jH.mono{H H':Hp}{v:V}{d:List Int}(k:∀b xs,H b=some (.tup xs)->H' b=some (.tup xs))(r:jH H v d):jH H' v d:=let ⟨b,e,h⟩:=r;⟨b,e,k _ _ h⟩
theorem jH.put{H:Hp}{v:V}{d:List Int}{D:Addr}{o:HO}(hl:∃xs,H D=some (.lst xs))(r:jH H v d):jH (upd H D o) v d:=by
 obtain⟨b,rfl,h⟩:=r
 obtain⟨xs,hx⟩:=hl
 exact⟨b,rfl,by rw[aj (aN h hx (by intro z;cases z))];exact h⟩
theorem jH.same:∀(D:Addr) (H H':Hp) (v:V) (d:List Int),cp H H'->(λ_=>jH) D H v d->(λ_=>jH) D H' v d:=λ_ _ _ _ _ s r=>r.mono λb xs e=>s _ _ e
theorem jH.puts{H1:Hp}:∀(D:Addr) (H:Hp) (o:HO) (v:V) (d:List Int),(∃xs,H D=some (.lst xs))->H1 D=none->(λ_=>jH) D H v d->(λ_=>jH) D (upd H D o) v d:=λ_ _ _ _ _ hl _ r=>r.put hl
def Ye(H:Hp)(v d:V):Prop:=v=d
theorem Bo{H:Hp}{vs ds:List V}(h:oO Ye H vs ds):vs=ds:=qx λi=>by
 by_cases hi:i<vs.length
 ·have hj:i<ds.length:=by have:=h.1;lia
  rw[bP hi,bP hj]
  exact fZ some (h.2 i _ _ (bP hi) (bP hj))
 ·rw[nA (by lia),nA (by have:=h.1;lia)]
theorem XD{δ:Type}{f:Nat->Option δ}{l:List δ}(h:∀i,i<l.length->f i=l[i]?):(List.range l.length).filterMap f=l:=by
 have:∀n,n<=l.length->(List.range n).filterMap f=l.take n:=λn=>by
  induction n with
  | zero=>intro _;rfl
  | succ n ih=>
   intro hn
   rw[o6,ih (by lia),h n (by lia),jj]
 rw[this _ (bB _),iK]
theorem pz{δ:Type}{l:List δ}{p:δ->Bool}{f:Nat->Option δ}(h:∀i (hi:i<l.length),f i=if p l[i] then some l[i] else none):(List.range l.length).filterMap f=l.filter p:=by
 have:∀n,n<=l.length->(List.range n).filterMap f=(l.take n).filter p:=λn=>by
  induction n with
  | zero=>intro _;rfl
  | succ n ih=>
   intro hn
   rw[o6,ih (by lia),h n (by lia),jj,Ay,bP (by lia)]
   cases e:p l[n] <;> simp[e]
 rw[this _ (bB _),iK]
theorem xZ{α δ:Type}{l:List α}{g:α->δ}{f:Nat->Option δ}(h:∀i (hi:i<l.length),f i=some (g l[i])):(List.range l.length).filterMap f=l.map g:=by
 have:=XD (f:=f) (l:=l.map g) λi hi=>by
  rw[aQ]at hi
  rw[h i hi,cU,bP hi];rfl
 rwa [aQ]at this
end L2
end
section
namespace L2
open PySem
theorem aI.mono{H H':Hp}{bs:List Addr}{ts:List (List Int)}(k:∀b xs,H b=some (.tup xs)->H' b=some (.tup xs))(s:aI H bs ts):aI H' bs ts:=⟨s.1,λi b t hb ht=>k _ _ (s.2 i b t hb ht)⟩
theorem aI.snoc{H:Hp}{bs:List Addr}{ts:List (List Int)}{b:Addr}{t:List Int}(s:aI H bs ts)(hb:H b=some (.tup (List.map V.int t))):aI H (bs++[b]) (ts++[t]):=by
 refine⟨by rw[cP,cP,s.1];rfl,λi c u hc hu=>?_⟩
 by_cases hi:i<bs.length
 ·rw[nE hi]at hc
  rw[nE (by rw[<-s.1];exact hi)]at hu
  exact s.2 i c u hc hu
 ·rw[mQ (by lia)]at hc
  rw[mQ (by rw[<-s.1];lia),<-s.1]at hu
  have h0:i-bs.length=0:=by
   cases z:i-bs.length with
   | zero=>rfl
   | succ n=>rw[z]at hc;simp at hc
  rw[h0]at hc hu
  cases hc;cases hu
  exact hb
theorem aI.app{H:Hp}{bs cs:List Addr}{ts us:List (List Int)}(s:aI H bs ts)(u:aI H cs us):aI H (bs++cs) (ts++us):=by
 refine⟨by rw[cP,cP,s.1,u.1],λi c x hc hx=>?_⟩
 by_cases hi:i<bs.length
 ·rw[nE hi]at hc
  rw[nE (by rw[<-s.1];exact hi)]at hx
  exact s.2 i c x hc hx
 ·rw[mQ (by lia)]at hc
  rw[mQ (by rw[<-s.1];lia),<-s.1]at hx
  exact u.2 _ c x hc hx
end L2
end
section
namespace L2
open PySem PySem.Spec PyProof.Rows
section
variable {P:Program}{w:World}{A:Around}{E:Value->Shared->Prop}{s:Shared}
theorem Np{l:Addr}{items:Array Value}{ss:List Int}{Q:Value->Shared->Prop}(hh:A.handled=none)(hl:s.heap.IsTuple l items)(hi:IntsAre items.toList ss)(hb:items.size+1<scanBound)
  (h:∀(h':Heap) (tk:Nat) (ls:List (Int×Tok)),lJ w h' s.heap.objs.size ls->(∀z,z∈ls.map (·.1)↔z∈ss)->(∀b o,b<s.heap.objs.size->s.heap.get? b=some o->h'.get? b=some o)->Q (.ref s.heap.objs.size) { s with heap:=h',toks:=tk }) :
  wpAny (model P w) A (call (.type "set") [.ref l]) Q E s:=by
 have e:∀z:Int,(∃j,j<items.size/\ss.getD j 0=z)↔z∈ss:=λz=>by
  have hlen:items.size=ss.length:=by rw[<-dN];exact hi.length
  rw[hlen,Hh]
  constructor
  ·rintro⟨j,hj,e⟩;exact⟨j,hj,by rw[<-e];simp[hj]⟩
  ·rintro⟨j,hj,e⟩;exact⟨j,hj,by rw[<-e];simp[hj]⟩
 obtain⟨c,tl,aF2⟩:=iL.mro
 have aCT:=iL.made
 have Ju:=iL.sub
 refine jJ (Ak (aJ (a:=_) ⟨Ar _ (by decide +kernel),pQ PySem.F.entry_type_call ?_⟩))
 rw[Around.under_plain (weight_type_call_type "set" [.ref l] []) rfl]
 have h1:=iL.notType
 have h2:=iL.canCreate
 have hct:=PySem.F.typeCall_set_1 (.ref l)
 repeat (any_goals (first | assumption | wp_step))
 refine ic (Ky (x:=.ref l) (E:=E) (Q:=λobj s₁=>obj=.ref s.heap.objs.size/\s₁={ s with heap:=s.heap.push (e9 #[] 0 (.fresh 0 0 (!uI w))) }) ⟨rfl,rfl⟩) λr s₁ hr=>?_
 cases r with
 | error e=>exact hr
 | ok fl=>
  cases fl with
  | ret obj=>
   obtain⟨rfl,rfl⟩:=hr
   have hS:(s.heap.push (e9 #[] 0 (.fresh 0 0 (!uI w)))).get? s.heap.objs.size=some (e9 #[] 0 (.fresh 0 0 (!uI w))):=cH _ rfl
   have hT:Shared.TypeIs { s with heap:=s.heap.push (e9 #[] 0 (.fresh 0 0 (!uI w))) } (.ref s.heap.objs.size) "set":=⟨_,hS,rfl⟩
   have hli:=iL.init.lookup
   have hbi:=iL.init.bind (.ref s.heap.objs.size)
   repeat (any_goals (first | assumption | wp_step))
   refine ic (Ba (R:=wants (λr s₂=>r=.none/\∃h' tk ls,s₂={ s with heap:=h',toks:=tk }/\lJ w h' s.heap.objs.size ls/\(∀z,z∈ls.map (·.1)↔z∈ss)/\
     (∀b o,b<s.heap.objs.size->s.heap.get? b=some o->h'.get? b=some o)) E) iL.init.plain PySem.F.entry_set_init (check_set_init_1 hT ?_)) λr₂ s₂ hr₂=>?_
   ·obtain⟨ol,Xh,vW,nl,Pn⟩:=hl
    obtain⟨aE8,Si,aCs,Ik⟩:=ol
    simp only at vW Pn
    subst vW;subst Pn
    have aA8:(s.heap.push (e9 #[] 0 (.fresh 0 0 (!uI w)))).get? l=some { cls:=.type "tuple",dict:=Si,data:=.seq items nl,slots:=Ik }:=bR _ Xh
    have aFU:=PySem.F.sub_tuple_set
    have aFV:=PySem.F.sub_tuple_frozenset
    have vp:(Value.type "tuple" == Value.type "dict")=false:=by decide
    have Og:(s.heap.push (e9 #[] 0 (.fresh 0 0 (!uI w)))).IsTuple l items:=⟨_,aA8,rfl,nl,rfl⟩
    unfold Builtin.«set.__init__» noKeywords Builtin.Frozenset.updateFrom
    unfold e9 at *
    generalize hPI:pyIter=PI
    wp_walk
    subst hPI
    refine wpAny_pyIter_tuple Og (ay (v8 ?_))
    have hlS:l<s.heap.objs.size:=bC Xh
    have hh3:A.in1.in1.in1.handled=none:=by simp[hh]
    have hsz:(s.heap.push (e9 #[] 0 (.fresh 0 0 (!uI w)))).objs.size=s.heap.objs.size+1:=pP _ _
    have aBb:l≠(s.heap.push (e9 #[] 0 (.fresh 0 0 (!uI w)))).objs.size:=by rw[hsz];exact bI (sf hlS)
    have hSf:s.heap.objs.size∉[(s.heap.push (e9 #[] 0 (.fresh 0 0 (!uI w)))).objs.size,l]:=by
     rw[hsz];simp only[bT,df,nu,or_false,not_or];exact⟨bI (qv _),jK hlS⟩
    refine Fm ((Walks.tuple hh3 _ l aBb items).toS) s.heap.objs.size hSf (λj=>ss.getD j 0) (λi v hv=>?hv) hb (items.size-0) 0 _ [] (by lia) (dc _)
     ⟨⟨_,cH _ rfl,rfl,rfl⟩,(Og.push _)⟩ ?hS0 (dc _) (λz=>⟨(λz=>nomatch z),λ⟨_,hj,_⟩=>absurd hj (Ao _)⟩) ?hR
    case hv=>exact xJ hi i v (by rw[sx];exact hv)
    case hS0=>exact⟨⟨#[],0,_,bR _ hS,rfl,rfl,rfl,List.Pairwise.nil⟩,qq,by decide⟩
    case hR=>
     intro s' l' hm Xs mem
     obtain⟨h',g',d',tk',os'⟩:=s'
     have eg:g'=s.gens:=hm.gens
     have ed:d'=s.drawn:=hm.drawn
     have eo:os'=s.os:=hm.os
     subst eg;subst ed;subst eo
     refine aJ (aJ ⟨rfl,h',tk',l',rfl,Xs,λz=>(mem z).trans (e z),λb o hb e=>?_⟩)
     refine hm.heap b o ?_ (bR _ (bR _ e))
     rw[hsz]
     simp only[bT,df,nu,or_false,not_or];exact⟨bI hb,bI (sf hb)⟩
   ·cases r₂ with
    | error e=>exact hr₂
    | ok fl₂=>
     cases fl₂ with
     | ret r=>
      obtain⟨rfl,h',tk,ls,rfl,Xs,hm',Oh⟩:=hr₂
      repeat (any_goals (first | assumption | wp_step))
      exact h _ _ _ Xs hm' Oh
     | _=>exact hr₂.elim
  | _=>exact hr.elim
end
section
variable {X:Cx}
def Cg(w:World):List V->Hp->VK->Prop:=λvs H Q=>∃a,vs=[.ref a]/\∃ss:List Int,H a=some (.tup (ss.map V.int))/\ss.length<4000/\∀p,H p=none->Q (.ref p) (upd H p (InS w p ss))
theorem JZ(hh:X.A.handled=none):fX X (.type "set") (Cg X.w):=by
 intro pins s σ H vs us Q I rv h
 obtain⟨a,rfl,ss,hq,hn,q⟩:=h
 obtain⟨u,rfl,ru⟩:=vals1 rv
 cases ru
 obtain⟨its,r,pl,hz⟩:=I.tuple (bH hq)
 have hl:=r.length
 rw[aQ]at hl
 refine Np (ss:=ss) hh pl (intsAre_of r) (by show its.toArray.size+1<4096;rw[cO];lia) λh' tk ls hS hm hk=>?_
 have Oh:∀b o,s.heap.get? b=some o->h'.get? b=some o:=λb o e=>hk b o (bC e) e
 refine⟨.ref s.heap.objs.size,_,I.laid (t':=tk) (o:=InS X.w s.heap.objs.size ss) Oh (bB _) ?_,rfl,q _ I.fresh⟩
 exact⟨⟨ls,hS,hm⟩,(let ⟨_,_,_,e,_⟩:=hS.ex;⟨_,e⟩),λh1 h2 ⟨l1,x1,m1⟩ k=>⟨l1,x1.at k,m1⟩⟩
end
end L2
end
section
namespace L2
open PySem
theorem Nu{H H1:Hp}{p:Addr}{o:HO}(a:cp H H1)(hn:H p=none):cp H (upd H1 p o):=λb u e=>by rw[aj (av e hn)];exact a b u e
theorem zP{κ:Type} [DecidableEq κ] {aM:List (κ×V)} {k:κ} {v:V}:(putK aM k v).map (·.1)=if k∈aM.map (·.1) then aM.map (·.1) else aM.map (·.1)++[k]:=by
 unfold putK
 by_cases h:(aM.any λkv=>decide (kv.1=k))=true
 ·have hm:k∈aM.map (·.1):=by
   obtain⟨kv,hkv,e⟩:=ik.mp h
   rw[<-of_decide_eq_true e]
   exact wq hkv
  rw[aC h,aC hm,iI]
  refine v3 λkv _=>?_
  show(if kv.1=k then (kv.1,v) else kv).1=kv.1
  split <;> rfl
 ·have hm:k∉aM.map (·.1):=λz=>by
   obtain⟨kv,hkv,e⟩:=gd.mp z
   exact h (ik.mpr ⟨kv,hkv,decide_eq_true e⟩)
  rw[aB h,aB hm,fK]
  rfl
theorem CP{a b:List Int}(h:(a.map Sum.inl:List Key)=b.map Sum.inl):a=b:=(Az λ_ _ e=>t5 e).mp h
theorem jr{qs:List Addr}{i:Nat}{x:V}(h:(List.map V.ref qs)[i]?=some x):∃q,qs[i]?=some q/\x=.ref q:=by
 rw[cU]at h
 cases e:qs[i]? with
 | none=>rw[e]at h;cases h
 | some q=>rw[e]at h;exact⟨q,rfl,(dU h).symm⟩
theorem aD{H:Hp}{p:Addr}(h:H p=none)(o:HO):cp H (upd H p o):=λb u q=>by rw[aj (av q h)];exact q
def QG:Sp:=λvs H Q _=>∃L,vs=[.ref L]/\∃as ss,H L=some (.lst (List.map V.ref as))/\aI H as ss/\as.length<=63/\
 ∀D H' bs ts,cp H H'->H D=none->H' D=some (.lst (List.map V.ref bs))->aI H' bs ts->ts.Nodup->(∀x,x∈ts↔x∈ss)->ts.Pairwise (λa b=>cu a b=true)->Q (.ref D) H'
def aF(x y:List Int):Bool:=x.all λm=>decide (m∈y)
theorem tL(m:Int)(y:List Int):YM (.int m) (List.map V.int y)=decide (m∈y):=by
 unfold YM
 rw[Ag,rY,ik,gI]
 constructor
 ·rintro⟨z,hz,e⟩
  have:z=m:=by simpa [Dz]using e
  rw[<-this];exact hz
 ·intro h
  exact⟨m,h,by simp[Dz]⟩
theorem pA(y:List Int):(List.map V.int y).all gE=true:=by
 rw[List.all_map,nr]
 intro _ _
 rfl
theorem int_at{ns:List Int}{i:Nat}{x:V}(h:(List.map V.int ns)[i]?=some x):∃n,ns[i]?=some n/\x=.int n:=by
 rw[cU]at h
 cases e:ns[i]? with
 | none=>rw[e]at h;cases h
 | some q=>rw[e]at h;exact⟨q,rfl,(dU h).symm⟩
def ZX:Sp:=λvs H Q _=>∃a b,vs=[.ref a,.ref b]/\∃x y:List Int,H a=some (.tup (List.map V.int x))/\H b=some (.tup (List.map V.int y))/\Q (.bl (aF x y)) H
def zu(lies:Bool):Sp:=λvs H Q _=>∃a L,vs=[.ref a,.ref L]/\∃(x:List Int) (bs:List Addr) (ts:List (List Int)),H a=some (.tup (List.map V.int x))/\H L=some (.lst (List.map V.ref bs))/\aI H bs ts/\Q (.bl (ts.any λt=>if lies then aF x t else aF t x)) H
def hv(l:Addr)(a b c d e:Int):HO:=.lst [.ref l,.int a,.int b,.int c,.int d,.int e]
def HdO(l:Addr)(o:HO):Prop:=∃a b c d e,o=hv l a b c d e/\0<=a
def BG:Sp:=λvs H Q _=>∃h,vs=[.ref h]/\∃l a b c d e,H h=some (hv l a b c d e)/\Q (.int (d*48271%2147483647+e*40693%2147483399)) (upd H h (hv l a b c (d*48271%2147483647) (e*40693%2147483399)))
def ZQ:Sp:=λvs H Q _=>∃h,vs=[.ref h]/\∃l ns o,H h=some o/\HdO l o/\H l=some (.lst (List.map V.int ns))/\∀o',HdO l o'->Q .non (upd H h o')
def QH:Sp:=λvs H Q _=>∃h m,vs=[.ref h,.int m]/\1<=m/\m<2 ^ 300/\∃l ns o,H h=some o/\HdO l o/\H l=some (.lst (List.map V.int ns))/\∀r o',0<=r->r<m->HdO l o'->Q (.int r) (upd H h o')
def Hd(H:Hp)(h l:Addr):Prop:=∃ns o,H h=some o/\HdO l o/\H l=some (.lst (List.map V.int ns))
def fS(H:Hp)(h:Addr):Prop:=∃l,Hd H h l
structure Dr(h:Addr)(H H':Hp):Prop where
 keep:∀b o,b≠h->H b=some o->H' b=some o
 hand:∀l,Hd H h l->Hd H' h l
theorem Dr.refl{h:Addr}{H:Hp}:Dr h H H:=⟨λ_ _ _ e=>e,λ_ x=>x⟩
theorem Dr.trans{h:Addr}{H H1 H2:Hp}(a:Dr h H H1)(b:Dr h H1 H2):Dr h H H2:=⟨λc o hc e=>b.keep c o hc (a.keep c o hc e),λl x=>b.hand l (a.hand l x)⟩
theorem Dr.eR{h:Addr}{H H1:Hp}(a:Dr h H H1)(x:fS H h):fS H1 h:=let ⟨l,y⟩:=x;⟨l,a.hand l y⟩
theorem Hd.apart{H:Hp}{h l:Addr}(x:Hd H h l):l≠h:=by
 obtain⟨ns,o,e1,⟨a,b,c,d,e,rfl,_⟩,e3⟩:=x
 intro z
 rw[z,e1]at e3
 have q:=dU e3
 unfold hv at q
 injection q with q
 match ns,q with
 | [],q=>cases q
 | n::_,q=>injection q with q1 _;cases q1
theorem Dr.new{h p:Addr}{H H1:Hp}{o:HO}(a:Dr h H H1)(hp:H1 p=none):Dr h H (upd H1 p o):=by
 refine⟨λc o' hc e=>?_,λl x=>?_⟩
 ·rw[aj (av (a.keep c o' hc e) hp)];exact a.keep c o' hc e
 ·obtain⟨ns,oh,e1,e2,e3⟩:=a.hand l x
  exact⟨ns,oh,by rw[aj (av e1 hp)];exact e1,e2,by rw[aj (av e3 hp)];exact e3⟩
theorem Dr.put{h p:Addr}{H H1:Hp}{o':HO}(a:Dr h H H1)(hn:H p=none):Dr h H (upd H1 p o'):=by
 refine⟨λc o' hc e=>?_,λl x=>?_⟩
 ·rw[aj (av e hn)];exact a.keep c o' hc e
 ·obtain⟨ns,oh,e1,e2,e3⟩:=a.hand l x
  obtain⟨_,_,f1,_,f3⟩:=x
  exact⟨ns,oh,by rw[aj (av f1 hn)];exact e1,e2,by rw[aj (av f3 hn)];exact e3⟩
theorem fS.ne{h p:Addr}{H:Hp}(x:fS H h)(hp:H p=none):p≠h:=by
 obtain⟨l,ns,oh,e1,_,_⟩:=x
 exact(av e1 hp).symm
theorem Dr.free{h p:Addr}{H H1:Hp}(a:Dr h H H1)(x:fS H h)(hp:H1 p=none):H p=none:=by
 cases e:H p with
 | none=>rfl
 | some o=>
  have n:=(a.eR x).ne hp
  have:=a.keep p o n e
  rw[hp]at this;cases this
theorem dA{h:Addr}{m:Int}{H0 H:Hp}{Q:VK}{E:XK}(hd:fS H0 h)(d:Dr h H0 H)(h1:1<=m)(h2:m<2 ^ 300)(q:∀r H',0<=r->r<m->Dr h H0 H'->(∀b,b≠h->H' b=H b)->Q (.int r) H'):QH [.ref h,.int m] H Q E:=by
 obtain⟨l,x⟩:=hd
 have x':=d.hand l x
 have ap:=x'.apart
 obtain⟨ns,oh,e1,e2,e3⟩:=x'
 refine⟨h,m,rfl,h1,h2,l,ns,oh,e1,e2,e3,λr o' r0 r1 ho=>q r _ r0 r1 ⟨λc o hc e=>?_,λl' x'=>?_⟩ (λb hb=>aj hb)⟩
 ·rw[aj hc];exact d.keep c o hc e
 ·have y:=d.hand l' x'
  have ap':=y.apart
  obtain⟨WX,oh',f1,f2,f3⟩:=y
  have el:l'=l:=by
   obtain⟨a,b,c,d,e,rfl,_⟩:=e2
   obtain⟨a',b',c',d',e',rfl,_⟩:=f2
   rw[e1]at f1
   have:=dU f1
   unfold hv at this
   injection this with this
   injection this with this _
   exact(V.ref.inj this).symm
  subst el
  exact⟨ns,o',ah,ho,by rw[aj ap];exact e3⟩
theorem Gn{α:Type}(f:α->V)(xs:List α)(lo hi:Option Int):jG (xs.map f) lo hi=((xs.drop (HT.dB xs.length 0 lo)).take (HT.dB xs.length xs.length hi-HT.dB xs.length 0 lo)).map f:=by
 unfold jG;rw[aQ,List.map_take,List.map_drop]
def Z0(K:PySem.W.Frag):Sp:=λvs H Q _=>∃a ns,vs=[.ref a]/\qi K H a (List.map V.int ns)/\∀h H',cp H H'->H h=none->fS H' h->Q (.ref h) H'
def fG(x:List Int):Prop:=x.Pairwise (· < ·)
theorem cy{x y:List Int}:aF x y=true↔∀m∈x,m∈y:=by
 unfold aF
 rw[nr]
 exact⟨λh m hm=>of_decide_eq_true (h m hm),λh m hm=>decide_eq_true (h m hm)⟩
theorem fG.nodup{x:List Int}(h:fG x):x.Nodup:=h.imp λhab e=>by lia
theorem pd:∀{x y:List Int},fG x->fG y->(∀m,m∈x↔m∈y)->x=y
 | [],[],_,_,_=>rfl
 | [],b::y,_,_,h=>absurd ((h b).mpr dD) (by simp)
 | a::x,[],_,_,h=>absurd ((h a).mp dD) (by simp)
 | a::x,b::y,hx,hy,h=>by
  have Jt:=wm.mp hx
  have hy':=wm.mp hy
  have hab:a=b:=by
   rcases bT.mp ((h a).mp dD) with e | e
   ·exact e
   ·rcases bT.mp ((h b).mpr dD) with e' | e'
    ·exact e'.symm
    ·have:=hy'.1 a e
     have:=Jt.1 b e'
     lia
  subst hab
  rw[pd Jt.2 hy'.2 λm=>⟨λhm=>?_,λhm=>?_⟩]
  ·rcases bT.mp ((h m).mp (dW _ hm)) with e | e
   ·have:=Jt.1 m hm;lia
   ·exact e
  ·rcases bT.mp ((h m).mpr (dW _ hm)) with e | e
   ·have:=hy'.1 m hm;lia
   ·exact e
theorem iy{x y:List Int}(hx:fG x)(h:aF x y=true):x.length<=y.length:=eG hx.nodup (cy.mp h)
theorem pk{x y:List Int}(hx:fG x)(hy:fG y)(h:aF x y=true)(hl:x.length=y.length):x=y:=by
 refine pd hx hy λm=>⟨cy.mp h m,λhm=>?_⟩
 refine Classical.byContradiction λhn=>?_
 have h1:(m::x).Nodup:=nq.mpr ⟨hn,hx.nodup⟩
 have:=eG h1 λz hz=>by
  rcases bT.mp hz with e | e
  ·rw[e];exact hm
  ·exact cy.mp h z e
 rw[fh]at this
 lia
theorem oq(x:List Int):aF x x=true:=cy.mpr λ_ h=>h
theorem lu{x y z:List Int}(h1:aF x y=true)(h2:aF y z=true):aF x z=true:=cy.mpr λm hm=>cy.mp h2 m (cy.mp h1 m hm)
def jt:List (List Int)->List (List Int)->List (List Int)
 | [],acc=>acc
 | x::r,acc=>jt r (if acc.any (λt=>aF t x) then acc else acc++[x])
theorem xD:∀(r acc seen:List (List Int)),(∀x∈seen++r,fG x)->(seen++r).Pairwise (λa b=>cu a b=true)->(∀x,x∈acc↔x∈seen/\∀y∈seen,aF y x=true->y=x)->
  (∀x,x∈jt r acc↔x∈seen++r/\∀y∈seen++r,aF y x=true->y=x)
 | [],acc,seen,_,_,h=>λx=>by
  show x∈acc↔_
  rw[gh]
  exact h x
 | a::r,acc,seen,hr,pw,h=>by
  have e:seen++a::r=(seen++[a])++r:=by simp
  show ∀x,x∈jt r (if acc.any (λt=>aF t a)=true then acc else acc++[a])↔_
  rw[e]at hr pw ⊢
  refine xD r _ (seen++[a]) hr pw λx=>?_
  have ra:fG a:=hr a (by simp)
  have pw1:=(uk.mp pw).1
  have ahead:∀y∈seen,cu y a=true:=λy hy=>(uk.mp pw1).2.2 y hy a (by simp)
  have irr:∀y∈seen,y≠a:=λy hy e=>by
   have:=ahead y hy
   rw[e]at this
   unfold cu at this
   rw[lh]at this
   simp at this
  have low:∀n,∀y∈seen,y.length<=n->∃z∈acc,aF z y=true:=by
   intro n
   induction n with
   | zero=>
    intro y hy hl
    refine⟨y,(h y).mpr ⟨hy,λz hz hp=>?_⟩,oq y⟩
    have h1:=iy (hr z (by simp[hz])) hp
    exact pk (hr z (by simp[hz])) (hr y (by simp[hy])) hp (by lia)
   | succ n ih=>
    intro y hy hl
    by_cases hm:∀z∈seen,aF z y=true->z=y
    ·exact⟨y,(h y).mpr ⟨hy,hm⟩,oq y⟩
    ·obtain⟨z,hz⟩:=Classical.not_forall.mp hm
     obtain⟨hz,hz2⟩:=Classical.not_imp.mp hz
     obtain⟨hp,vp⟩:=Classical.not_imp.mp hz2
     have h1:=iy (hr z (by simp[hz])) hp
     have h2:z.length≠y.length:=λe=>vp (pk (hr z (by simp[hz])) (hr y (by simp[hy])) hp e)
     obtain⟨u,hu,hup⟩:=ih z hz (by lia)
     exact⟨u,hu,lu hup hp⟩
  by_cases c:acc.any (λt=>aF t a)=true
  ·rw[aC c]
   obtain⟨t,ht,U7⟩:=ik.mp c
   have Tb:=((h t).mp ht).1
   rw[h x]
   constructor
   ·rintro⟨h1,h2⟩
    refine⟨by simp[h1],λy hy hp=>?_⟩
    rcases dq.mp hy with z | z
    ·exact h2 y z hp
    ·have ey:y=a:=by simpa using z
     subst ey
     have:=lu U7 hp
     have e2:=h2 t Tb this
     subst e2
     have l1:=iy (hr t (by simp[h1])) U7
     have l2:=iy ra hp
     exact(pk ra (hr t (by simp[h1])) hp (by lia))
   ·rintro⟨h1,h2⟩
    rcases dq.mp h1 with z | z
    ·exact⟨z,λy hy hp=>h2 y (by simp[hy]) hp⟩
    ·have ex:x=a:=by simpa using z
     subst ex
     exact absurd (h2 t (by simp[Tb]) U7) (irr t Tb)
  ·rw[aB c,dq,h x]
   constructor
   ·rintro(⟨h1,h2⟩ | h1)
    ·refine⟨by simp[h1],λy hy hp=>?_⟩
     rcases dq.mp hy with z | z
     ·exact h2 y z hp
     ·have ey:y=a:=by simpa using z
      subst ey
      have l2:=iy ra hp
      have:=ahead x h1
      unfold cu at this
      simp only[rZ,eB,gI]at this
      rcases this with u | ⟨u,_⟩
      ·lia
      ·exact pk ra (hr x (by simp[h1])) hp u.symm
    ·have ex:x=a:=by simpa using h1
     subst ex
     refine⟨by simp,λy hy hp=>?_⟩
     rcases dq.mp hy with z | z
     ·obtain⟨u,hu,hup⟩:=low y.length y z (bB _)
      exact(c (ik.mpr ⟨u,hu,lu hup hp⟩)).elim
     ·simpa using z
   ·rintro⟨h1,h2⟩
    rcases dq.mp h1 with z | z
    ·exact .inl ⟨z,λy hy hp=>h2 y (by simp[hy]) hp⟩
    ·exact .inr z
theorem q0:∀(r acc:List (List Int)),∃l,jt r acc=acc++l/\l.Sublist r
 | [],acc=>⟨[],by simp[jt],qw _⟩
 | a::r,acc=>by
  show ∃l,jt r (if acc.any (λt=>aF t a)=true then acc else acc++[a])=acc++l/\_
  split
  ·obtain⟨l,e,s⟩:=q0 r acc
   exact⟨l,e,s.cons a⟩
  ·obtain⟨l,e,s⟩:=q0 r (acc++[a])
   exact⟨a::l,by rw[e];simp,s.cons_cons a⟩
def bO(x y:List Int):List Int:=x.filter λm=>decide (m∉y)
def ZV:Sp:=λvs H Q _=>∃a b,vs=[.ref a,.ref b]/\∃x y:List Int,H a=some (.tup (List.map V.int x))/\H b=some (.tup (List.map V.int y))/\x.length<=900/\∀p H',cp H H'->H p=none->H' p=some (.tup (List.map V.int (bO x y)))->Q (.ref p) H'
def ju:List (List Int)->List (List Int)->List (List Int)
 | [],acc=>acc
 | x::r,acc=>ju r (if acc.any (λt=>aF x t) then acc else acc++[x])
theorem xU:∀(r acc seen:List (List Int)),(∀x∈seen++r,fG x)->(seen++r).Pairwise (λa b=>cu b a=true)->(∀x,x∈acc↔x∈seen/\∀y∈seen,aF x y=true->y=x)->(∀y∈seen,∃z∈acc,aF y z=true)->
  (∀x,x∈ju r acc↔x∈seen++r/\∀y∈seen++r,aF x y=true->y=x)
 | [],acc,seen,_,_,h,_=>λx=>by
  show x∈acc↔_
  rw[gh]
  exact h x
 | a::r,acc,seen,hr,pw,h,cov=>by
  have e:seen++a::r=(seen++[a])++r:=by simp
  show ∀x,x∈ju r (if acc.any (λt=>aF a t)=true then acc else acc++[a])↔_
  rw[e]at hr pw ⊢
  have ra:fG a:=hr a (by simp)
  have pw1:=(uk.mp pw).1
  have ahead:∀y∈seen,cu a y=true:=λy hy=>(uk.mp pw1).2.2 y hy a (by simp)
  have irr:∀y∈seen,y≠a:=λy hy e=>by
   have:=ahead y hy
   rw[e]at this
   unfold cu at this
   rw[lh]at this
   simp at this
  refine xU r _ (seen++[a]) hr pw (λx=>?_) (λy hy=>?_)
  ·by_cases c:acc.any (λt=>aF a t)=true
   ·rw[aC c]
    obtain⟨t,ht,U7⟩:=ik.mp c
    have Tb:=((h t).mp ht).1
    rw[h x]
    constructor
    ·rintro⟨h1,h2⟩
     refine⟨by simp[h1],λy hy hp=>?_⟩
     rcases dq.mp hy with z | z
     ·exact h2 y z hp
     ·have ey:y=a:=by simpa using z
      subst ey
      have e2:=h2 t Tb (lu hp U7)
      subst e2
      have rt:fG t:=hr t (by simp[h1])
      have l1:=iy ra U7
      have l2:=iy rt hp
      exact pk ra rt U7 (by lia)
    ·rintro⟨h1,h2⟩
     rcases dq.mp h1 with z | z
     ·exact⟨z,λy hy hp=>h2 y (by simp[hy]) hp⟩
     ·have ex:x=a:=by simpa using z
      subst ex
      exact absurd (h2 t (by simp[Tb]) U7) (irr t Tb)
   ·rw[aB c,dq,h x]
    constructor
    ·rintro(⟨h1,h2⟩ | h1)
     ·refine⟨by simp[h1],λy hy hp=>?_⟩
      rcases dq.mp hy with z | z
      ·exact h2 y z hp
      ·have ey:y=a:=by simpa using z
       subst ey
       have rx:fG x:=hr x (by simp[h1])
       have l2:=iy rx hp
       have:=ahead x h1
       unfold cu at this
       simp only[rZ,eB,gI]at this
       rcases this with u | ⟨u,_⟩
       ·lia
       ·exact(pk rx ra hp u.symm).symm
     ·have ex:x=a:=by simpa using h1
      subst ex
      refine⟨by simp,λy hy hp=>?_⟩
      rcases dq.mp hy with z | z
      ·obtain⟨u,hu,hup⟩:=cov y z
       exact(c (ik.mpr ⟨u,hu,lu hp hup⟩)).elim
      ·simpa using z
    ·rintro⟨h1,h2⟩
     rcases dq.mp h1 with z | z
     ·exact .inl ⟨z,λy hy hp=>h2 y (by simp[hy]) hp⟩
     ·exact .inr z
  ·by_cases c:acc.any (λt=>aF a t)=true
   ·rw[aC c]
    rcases dq.mp hy with z | z
    ·exact cov y z
    ·have ey:y=a:=by simpa using z
     subst ey
     obtain⟨t,ht,U7⟩:=ik.mp c
     exact⟨t,ht,U7⟩
   ·rw[aB c]
    rcases dq.mp hy with z | z
    ·obtain⟨u,hu,hup⟩:=cov y z
     exact⟨u,by simp[hu],hup⟩
    ·have ey:y=a:=by simpa using z
     subst ey
     exact⟨y,by simp,oq y⟩
theorem rA:∀(r acc:List (List Int)),∃l,ju r acc=acc++l/\l.Sublist r
 | [],acc=>⟨[],by simp[ju],qw _⟩
 | a::r,acc=>by
  show ∃l,ju r (if acc.any (λt=>aF a t)=true then acc else acc++[a])=acc++l/\_
  split
  ·obtain⟨l,e,s⟩:=rA r acc
   exact⟨l,e,s.cons a⟩
  ·obtain⟨l,e,s⟩:=rA r (acc++[a])
   exact⟨a::l,by rw[e];simp,s.cons_cons a⟩
theorem aI.rev{H:Hp}{bs:List Addr}{ts:List (List Int)}(s:aI H bs ts):aI H bs.reverse ts.reverse:=by
 refine⟨by rw[ui,ui];exact s.1,λi b t hb ht=>?_⟩
 have hi:i<bs.length:=by
  have:=(dO.mp hb).1
  rwa [ui]at this
 rw[Hj hi]at hb
 rw[Hj (by rw[<-s.1];exact hi),<-s.1]at ht
 exact s.2 _ b t hb ht
theorem o8(x:List Int):cu x x=false:=by
 unfold cu
 rw[lh,Bool.and_false,Ai]
 simp
theorem QS{x y z:List Int}(h1:cu x y=true)(h2:cu y z=true):cu x z=true:=by
 unfold cu at *
 simp only[rZ,eB,gI]at *
 rcases h1 with a | ⟨a,b⟩
 ·rcases h2 with c | ⟨c,d⟩ <;> (left;lia)
 ·rcases h2 with c | ⟨c,d⟩
  ·left;lia
  ·right;exact⟨by lia,xA b d⟩
theorem Xz{a b c d r:Int}(h0:0<=r)(h1:r<4):∃v,yg [V.int a,V.int b,V.int c,V.int d] r=some (.int v)/\(v=a\/v=b\/v=c\/v=d):=by
 have:r=0\/r=1\/r=2\/r=3:=by lia
 rcases this with e | e | e | e <;> subst e
 ·exact⟨a,GD ..,by simp⟩
 ·exact⟨b,Mp ..,by simp⟩
 ·exact⟨c,Ml ..,by simp⟩
 ·exact⟨d,Mj ..,by simp⟩
theorem Dr.on{h:Addr}{H H1 H2:Hp}(a:Dr h H H1)(s:cp H1 H2):Dr h H H2:=⟨λc o hc e=>s _ _ (a.keep c o hc e),λl x=>by
 obtain⟨ns,oh,e1,e2,e3⟩:=a.hand l x
 exact⟨ns,oh,s _ _ e1,e2,s _ _ e3⟩⟩
theorem fS.fP{h b:Addr}{H:Hp}{xs:List V}(x:fS H h)(e:H b=some (.tup xs)):b≠h:=by
 obtain⟨l,ns,o,e1,⟨_,_,_,_,_,rfl,_⟩,_⟩:=x
 exact aN e e1 (by intro z;cases z)
def nO(ps:List (List Int))(m:Int):List (List Int):=ps++ps.map (· ++ [m])
def fV(x:List Int):List (List Int):=x.foldl nO [[]]
theorem HQ(x:List Int)(m:Int):fV (x++[m])=nO (fV x) m:=by unfold fV;rw[qy];rfl
theorem o7(x:List Int):(fV x).length=2 ^ x.length:=by
 have:∀(x:List Int) (ps:List (List Int)),(x.foldl nO ps).length=ps.length*2 ^ x.length:=λx=>by
  induction x with
  | nil=>intro ps;simp
  | cons m x ih=>
   intro ps
   rw[ig,ih,fh,Nat.pow_succ]
   unfold nO
   rw[cP,aQ,Nat.mul_comm (2 ^ x.length) 2,<-Nat.mul_assoc]
   congr 1
   lia
 unfold fV
 rw[this];simp
theorem yF{x t:List Int}(h:t∈fV x):t.length<=x.length:=by
 have:∀(x:List Int) (n:Nat) (ps:List (List Int)),(∀p∈ps,p.length<=n)->∀t∈x.foldl nO ps,t.length<=n+x.length:=λx=>by
  induction x with
  | nil=>intro n ps h t ht;exact h t ht
  | cons m x ih=>
   intro n ps h t ht
   rw[ig]at ht
   have:=ih (n+1) _ (λp hp=>?_) t ht
   ·rw[fh];lia
   ·unfold nO at hp
    rcases dq.mp hp with hp | hp
    ·have:=h p hp;lia
    ·obtain⟨c,hc,rfl⟩:=gd.mp hp
     have:=h c hc
     rw[cP];simp;lia
 have:=this x 0 [[]] (by simp) t h
 lia
theorem RD{n:Nat}(h:n<=10):2 ^ n<=1024:=fJ (Bd (by decide) h) (by decide)
theorem Dr.sets{h:Addr}{H H':Hp}{bs:List Addr}{ts:List (List Int)}(hd:fS H h)(d:Dr h H H')(s:aI H bs ts):aI H' bs ts:=s.mono λb xs e=>d.keep _ _ (hd.fP e) e
abbrev cut(n:Int)(s:List Int):List Int:=s.filter λm=>decide (m≠n)
end L2
end
section
namespace L2
open PySem PySem.Spec PyProof.Rows
section
variable {X:Cx}
def YD(neg:Bool):R2:=λx y H Q=>∃a b,x=.ref a/\y=.ref b/\∃aM aAQ,H a=some (.dK aM)/\H b=some (.dK aAQ)/\aM.length=aAQ.length/\
 (∀k v,(k,v)∈aM->∃p q t,v=.ref p/\(k,V.ref q)∈aAQ/\H p=some (.tup (List.map V.int t))/\H q=some (.tup (List.map V.int t)))/\Q (.bl (!neg)) H
end
def Itd(d:Addr)(o:Obj)(aM:List (Key×V)):It:=
 ⟨λi H=>i<aM.length/\H d=some (.Dy o (.dK aM)),λi H x H'=>H'=H/\∃k v,aM[i]?=some (k,v)/\x=kV k,λi H=>aM.length<=i/\H d=some (.Dy o (.dK aM))⟩
section
variable {X:Cx}{tg:Expr}
def YQ(te:TE):TI:=λσ H R=>te σ H λv H1=>∃a aM,v=.ref a/\H1 a=some (.dK aM)/\∀o,R (Itd a o aM) (upd H1 a (.Dy o (.dK aM)))
def Yt(H0:Hp)(t:TS):TS:=λD σ H=>∃d o aM,H d=some (.Dy o (.dK aM))/\H0 d=none/\t D σ (upd H d (.dK aM))
end
section
variable {X:Cx}
def Rc:V->List V->Hp->VK->Prop:=λx vs H Q=>∃a n d,x=.ref a/\vs=[.int n,d]/\∃aM,H a=some (.dK aM)/\Q ((fU aM (Sum.inl n)).getD d) H
def En:V->List V->Hp->VK->Prop:=λx vs H Q=>∃l b xs zs,x=.ref l/\vs=[.ref b]/\H l=some (.lst xs)/\H b=some (.tup zs)/\xs.length+zs.length<=sizeLine/\Q .non (upd H l (.lst (xs++zs)))
end
end L2
end
section
namespace L2
structure Nx(P R:St->Hp->Prop):Prop where
 to:∀σ H,P σ H->R σ H
theorem eN{t u:TS}{D:Ends}{σ:St}{H:Hp}(h:∀R:St->Hp->Prop,Nx (u D) R->t { D with nx:=R } σ H):tSeq t u D σ H:=h (u D) ⟨λ_ _ z=>z⟩
end L2
end
section
namespace L2
open PySem PySem.Spec PyProof.Rows
section
variable {X:Cx}{o e value:Expr}{f:Str}{pos pos':Pos}{ta tv:TE}
theorem fY(he:ZE X e ta)(hb:attributeBase e f X.env (eval e X.env)=eval e X.env):ZE X (.Attribute e f pos) (Vt X.K ta f):=⟨aAy he.to hb⟩
theorem sE(ha:ZE X o ta)(hv:ZE X value tv)(hs:swapsWith value (some (.Attribute o f pos')) pos.line X.env=pure false):ZS X (.Assign [.Attribute o f pos'] value pos) (VL X.K ta tv f):=⟨aAn ha.to hv.to hs⟩
end
section
variable {X:Cx}{CX:Mz}{k:Nat}{f C:Addr}{fd:FuncData}{ps:List Str}{sp:Sp}{uE:List V}{ds:List Value}{E:XK}{x m:Str}{p pos apos:Pos}{e o:Expr}{es:List Expr}{ta:TE}{t:TA}
theorem wy{pl:Sem Bool}(he:ZE X o ta)(c:Cls X.K C)(hm:Meth X.K C m f)(F:cq X.prog X.w X.K X.mg X.base CX k f fd ps sp)(hr:cv k X.A)(hb:Binds X.K fd ps ds)(hd:Vals uE ds)(hx:Passes CX X E)(ha:ZA X (e::es) t)
  (Dw:starEach (e::es) X.env=(false,eval e X.env)::starEach es X.env:=by rfl) (iF:(backTo pos (starEach es X.env)).any (·.1)=false:=by rfl)
  (ht:eval (.Call (.Attribute o m apos) (e::es) [] pos) X.env=(do
   let ov <-eval o X.env
   standAt apos.atName
   let (f,first) <-holding [ov] (getMethod ov m pl)
   callWith pos f first (backTo pos (starEach (e::es) X.env)) (backToKw pos (keywordEach [] X.env))):=by rfl) :
  ZE X (.Call (.Attribute o m apos) (e::es) [] pos) (Ko C m sp uE E ta t):=⟨Wt he.to c hm F hr hb hd hx ha.to Dw iF ht⟩
theorem P7(M:Mk X.K C f)(F:cq X.prog X.w X.K X.mg X.base CX k f fd ps sp)(hr:cv (k+1) X.A)(hg:Gl X x)(hm:X.mg x=some (.ref C))(hb:Binds X.K fd ps ds)(hd:Vals uE ds)(hx:Passes CX X E)
  (ha:ZA X (e::es) t) (lA:(x==("__debug__" : Str))=false:=by decide) (he:starEach (e::es) X.env=(false,eval e X.env)::starEach es X.env:=by rfl) (iF:(backTo pos (starEach es X.env)).any (·.1)=false:=by rfl) :
  ZE X (.Call (.Name x p) (e::es) [] pos) (Kq C sp uE E t):=⟨Wu M F hr hg hm hb hd hx ha.to lA he iF⟩
end
def rP(H:Hp)(ps:List Addr)(fs:List (List (List Int))):Prop:=ps.length=fs.length/\∀(i:Nat) p f,ps[i]?=some p->fs[i]?=some f->∃bs,H p=some (.lst (List.map V.ref bs))/\aI H bs f
section
variable {X:Cx}{pins:List (Addr×Obj)}{s:Shared}{σ:St}{H:Hp}{A:Around}
theorem aBC{p q:Addr}{ps qs:List Addr}{cl dl:List (List Int)}(I:Inv X pins σ H s)(h1:H p=some (.lst (List.map V.ref ps)))(h2:H q=some (.lst (List.map V.ref qs)))(a1:aI H ps cl)(a2:aI H qs dl)(hu:A.units+1<cLine):SeqAt.EqAt A s (.ref p) (.ref q) (decide (cl=dl)):=by
 by_cases e:p=q
 ·subst e
  have hp:ps=qs:=by
   have h:=h1.symm.trans h2
   simp only[vY,HO.lst.injEq]at h
   exact(Az λ_ _ z=>by cases z;rfl).mp h
  subst hp
  have:cl=dl:=by
   apply List.ext_getElem (by rw[<-a1.1,<-a2.1])
   intro i k1 k2
   have j1:i<ps.length:=by rw[a1.1];exact k1
   have x1:=a1.2 i _ _ (bP j1) (bP k1)
   have x2:=a2.2 i _ _ (bP j1) (bP k2)
   have h:=x1.symm.trans x2
   simp only[vY,HO.tup.injEq]at h
   exact xI h
  rw[decide_eq_true this]
  exact SeqAt.EqAt.same _
 ·obtain⟨us,r1,t1,_⟩:=I.list (bw h1)
  obtain⟨ws,r2,t2,_⟩:=I.list (bw h2)
  have l1:=r1.length
  have l2:=r2.length
  rw[aQ]at l1 l2
  by_cases hl:cl.length=dl.length
  ·have h:=SeqAt.RcAt.lists (A:=A) (e:=λj=>decide (cl[j]?=dl[j]?)) t1.isList t2.isList (by rw[cO,cO,<-l1,<-l2,a1.1,a2.1,hl]) (by omega) (λj h1 h2=>tO I r1 r2 a1 a2 (by rw[Am];omega) j h1 h2)
   have e2:=tU (cl:=cl) (dl:=dl)
   rw[hl,Nat.min_self,ip,Bool.and_true]at e2
   rw[cO,<-l1,a1.1,hl,e2]at h
   exact .of_refs e h
  ·have h:=SeqAt.RcAt.lists_lengths (A:=A) t1.isList t2.isList (by rw[cO,cO,<-l1,<-l2,a1.1,a2.1];simpa using hl) (by omega)
   rw[decide_eq_false λz=>hl (by rw[z])]
   exact .of_refs e h
theorem CV{ps qs:List Addr}{us ws:List Value}{cl dl:List (List (List Int))}(I:Inv X pins σ H s)(r1:Vals (List.map V.ref ps) us)(r2:Vals (List.map V.ref qs) ws)(a:rP H ps cl)(b:rP H qs dl)(hu:A.units+1<cLine)(j:Nat)(h1:j<us.toArray.size)(h2:j<ws.toArray.size) :
  SeqAt.EqAt A s us.toArray[j] ws.toArray[j] (decide (cl[j]?=dl[j]?)):=by
 have l1:=r1.length
 have l2:=r2.length
 rw[aQ]at l1 l2
 have j1:j<ps.length:=by rw[l1];simpa using h1
 have j2:j<qs.length:=by rw[l2];simpa using h2
 have e1:ps[j]?=some ps[j]:=bP j1
 have e2:qs[j]?=some qs[j]:=bP j2
 have k1:j<cl.length:=by rw[<-a.1];exact j1
 have k2:j<dl.length:=by rw[<-b.1];exact j2
 have c1:cl[j]?=some cl[j]:=bP k1
 have c2:dl[j]?=some dl[j]:=bP k2
 have v1:us.toArray[j]=.ref ps[j]:=iU (x:=.ref ps[j]) r1 h1 (by rw[cU,e1];rfl)
 have v2:ws.toArray[j]=.ref qs[j]:=iU (x:=.ref qs[j]) r2 h2 (by rw[cU,e2];rfl)
 obtain⟨x1,y1,z1⟩:=a.2 j _ _ e1 c1
 obtain⟨x2,y2,z2⟩:=b.2 j _ _ e2 c2
 have:=aBC (A:=A) I y1 y2 z1 z2 hu
 rw[v1,v2,c1,c2]
 have e3:decide ((some cl[j]:Option (List (List Int)))=some dl[j])=decide (cl[j]=dl[j]):=by simp only[vY]
 rw[e3];exact this
def YC(neg:Bool):R2:=λx y H Q=>∃a b,x=.ref a/\y=.ref b/\∃ps qs cl dl,H a=some (.lst (List.map V.ref ps))/\H b=some (.lst (List.map V.ref qs))/\rP H ps cl/\rP H qs dl/\Q (.bl (if neg then !decide (cl=dl) else decide (cl=dl))) H
end
end L2
end
section
namespace L2
open PySem PySem.Spec PyProof.Rows
open PySem.W (Frag Looks)
abbrev veM:List Value:=[.type "ValueError",.type "Exception",.type "BaseException",.type "object"]
def Vo(K:Frag)(n:Addr):Bool:=match K.lookup n with
 | some o=>(match o.data with | .dict es _=>es.toList.all λe=>(match e.key with | .str _ _=>true | _=>false) | _=>false)
 | none=>false
theorem Yo{K:Frag}{h:Heap}{n:Addr}(X:K.In h)(q:Vo K n=true):∃m,h.Ns n m:=by
 unfold Vo at q
 cases e:K.lookup n with
 | none=>rw[e]at q;cases q
 | some o=>
  rw[e]at q
  dsimp only at q
  cases d:o.data with
  | dict es ep=>
   rw[d]at q
   dsimp only at q
   refine⟨nsFind es,o,es,ep,X _ _ e,d,λx hx=>?_,λ_=>rfl⟩
   have:=nr.mp q x (Array.mem_toList_iff.mpr hx)
   cases k:x.key with
   | str y t=>exact⟨y,t,rfl⟩
   | _=>rw[k]at this;cases this
  | _=>rw[d]at q;cases q
def Vn(K:Frag):List Value->Bool
 | .ref a::tl=>(match K.lookup a with
  | some o=>(match o.data with | .cls cd=>Vo K cd.ns&&(PySem.W.nsIn K cd.ns "__init__" == some none) | _=>false)
  | none=>false)&&Vn K tl
 | l=>l==veM
theorem Yn{K:Frag}{h:Heap}(X:K.In h):∀{l:List Value},Vn K l=true->OwnTail h veM l
 | .ref a::tl,q=>by
  simp only[Vn,eB]at q
  obtain⟨q,r⟩:=q
  cases e:K.lookup a with
  | none=>rw[e]at q;cases q
  | some o=>
   rw[e]at q
   obtain⟨oc,od,da,sl⟩:=o
   cases da with
   | cls cd=>
    simp only[eB,beq_iff_eq]at q
    obtain⟨m,hm⟩:=Yo X q.1
    exact .own (X _ _ e) hm (PySem.W.ns_none_of X hm q.2) (Yn X r)
   | _=>cases q
 | [],q=>by cases eq_of_beq q
 | .type n::tl,q=>by rw[show Value.type n::tl=veM from eq_of_beq q];exact .base
 | .none::tl,q=>by cases eq_of_beq q
 | .bool _::tl,q=>by cases eq_of_beq q
 | .int _ _::tl,q=>by cases eq_of_beq q
 | .str _ _::tl,q=>by cases eq_of_beq q
 | .builtin _::tl,q=>by cases eq_of_beq q
 | .float _ _::tl,q=>by cases eq_of_beq q
 | .bytes _ _::tl,q=>by cases eq_of_beq q
 | .ellipsis::tl,q=>by cases eq_of_beq q
 | .notImplemented::tl,q=>by cases eq_of_beq q
def pH(K:Frag)(C:Addr):Bool:=match K.lookup C with
 | some o=>o.cls == .type "type" && (match o.data with
  | .cls cd=>!cd.hasDel&&cd.hasDict&&Vo K cd.ns&&(match cd.mro with | v::tl=>v == .ref C&&Vn K tl | []=>false) | _=>false)&&(match o.slots.toList with | [_,_,_,_,some v,_]=>v == .builtin "ValueError.__new__" | _=>false)
 | none=>false
theorem wA{K:Frag}{h:Heap}{C:Addr}(X:K.In h)(q:pH K C=true):∃nm qn N bs bm sn sub ab col dd k0 k1 k2 k3 k5 mN,h.get? C=some (excClassObj nm qn C N bs bm true sn sub ab col dd k0 k1 k2 k3 k5 "ValueError.__new__")/\h.Ns N mN/\OwnTail h veM bm:=by
 unfold pH at q
 cases e:K.lookup C with
 | none=>rw[e]at q;cases q
 | some o=>
  rw[e]at q
  obtain⟨oc,od,da,sl⟩:=o
  simp only[eB,beq_iff_eq]at q
  obtain⟨⟨rfl,q1⟩,q2⟩:=q
  cases da with
  | cls cd=>
   obtain⟨nm,bs,mro,ns,qn,hd,sn,sub,ab,col,del⟩:=cd
   simp only[eB,Bool.not_eq_true']at q1
   obtain⟨⟨⟨rfl,rfl⟩,n1⟩,q1⟩:=q1
   cases mro with
   | nil=>cases q1
   | cons v tl=>
    simp only[eB,beq_iff_eq]at q1
    obtain⟨rfl,q1⟩:=q1
    obtain⟨l⟩:=sl
    match l,q2 with
    | [k0,k1,k2,k3,some v,k5],q2=>
     obtain⟨m,hm⟩:=Yo X n1
     have ev:v=.builtin "ValueError.__new__":=eq_of_beq q2
     subst ev
     exact⟨nm,qn,ns,bs,tl,sn,sub,ab,col,od,k0,k1,k2,k3,k5,m,X _ _ e,hm,Yn X q1⟩
  | _=>cases q1
section
variable {prog:Program}{w:World}{A:Around}{E:Value->Shared->Prop}{s:Shared}{K:Frag}{C fI:Addr}
theorem yD{rest:List Value}{Q:PySem.Fin->Shared->Prop}(X:K.In s.heap)(q:pH K C=true)(hi:PySem.W.findIn K (.ref C) "__init__" = some (some (.ref fI)))(hf:PySem.W.typeIn K (.ref fI)=some (.type "function"))
  (hq:∀h',Heap.MadeExcOf s.heap h' (s.heap.objs.size+1) (.ref C) rest->wpAny (model prog w) A (call (.ref fI) (.ref (s.heap.objs.size+1)::rest)) (λr s'=>r=.none/\Q (.done (.ret (.ref (s.heap.objs.size+1)))) s') E { s with heap:=h' }) (zU:rest.length<=sizeLine) :
  wpAny (model prog w) A (Builtin.«type.__call__» ⟨.ref C::rest,[]⟩) Q E s:=by
 obtain⟨nm,qn,N,bs,bm,sn,sub,ab,col,dd,k0,k1,k2,k3,k5,mN,hC,hN,T⟩:=wA X q
 obtain⟨h,g,d,t,os⟩:=s
 dsimp only at X hC hN T hq
 repeat (first | with_reducible refine ud hC ?_ | with_reducible refine wpAny_madeBy_exc hC ?_ | wp_step)
 have FF:=PySem.F.excBase_ValueError
 refine codeAny_call_builtin_code (Ar _ FF.quiet) (wpAny_check_new_subU FF (by decide +kernel) T hC (codeAny_exc_new_subU FF (by decide +kernel) FF T hC ?_ zU))
 show wpAny _ _ _ _ _ _
 have kp:∀b o,h.get? b=some o->((h.push { cls:=.type "tuple",data:=.seq rest.toArray }).push { cls:=.ref C,data:=.fields #[.ref h.objs.size,.none,.none,.none,.bool false,.none] }).get? b=some o:=λb o e=>bR _ (bR _ e)
 have e1:((h.push { cls:=.type "tuple",data:=.seq rest.toArray }).push { cls:=.ref C,data:=.fields #[.ref h.objs.size,.none,.none,.none,.bool false,.none] }).get? (h.objs.size+1)=some { cls:=.ref C,data:=.fields #[.ref h.objs.size,.none,.none,.none,.bool false,.none] }:=by heap_get
 have mk:Heap.MadeExcOf h ((h.push { cls:=.type "tuple",data:=.seq rest.toArray }).push { cls:=.ref C,data:=.fields #[.ref h.objs.size,.none,.none,.none,.bool false,.none] }) (h.objs.size+1) (.ref C) rest:=⟨kp,uh (nk _),h.objs.size,e1,uh (bB _),bR _ (Heap.get?_push_at rfl rfl)⟩
 generalize ((h.push { cls:=.type "tuple",data:=.seq rest.toArray }).push { cls:=.ref C,data:=.fields #[.ref h.objs.size,.none,.none,.none,.bool false,.none] })=h2 at kp e1 mk ⊢
 have hC2:=kp _ _ hC
 have X2:K.In h2:=X.keeps kp
 have hcC:(Value.ref C::bm).contains (.ref C)=true:=by simp
 unfold isInstance
 repeat (first | with_reducible refine ud e1 ?_ | (with_reducible refine Ax hC2 ?_;rw[hcC]) | wp_step)
 show wpAny _ _ (typeLookup (.ref C) _) _ _ _
 refine(Hi (M:=model prog w) (h:=h2) X2 hi) _ _ _ _ (λ_ _ e=>e) (jh (ay ((PySem.W.bind_fn (M:=model prog w) (h:=h2) X2 (.ref (h.objs.size+1)) hf) _ _ _ _ (λ_ _ e=>e) ?_)))
 refine ay (dk (hq h2 mk) (λr s' hr=>?_) λ_ _ z=>z)
 obtain⟨rfl,z⟩:=hr
 wp_walk
 exact z
theorem Ur{rest:List Value}{Q:Value->Shared->Prop}(X:K.In s.heap)(q:pH K C=true)(hi:PySem.W.findIn K (.ref C) "__init__" = some (some (.ref fI)))(hf:PySem.W.typeIn K (.ref fI)=some (.type "function"))
  (hq:∀h',Heap.MadeExcOf s.heap h' (s.heap.objs.size+1) (.ref C) rest->wpAny (model prog w) (A.under (.builtin "type.__call__" ⟨.ref C::rest,[]⟩)) (call (.ref fI) (.ref (s.heap.objs.size+1)::rest)) (λr s'=>r=.none/\Q (.ref (s.heap.objs.size+1)) s') E { s with heap:=h' }) (zU:rest.length<=sizeLine) :
  wpAny (model prog w) A (call (.ref C) rest) Q E s:=by
 obtain⟨nm,qn,N,bs,bm,sn,sub,ab,col,dd,k0,k1,k2,k3,k5,mN,hC,hN,T⟩:=wA X q
 obtain⟨h,g,d,t,os⟩:=s
 dsimp only at X hC hN T hq
 have f1:=tc_lookup
 have f2:=tc_bind (.ref C)
 have hT:(⟨h,g,d,t,os⟩:Shared).TypeIs (.ref C) "type":=⟨_,hC,rfl⟩
 refine jJ (Ak (show wpAny _ _ (callAny (.ref C) _) _ _ _ from ?_))
 repeat (any_goals (first | assumption | with_reducible refine ud hC ?_ | wp_step))
 refine⟨rfl,codeAny_call_builtin_at (Ar _ (by decide +kernel)) entry_typeCall (wpAny_check_type_call_sub hC (yD (s:=⟨h,g,d,t,os⟩) X q hi hf (λh' hm=>?_) zU))⟩
 exact hq h' hm
end
section
variable {prog:Program}{w:World}{A:Around}{E:Value->Shared->Prop}{s:Shared}{K:Frag}{C e:Addr}{oe:Obj}{vs:Array Value}
theorem O9{t0:Addr}{rest:List Value}{Q:Value->Shared->Prop}(X:K.In s.heap)(q:pH K C=true)(he:s.heap.get? e=some { cls:=.ref C,data:=.fields #[.ref t0,.none,.none,.none,.bool false,.none] })
  (hq:Q .none { s with heap:=(s.heap.push { cls:=.type "tuple",data:=.seq rest.toArray }).update e (Obj.mapFields (·.setIfInBounds 0 (Value.ref s.heap.objs.size))) }) (zU:rest.length<=sizeLine) :
  wpAny (model prog w) A (call (.builtin "ValueError.__init__") (.ref e::rest)) Q E s:=by
 obtain⟨nm,qn,N,bs,bm,sn,sub,ab,col,dd,k0,k1,k2,k3,k5,mN,hC,hN,T⟩:=wA X q
 have FF:=PySem.F.excBase_ValueError
 obtain⟨h,g,d,t,os⟩:=s
 dsimp only at X hC hN T hq he
 have he1:(h.push { cls:=.type "tuple",data:=.seq rest.toArray }).get? e=some { cls:=.ref C,data:=.fields #[.ref t0,.none,.none,.none,.bool false,.none] }:=bR _ he
 refine jJ (Ba FF.init.plain FF.initEntry (wpAny_check_init_subU FF T hC he rfl ?_))
 wp_walk
 exact hq
theorem Ek(self:Value){h:Heap}{l:List Value}(T:OwnTail h veM l):refuseLoop self "__setattr__" l=pure ():=by
 induction T with
 | base=>exact PySem.F.store_ValueError.passes self
 | own _ _ _ _ ih=>rw[refuseLoop_ref];exact ih
theorem M4{name:Str}{tk:Tok}{v:Value}{R:Result->Shared->Prop}(X:K.In s.heap)(q:pH K C=true)(he:s.heap.get? e=some oe)(hc:oe.cls=.ref C)(ht:PySem.W.takerIn K C name=some none)
  (h:∀b,wpAny (model prog w) A.in1 (Builtin.ObjectAttr.storeInOwnDict (.ref e) (.ref C) (.str name tk) name v b) (λfin s'=>match fin with | .done f=>R (.ok f) s' | .again c'=>c'.quiet=true/\codeAny (model prog w) A c' R s') (λx s'=>R (.error x) s') s) :
  codeAny (model prog w) A (.call (.builtin "object.__setattr__") ⟨[.ref e,.str name tk,v],[]⟩) R s:=by
 obtain⟨nm,qn,N,bs,bm,sn,sub,ab,col,dd,k0,k1,k2,k3,k5,mN,hC,hN,T⟩:=wA X q
 have SF:=PySem.F.store_object
 have ty:Looks (model prog w) s.heap (typeOf (.ref e)) (.ref C):=hc ▸ (Looks.ld he).andThen .now
 have sub:Looks (model prog w) s.heap (isInstance (.ref e) (.type "object")) true:=ty.andThen (λA Q E s k z=>by
  obtain⟨h,g,d,t,os⟩:=s
  refine Ax (k _ _ hC) ?_
  rw[Ha,T.hasType (X:="object") (b:=true) (by decide +kernel),Bool.or_true]
  exact z)
 refine Ba SF.slot.plain SF.entry (@PySem.W.check_slot (model prog w) _ _ s "object.__setattr__" "object" "__setattr__" (.ref e) [.str name tk,v] [] _ SF.kind SF.split sub (SF.args (.ref e) (.str name tk) v) ?_)
 obtain⟨attr,ha,hr⟩:=Option.bind_eq_some_iff.mp ht
 have hm:Looks (model prog w) s.heap (mroOf (.ref C)) (.ref C::bm):=λA Q E s k z=>by
  obtain⟨h,g,d,t,os⟩:=s
  exact wpAny_mroOf_exc (k _ _ hC) z
 have L3:Looks (model prog w) s.heap (Builtin.ObjectAttr.storeTaker? attr) none:=by
  cases attr with
  | none=>exact .now
  | some a=>
   obtain⟨b,hb,z⟩:=Option.map_eq_some_iff.mp hr
   cases b with
   | true=>cases z
   | false=>exact(PySem.W.looks_takesIn X hb).andThen .now
 rw[PySem.W.osa_eq,refuse_eq]
 refine ay (ay (ty.here (ay (hm.here ?_))))
 rw[refuseLoop_ref,Ek _ T]
 exact aJ (ay (ty.here (ay ((Hi X ha).here (ay (L3.here (h _)))))))
theorem aD2{name:Str}{v:Value}{Q:Unit->Shared->Prop}(X:K.In s.heap)(q:pH K C=true)(he:s.heap.get? e=some oe)(hc:oe.cls=.ref C)(hd:oe.dict=none)(Ta:oe.data=.fields vs)
  (hs:PySem.W.findIn K (.ref C) "__setattr__" = some (some (.builtin "object.__setattr__"))) (ht:PySem.W.takerIn K C name=some none)
  (h:∀h' tk,h'.get? e=some { oe with dict:=some s.heap.objs.size }->h'.Ns1 s.heap.objs.size (λy=>if y=name then some v else none)->(∀b o,b≠e->s.heap.get? b=some o->h'.get? b=some o)->Q () { s with heap:=h',toks:=tk }) :
  wpAny (model prog w) A (setAttr (.ref e) name v) Q E s:=by
 obtain⟨oc,od,oda,Dv⟩:=oe
 dsimp only at hc hd Ta
 subst hc hd Ta
 have J:PySem.W.InstAt s.heap e ⟨.ref C,none,.fields vs,Dv⟩ C none:=⟨he,rfl,rfl,True.intro⟩
 refine PySem.W.set_plain X J hs (M4 (s:={ s with toks:=s.toks+1 }) X q he rfl ht λb=>?_)
 obtain⟨nm,qn,N,bs,bm,sn,sub,ab,col,dd,k0,k1,k2,k3,k5,mN,hC,hN,T⟩:=wA X q
 have vq:Looks (model prog w) s.heap (classData C) _:=(Looks.ld (part:=none) hC).andThen .now
 refine ay (aJ (ay (ay (wpAny_loadPart he (ay (Looks.here (s:={ s with toks:=s.toks+1 }) vq ?_))))))
 rw[aB (by simp)]
 dsimp only
 rw[aB (by simp[typeHasDict])]
 have he1:(s.heap.push { cls:=.type "dict",data:=.dict #[] }).get? e=some ⟨.ref C,none,.fields vs,Dv⟩:=bR _ he
 have vp:e≠s.heap.objs.size:=bI (bC he)
 refine ay (wpAny_alloc' (ay (wpAny_update' he1 ?_)))
 refine aJ ?_
 have YT:=mO (λo:Obj=>{ cls:=o.cls,dict:=some s.heap.objs.size,data:=o.data,slots:=o.slots }) he1 rfl
 have kp2:∀b o,b≠e->(s.heap.push { cls:=.type "dict",data:=.dict #[] }).get? b=some o->((s.heap.push { cls:=.type "dict",data:=.dict #[] }).update e λo=>{ cls:=o.cls,dict:=some s.heap.objs.size,data:=o.data,slots:=o.slots }).get? b=some o:=λb o hb z=>(Heap.get?_update_ne _ _ _ _ hb).trans z
 have hgd:=kp2 _ _ vp.symm (Heap.get?_push_at (h:=s.heap) (o:={ cls:=.type "dict",data:=.dict #[] }) rfl rfl)
 have kp3:∀b o,b≠e->s.heap.get? b=some o->((s.heap.push { cls:=.type "dict",data:=.dict #[] }).update e λo=>{ cls:=o.cls,dict:=some s.heap.objs.size,data:=o.data,slots:=o.slots }).get? b=some o:=λb o hb z=>kp2 b o hb (bR _ z)
 generalize ((s.heap.push { cls:=.type "dict",data:=.dict #[] }).update e λo=>{ cls:=o.cls,dict:=some s.heap.objs.size,data:=o.data,slots:=o.slots })=h2 at YT hgd kp3 ⊢
 have hnd:h2.Ns s.heap.objs.size (λ_=>none):=⟨_,#[],_,hgd,rfl,λx hx=>absurd hx (by simp),λ_=>rfl⟩
 refine ay (aJ (ay ?_))
 refine wpAny_nsSet1 (s:={ s with heap:=h2,toks:=s.toks+1 }) (Heap.Ns1.of_empty hnd) λh' Xj sb=>?_
 obtain⟨oD,esD,epD,hoD,hdD,hcD⟩:=Xj.count (Within.cons name v Within.nil)
 refine ay (wpAny_lookBehind hoD (by rw[hdD];exact pastItsLine_dict (fJ hcD (by rw[fh,ua,sizeLine_eq];omega))) ?_)
 exact aJ (h h' _ ((sb.2 _ vp).trans YT) Xj λb o hb z=>(sb.2 b (bI (bC z))).trans (kp3 b o hb z))
end
abbrev Zv(C:Addr)(dx:Option Addr)(t:Addr):Obj:={ cls:=.ref C,dict:=dx,data:=.fields #[.ref t,.none,.none,.none,.bool false,.none] }
section
variable {M:Model}{A:Around}{E:Value->Shared->Prop}{s:Shared}{K:Frag}{C:Addr}{env:Env}
theorem Zu{x:Sem Value}{Q:Flow->Shared->Prop}(q:pH K C=true)(hh:A.handled=none)(h:wpAny M A x (λv s₁=>∃e dx t,v=.ref e/\K.In s₁.heap/\s₁.heap.get? e=some (Zv C dx t)/\E (.ref e) s₁) E s) :
  wpAny M A (raiseStmt env (some x) none) Q E s:=by
 unfold raiseStmt
 refine ay (dk h (λv s₁ h₁=>?_) λ_ _ z=>z)
 obtain⟨e,dx,t,rfl,X,he,hE⟩:=h₁
 obtain⟨nm,qn,N,bs,bm,sn,sub,ab,col,dd,k0,k1,k2,k3,k5,mN,hC,hN,T⟩:=wA X q
 have hb:(Value.ref C::bm).contains (.type "BaseException")=true:=by rw[Ha,T.hasType (X:="BaseException") (b:=true) (by decide +kernel),Bool.or_true]
 obtain⟨hp,g,d,tk,os⟩:=s₁
 dsimp only at hC he
 repeat (first | with_reducible refine ud he ?_ | (with_reducible refine Ax hC ?_;rw[hb]) | wp_step)
 exact G7 hh hE
end
def G5(N:Addr->Prop)(h:Heap)(e C:Addr)(dx:Option Addr):Prop:=N e/\∃vs sl,h.get? e=some ⟨.ref C,dx,.fields vs,sl⟩/\vs[2]?=some .none/\(vs[1]?=some .none\/∃T oT ts,N T/\T≠e/\vs[1]?=some (.ref T)/\h.get? T=some oT/\oT.data=.fields ts/\ts[3]?=some .none)
structure Lv(fs ch:List Addr)(h h':Heap):Prop where
 keep:∀b o,b∉fs->b∉ch->h.get? b=some o->h'.get? b=some o
 slot:∀b o,b∈fs->h.get? b=some o->∃sl,h'.get? b=some { o with slots:=sl }
section
variable {M:Model}{A:Around}{E:Value->Shared->Prop}{s:Shared}{env:Env}{outer:List Env}{base:Heap}{N:Addr->Prop}{e C L:Addr}{dx:Option Addr}
theorem Qc{oe:Obj}{vs:Array Value}{head:Value}{Xp:Bool}{Q:Unit->Shared->Prop}(vH:A.frames=some (env::outer))(hl:s.heap.FunFrames base (env::outer))(hf:env.frame=some L)
  (he:s.heap.get? e=some oe) (hd:oe.data=.fields vs) (hz:1<vs.size)
  (h:∀h' T oT ts,s.heap.objs.size<=T->T≠e->h'.get? e=some { oe with data:=.fields (vs.setIfInBounds 1 (.ref T)) }->h'.get? T=some oT->oT.data=.fields ts->ts[3]?=some (rawInt L)->
   (∀b o,b≠e->b∉nh (env::outer)->s.heap.get? b=some o->h'.get? b=some o)->(∀b o,b∈nh (env::outer)->s.heap.get? b=some o->∃sl,h'.get? b=some { o with slots:=sl })->h'.FunFrames base (env::outer)->Q () { s with heap:=h' }) :
  wpAny M A (do let a <-frameOf env;let pl <-entryPlaceOf L Xp;let b <-EntryCells.newEntry head a .none (rawInt L) .none pl;setField (.ref e) 1 b) Q E s:=by
 have nf:∀b,b∈nh (env::outer)->b≠e:=λb hb z=>by
  obtain⟨_,o,ho,nd⟩:=hl.mem hb
  rw[z,he]at ho;cases ho;exact nd vs hd
 refine ay (wpAny_frameOf_fun vH hl hf λh₁ so=>ay (wpAny_entryPlaceOf λpl iF=>?_))
 unfold EntryCells.newEntry newFields
 refine ay (eZ ?_ (iF.sizeOk5 _ _ _ _ _))
 have he1:h₁.get? e=some oe:=(so.2.1 e λz=>nf e z rfl).trans he
 have k2:∀b o,h₁.get? b=some o->(h₁.push { cls:=.type "traceback",dict:=none,data:=.fields ([head,.ref L,.none,rawInt L,.none]++(if pl.isEmpty then List.replicate 6 Value.none else pl)).toArray }).get? b=some o:=λb o z=>bR _ z
 have t2:=cH h₁ (o:={ cls:=.type "traceback",dict:=none,data:=.fields ([head,.ref L,.none,rawInt L,.none]++(if pl.isEmpty then List.replicate 6 Value.none else pl)).toArray }) rfl
 have t3:([head,.ref L,.none,rawInt L,.none]++(if pl.isEmpty then List.replicate 6 Value.none else pl)).toArray[3]?=some (rawInt L):=by simp
 generalize ([head,.ref L,.none,rawInt L,.none]++(if pl.isEmpty then List.replicate 6 Value.none else pl)).toArray=ts at k2 t2 t3 ⊢
 generalize h₁.push { cls:=.type "traceback",dict:=none,data:=.fields ts }=h₂ at k2 t2 ⊢
 have he2:=k2 _ _ he1
 have Vc:h₁.objs.size≠e:=jK (bC he1)
 refine qp he2 hd hz ?_
 have oth:∀b o,b≠e->h₂.get? b=some o->(h₂.update e (Obj.mapFields (·.setIfInBounds 1 (Value.ref h₁.objs.size)))).get? b=some o:=λb o hb z=>(mP _ _ hb.symm).trans z
 have d3:=uW hd (·.setIfInBounds 1 (Value.ref h₁.objs.size))
 have he3:=mO (Obj.mapFields (·.setIfInBounds 1 (Value.ref h₁.objs.size))) he2 (wu d3)
 have sl3:∀b o,b∈nh (env::outer)->s.heap.get? b=some o->∃sl,(h₂.update e (Obj.mapFields (·.setIfInBounds 1 (Value.ref h₁.objs.size)))).get? b=some { o with slots:=sl }:=λb o hb z=>by
  obtain⟨sl,e1⟩:=so.2.2 b o z
  exact⟨sl,oth _ _ (nf b hb) (k2 _ _ e1)⟩
 refine h _ h₁.objs.size _ ts (Nat.le_of_eq so.1.symm) Vc ?_ (oth _ _ Vc t2) rfl t3 (λb o hb hf z=>oth b o hb (k2 _ _ ((so.2.1 b hf).trans z))) sl3 ?_
 ·rw[he3]
  obtain⟨oc,od,oda,Dv⟩:=oe
  dsimp only at hd
  subst hd
  rfl
 ·refine hl.of_keeps λb o hb nd=>?_
  obtain⟨sl,e1⟩:=so.2.2 b o hb
  refine⟨_,oth b _ (λz=>?_) (k2 _ _ e1),rfl⟩
  rw[z,he]at hb;cases hb;exact nd vs hd
theorem Yp{T:Addr}{oe oT:Obj}{vs ts:Array Value}{Q:Unit->Shared->Prop}(he:s.heap.get? e=some oe)(hd:oe.data=.fields vs)(h1:vs[1]?=some (.ref T))(hT:s.heap.get? T=some oT)(hdT:oT.data=.fields ts)(hz:3<ts.size)
  (h:Q () { s with heap:=s.heap.update T (Obj.mapFields (·.setIfInBounds 3 Value.none)) }):wpAny M A (setFlight (.ref e) none) Q E s:=by
 unfold setFlight
 refine ay (ib he hd h1 ?_)
 rw[aC (show(Value.ref T != Value.none)=true from by simp)]
 exact qp hT hdT hz h
theorem Qb{Q:Unit->Shared->Prop}(vH:A.frames=some (env::outer))(hl:s.heap.FunFrames base (env::outer))(hf:env.frame=some L)(hN:∀b,s.heap.objs.size<=b->N b)(x:G5 N s.heap e C dx)
  (h:∀h' ch,(∀b∈ch,N b/\∃o vs,s.heap.get? b=some o/\o.data=.fields vs)->G5 N h' e C dx->Lv (nh (env::outer)) ch s.heap h'->Q () { s with heap:=h' }):wpAny M A (noteFrame (.ref e) env) (λ_ s'=>wpAny M A (setFlight (.ref e) none) Q E s') E s:=by
 obtain⟨ne,vs,sl,he,c2,tb⟩:=x
 have fin:∀(ch:List Addr) (yT:∀b∈ch,N b/\∃o vs,s.heap.get? b=some o/\o.data=.fields vs) (s1:Shared) (h':Heap) (T:Addr) (oT:Obj) (ts:Array Value),s1.heap.objs.size=s.heap.objs.size->s1.heap.objs.size<=T->T≠e->h'.get? e=some ⟨.ref C,dx,.fields (vs.setIfInBounds 1 (.ref T)),sl⟩->1<vs.size->h'.get? T=some oT->oT.data=.fields ts->ts[3]?=some (rawInt L)->
   (∀b o,b∉nh (env::outer)->b∉ch->s.heap.get? b=some o->h'.get? b=some o)->(∀b o,b∈nh (env::outer)->s.heap.get? b=some o->∃sl,h'.get? b=some { o with slots:=sl })->s1={ s with heap:=s1.heap }->
   wpAny M A (setFlight (.ref e) none) Q E { s1 with heap:=h' }:=λch yT s1 h' T oT ts hs hT Vc e1 hz t1 t2 t3 k1 k2 es=>by
  have v1:(vs.setIfInBounds 1 (Value.ref T))[1]?=some (.ref T):=by simp[hz]
  have z3:=(za.mp t3).1
  refine Yp (s:={ s1 with heap:=h' }) e1 rfl v1 t1 t2 z3 ?_
  have nT:N T:=hN T (by omega)
  have ot:∀b o,b≠T->h'.get? b=some o->(h'.update T (Obj.mapFields (·.setIfInBounds 3 Value.none))).get? b=some o:=λb o hb z=>(mP _ _ hb.symm).trans z
  have t4:=mO (Obj.mapFields (·.setIfInBounds 3 Value.none)) t1 (wu (uW t2 _))
  have g:=h (h'.update T (Obj.mapFields (·.setIfInBounds 3 Value.none))) ch yT ⟨ne,_,sl,ot _ _ Vc.symm e1,(by simpa [Array.getElem?_setIfInBounds]using c2),.inr ⟨T,_,_,nT,Vc,v1,t4,uW t2 _,by simp[z3]⟩⟩ ⟨λb o hb nb z=>ot b o (λy=>?_) (k1 b o hb nb z),λb o hb z=>?_⟩
  ·rw[es];exact g
  ·have:=bC z
   rw[y]at this
   exact absurd this (kj.mpr (by rw[<-hs];exact hT))
  ·obtain⟨sl',e2⟩:=k2 b o hb z
   refine⟨sl',ot b _ (λy=>?_) e2⟩
   obtain⟨_,o',Tf,nd⟩:=hl.mem hb
   have:=bC Tf
   rw[y]at this
   exact absurd this (kj.mpr (by rw[<-hs];exact hT))
 unfold noteFrame
 simp only[hf]
 rcases tb with h1 | ⟨T,oT,ts,nT,Vc,h1,hT,dT,h3⟩
 ·have hz:=(za.mp h1).1
  refine ay (ib he rfl h1 ?_)
  rw[aB (by decide)]
  exact Qc vH hl hf he rfl hz λh' T oT ts a1 a2 a3 a4 a5 a6 a7 a8 _=>fin [e] (λb hb=>by rw[df.mp hb];exact⟨ne,_,_,he,rfl⟩) s h' T oT ts rfl a1 a2 a3 hz a4 a5 a6 (λb o hb nb z=>a7 b o (λy=>nb (by rw[y];simp)) hb z) a8 rfl
 ·have hz:=(za.mp h1).1
  refine ay (ib he rfl h1 ?_)
  rw[aC (show(Value.ref T != Value.none)=true by simp)]
  refine ay (ib hT dT h3 ?_)
  rw[aB (show ¬((Value.none==rawInt L)=true) by simp[rawInt])]
  refine ay (qp hT dT (za.mp h3).1 ?_)
  have ot:∀b o,b≠T->s.heap.get? b=some o->(s.heap.update T (Obj.mapFields (·.setIfInBounds 3 Value.none))).get? b=some o:=λb o hb z=>(mP _ _ hb.symm).trans z
  have nfT:∀b o,s.heap.get? b=some o->(∀vs,o.data≠.fields vs)->b≠T:=λb o z nd y=>by rw[y,hT]at z;cases z;exact nd ts dT
  have Y0:(s.heap.update T (Obj.mapFields (·.setIfInBounds 3 Value.none))).FunFrames base (env::outer):=hl.of_keeps λb o z nd=>⟨o,ot b o (nfT b o z nd) z,rfl⟩
  have sz:(s.heap.update T (Obj.mapFields (·.setIfInBounds 3 Value.none))).objs.size=s.heap.objs.size:=by simp
  have he2:=ot _ _ Vc.symm he
  generalize s.heap.update T (Obj.mapFields (·.setIfInBounds 3 Value.none))=hq at ot Y0 sz he2 ⊢
  refine Qc (s:={ s with heap:=hq }) vH Y0 hf he2 rfl hz λh' T' oT' ts' a1 a2 a3 a4 a5 a6 a7 a8 _=>fin [e,T] (λb hb=>?_) { s with heap:=hq } h' T' oT' ts' sz a1 a2 a3 hz a4 a5 a6 (λb o hb nb z=>a7 b o (λy=>nb (by rw[y];simp)) hb (ot b o (λy=>nb (by rw[y];simp)) z)) (λb o hb z=>a8 b o hb (ot b o ?_ z)) rfl
  ·have:b=e\/b=T:=by simpa using hb
   rcases this with rfl | rfl
   ·exact⟨ne,_,_,he,rfl⟩
   ·exact⟨nT,_,_,hT,dT⟩
  ·obtain⟨_,o',Tf,nd⟩:=hl.mem hb
   exact nfT b o' Tf nd
theorem Qa{Q:Unit->Shared->Prop}(vH:A.frames=some (env::outer))(hl:s.heap.FunFrames base (env::outer))(hf:env.frame=some L)(hN:∀b,s.heap.objs.size<=b->N b)(x:G5 N s.heap e C dx)
  (h:∀h' ch,(∀b∈ch,N b/\∃o vs,s.heap.get? b=some o/\o.data=.fields vs)->G5 N h' e C dx->Lv (nh (env::outer)) ch s.heap h'->Q () { s with heap:=h' }):wpAny M A (leaving env (.ref e)) Q E s:=ay (Qb vH hl hf hN x h)
end
structure XC(K:Frag)(C:Addr):Prop where
 is:pH K C=true
 hd:PySem.W.hasDictIn K C=true
 sa:PySem.W.findIn K (.ref C) "__setattr__" = some (some (.builtin "object.__setattr__"))
 ga:PySem.W.findIn K (.ref C) "__getattribute__" = some (some (.builtin "BaseException.__getattribute__"))
 gn:PySem.W.findIn K (.ref C) "__getattr__" = some none
 ca:PySem.W.findIn K (.ref C) "__class__" = some (some (.builtin "object.__class__"))
 cn:PySem.W.specialIn K (.builtin "object.__class__") "__get__" = some (some (.builtin "getset_descriptor.__get__"))
 ct:PySem.W.takesIn K (.builtin "object.__class__")=some true
 cm:PySem.W.mroIn K C (.type "object")=some true
def DG(P:Program)(w:World):Mz:=λouter H s E x s'=>∃e C dx H',x=.ref e/\s'.os=s.os/\AllBare s'.gens/\Un (nh outer) [] H H' s.heap s'.heap/\gZ P w H' s'.heap/\G5 (λb=>s.heap.objs.size<=b/\H' b=none) s'.heap e C dx/\E (.ref C) dx H'
def XN(X:Cx)(pins:List (Addr×Obj))(H:Hp)(b:Addr):Prop:=X.s₀.heap.objs.size<=b/\H b=none/\b≠X.env.locals/\(∀x c,X.env.cells.lookup x=some c->c≠b)/\∀p∈X.pn++pins,p.1≠b
theorem XN.new{X:Cx}{pins:List (Addr×Obj)}{σ:St}{H H':Hp}{s:Shared}(I:Inv X pins σ H s){b:Addr}(hb:s.heap.objs.size<=b)(hn:H' b=none):XN X pins H' b:=by
 have nb:∀{c:Addr} {o:Obj},s.heap.get? c=some o->c≠b:=λz y=>absurd (bC z) (by rw[y];exact kj.mpr hb)
 refine⟨fJ I.sz hb,hn,λy=>?_,λx c e=>?_,λp hp=>nb (I.pin p hp).1⟩
 ·obtain⟨m,⟨o,_,_,ho,_⟩,_⟩:=I.loc
  exact nb ho y.symm
 ·obtain⟨v,o,ho,_⟩:=I.cell x c e
  exact nb ho
def iR(X:Cx)(EH:St->XK):Prop:=∀(pins:List (Addr×Obj)) (σ:St) (H:Hp) (s:Shared) (e C:Addr) (dx:Option Addr),Inv X pins σ H s->G5 (XN X pins H) s.heap e C dx->EH σ (.ref C) dx H->X.xe (.ref e) s
theorem G5.mono{N N':Addr->Prop}{h:Heap}{e C:Addr}{dx:Option Addr}(k:∀b,N b->N' b)(x:G5 N h e C dx):G5 N' h e C dx:=by
 obtain⟨n,vs,sl,he,c2,tb⟩:=x
 refine⟨k _ n,vs,sl,he,c2,tb.imp id ?_⟩
 rintro⟨T,oT,ts,nT,r⟩
 exact⟨T,oT,ts,k _ nT,r⟩
theorem iR.pass{X:Cx}{EH:St->XK}(L:iR X EH){pins:List (Addr×Obj)}{σ:St}{H:Hp}{s s':Shared}{x:Value}(I:Inv X pins σ H s)(h:DG X.prog X.w X.stack H s (EH σ) x s'):X.xe x s':=by
 obtain⟨e,C,dx,H',rfl,os,bare,un,bx,xa,q⟩:=h
 have I':Inv X pins σ H' s':=I.call' os un bx bare (λb z=>absurd z (by simp))
 exact L pins σ H' s' e C dx I' (xa.mono λb hb=>.new I hb.1 hb.2) q
section
variable {P:Program}{w:World}{K:Frag}{mg:Str->Option Value}{base:Heap}
theorem Sx{N:List Str}{qual:Str}{scope:Scope}{f:Addr}{cd:Value}{A:Around}{outer:List Env}{s:Shared}{H:Hp}{E:XK}:iR (dF (DG P w) P w K mg base N qual scope f cd A outer s H E) (λ_=>E):=by
 intro pins σ H1 s1 e C dx I xa hE
 have hsz:s.heap.objs.size<=s1.heap.objs.size:=I.sz
 refine Qa (L:=s.heap.objs.size) (N:=λb=>s.heap.objs.size<=b/\H1 b=none) (base:=base) I.ok.frames I.stack rfl (λb hb=>⟨fJ hsz hb,I.bx.fresh hb⟩) (xa.mono λb hb=>⟨hb.1,hb.2.1⟩) λh' ch yT xa' lv=>?_
 have nn:∀b o,s.heap.get? b=some o->b∉ch:=λb o z y=>absurd (bC z) (kj.mpr (yT b y).1.1)
 have nf:∀b o,s.heap.get? b=some o->b∉nh outer->b∉nh (envOfC qual scope s.heap.objs.size f cd::outer):=λb o z hb y=>by
  rcases bT.mp (show b∈s.heap.objs.size::nh outer from y) with y | y
  ·have:=bC z
   rw[y]at this
   exact iJ _ this
  ·exact hb y
 have sub:∀b,b∈nh outer->b∈nh (envOfC qual scope s.heap.objs.size f cd::outer):=λb hb=>dW (a:=b) s.heap.objs.size hb
 have un:Un (nh outer) [] H H1 s.heap s1.heap:=I.base
 refine⟨e,C,dx,H1,rfl,I.os,I.bare,⟨λb o z n hb hx=>lv.keep b o (nf b o z hb) (nn b o z) (un.keep b o z n hb hx),λb o z n hb hx=>?_,un.free,λb o z hx=>?_,un.tups,un.frzs,un.tbls⟩,λa u z=>?_,xa',hE⟩
 ·obtain⟨sl,z1⟩:=un.slot b o z n hb hx
  obtain⟨GR,z2⟩:=lv.slot b _ (sub b hb) z1
  exact⟨GR,z2⟩
 ·obtain⟨o',z1⟩:=un.there b o z hx
  by_cases hb:b∈nh (envOfC qual scope s.heap.objs.size f cd::outer)
  ·obtain⟨GR,z2⟩:=lv.slot b _ hb z1
   exact⟨_,z2⟩
  ·exact⟨o',lv.keep b o' hb (nn b o z) z1⟩
 ·refine(I.bx a u z).stay (λb v hb y=>?_) (λ_ q=>q) λ_ _ q=>q
  have hn:¬H1 b=none:=λy=>by
   rcases hb with rfl | hb
   ·rw[z]at y;cases y
   ·rw[hb]at y;cases y
  exact lv.keep b v (λy=>hn (I.sU b y)) (λy=>hn (yT b y).1.2) y
theorem jE.okE{x qual:Str}{st:Stmt}{f:Addr}{fd:FuncData}{N ps:List Str}{k:Nat}{sp:Sp}(F:jE K x qual st f fd)(S:aU N ps (ag st))(len:∀vs H Q E,sp vs H Q E->vs.length=ps.length)
  (eI:∀(cD:Value) (A:Around) (outer:List Env) (s:Shared) (H:Hp) (vs:List V) (Q:VK) (E:XK),cv k (A.deeper (envOfC qual (ag st) s.heap.objs.size f cD))->sp vs H Q E->
   HC (dF (DG P w) P w K mg base N qual (ag st) f cD A outer s H E) N (ag st)->(∀x,(dF (DG P w) P w K mg base N qual (ag st) f cD A outer s H E).fn x=true)->
   iR (dF (DG P w) P w K mg base N qual (ag st) f cD A outer s H E) (λ_=>E)->PassesOwn (model P w) (dF (DG P w) P w K mg base N qual (ag st) f cD A outer s H E).A (dF (DG P w) P w K mg base N qual (ag st) f cD A outer s H E).env (dF (DG P w) P w K mg base N qual (ag st) f cD A outer s H E).xe->
   ∃t,GJ (dF (DG P w) P w K mg base N qual (ag st) f cD A outer s H E) (aK st) t/\t { nx:=λ_ H'=>Q .non H',rt:=Q } (start N vs) H):cq P w K mg base (DG P w) (k+1) f fd ps sp:=by
 obtain⟨oc,od,kV,doc,pm,an,cD,ct,Dv,rfl,lk,vq⟩:=F.ex
 refine T4 lk vq S len λA outer s H vs Q E hr yR=>?_
 obtain⟨t,h,q⟩:=eI cD A outer s H vs Q E hr yR ⟨rfl,rfl⟩ (λ_=>rfl) Sx PassesOwn.leaving
 exact⟨t,h.to,q⟩
end
section
variable {X:Cx}{k:Nat}{f C:Addr}{fd:FuncData}{ps:List Str}{sp:Sp}{EH:St->XK}{x:Str}{p pos:Pos}{e:Expr}{es:List Expr}{t:TA}
def Bx(sp:Sp)(EH:St->XK)(t:TA):TE:=λσ H Q=>t σ H λvs H1=>sp vs H1 Q (EH σ)
theorem VN{pins:List (Addr×Obj)}{σ:St}{H:Hp}{s:Shared}{Q:VK}{us:List Value}{vs:List V}(F:cq X.prog X.w X.K X.mg X.base (DG X.prog X.w) k f fd ps sp)(hr:cv k X.A)(hb:Binds X.K fd ps [])(hx:iR X EH)
  (I:Inv X pins σ H s) (r:Vals vs us) (h:sp vs H Q (EH σ)):wpAny (model X.prog X.w) X.A (call (.ref f) us) (EP X pins σ Q) X.xe s:=by
 have hl:us.length=ps.length:=by rw[<-r.length];exact F.len _ _ _ _ h
 have b:=hb s us I.qc (by rw[gh];exact hl)
 rw[gh]at b
 refine jJ (ic (F.run X.A X.stack s H ⟨us,[]⟩ us vs Q (EH σ) hr I.yW b r h) λr s' hq=>?_)
 cases r with
 | error e=>exact hx.pass I hq
 | ok fl=>
  cases fl with
  | ret u=>exact I.after hq
  | _=>exact False.elim hq
theorem R3(F:cq X.prog X.w X.K X.mg X.base (DG X.prog X.w) k f fd ps sp)(hr:cv k X.A)(hg:Gl X x)(hm:X.mg x=some (.ref f))(hk:PySem.W.keepIn X.K (.ref f)=true)(hb:Binds X.K fd ps [])(hx:iR X EH)
  (ha:PA X (e::es) t) (lA:(x==("__debug__" : Str))=false:=by decide) (he:starEach (e::es) X.env=(false,eval e X.env)::starEach es X.env:=by rfl) (iF:(backTo pos (starEach es X.env)).any (·.1)=false:=by rfl) :
  PE X (.Call (.Name x p) (e::es) [] pos) (Bx sp EH t):=by
 intro pins s σ H Q I h
 refine mM (hX I hg hm ?_ lA)
 exact uX (h₀:=X.base) I.ok.mod.Sz hk (cM (ha pos pins s σ H _ I h) λus s1 ⟨vs,H1,I1,r,q⟩=>⟨I1.qc,VN F hr hb hx I1 r q⟩) he iF
theorem MT(F:cq X.prog X.w X.K X.mg X.base (DG X.prog X.w) k f fd ps sp)(hr:cv k X.A)(hg:Gl X x)(hm:X.mg x=some (.ref f))(hk:PySem.W.keepIn X.K (.ref f)=true)(hb:Binds X.K fd ps [])(hx:iR X EH)
  (ha:ZA X (e::es) t) (lA:(x==("__debug__" : Str))=false:=by decide) (he:starEach (e::es) X.env=(false,eval e X.env)::starEach es X.env:=by rfl) (iF:(backTo pos (starEach es X.env)).any (·.1)=false:=by rfl) :
  ZE X (.Call (.Name x p) (e::es) [] pos) (Bx sp EH t):=⟨R3 F hr hg hm hk hb hx ha.to lA he iF⟩
end
section
variable {X:Cx}{k:Nat}{fI C:Addr}{fd:FuncData}{ps:List Str}{sp:Sp}{EH:St->XK}{x:Str}{np dj pos:Pos}{a:Expr}{t:TA}
def Kn(C:Addr)(t:TA)(EH:St->XK):TS:=λ_ σ H=>t σ H λvs H1=>vs.length<=sizeLine/\EH σ (.ref C) none H1
def jB(e C:Addr)(dx:Option Addr)(t:Addr):Heap->Prop:=λh=>h.get? e=some (Zv C dx t)
theorem Bm{P:Program}{w:World}{H:Hp}{h:Heap}{e C t:Addr}{dx:Option Addr}(z:h.get? e=some (Zv C dx t)):dE P w H h e (.ext (jB e C dx t)):=⟨z,⟨_,z⟩,λh1 h2 a b=>b _ a⟩
def BJ(C:Addr)(fld:Str):Sp:=λvs H Q _=>∃e v t,vs=[.ref e,v]/\H e=some (.ext (jB e C none t))/\∀dx t',H dx=none->dx≠e->Q .non (upd (upd H e (.ext (jB e C (some dx) t'))) dx (.xd [(fld,v)]))
def x8(H:Hp)(e:Addr):Hp:=λb=>if b=e then none else H b
theorem gR{H:Hp}{e:Addr}:x8 H e e=none:=aC rfl
theorem iW{H:Hp}{e b:Addr}(h:b≠e):x8 H e b=H b:=aB h
theorem pB{H:Hp}{e b:Addr}(h:H b=none):x8 H e b=none:=by
 by_cases hb:b=e
 ·rw[hb];exact gR
 ·rw[iW hb];exact h
theorem Inv.forget{pins:List (Addr×Obj)}{σ:St}{H:Hp}{s:Shared}{e:Addr}{φ:Heap->Prop}(I:Inv X pins σ H s)(he:H e=some (.ext φ)):Inv X pins σ (x8 H e) s:=by
 have ne:∀{b:Addr} {u:HO},H b=some u->(HO.ext φ≠u)->b≠e:=λz n=>(aN he z n).symm
 have ok:gZ X.prog X.w (x8 H e) s.heap:=λb u z=>by
  by_cases hb:b=e
  ·rw[hb,gR]at z;cases z
  ·rw[iW hb]at z
   refine(I.bx b u z).stay (λ_ _ _ q=>q) (λc q=>?_) λc xs q=>?_
   ·rw[iW (ne q (by intro z;cases z))];exact q
   ·rw[iW (ne q (by intro z;cases z))];exact q
 refine⟨I.ok,I.os,I.bare,⟨I.base.keep,I.base.slot,λb ob z n hx=>pB (I.base.free b ob z n hx),I.base.there,λb xs z=>?_,λb ob u z=>?_,λb ps z=>?_⟩,I.loc,I.cell,pB I.free,λx c z=>pB (I.gx x c z),λp hp=>?_,ok,I.len⟩
 ·have e1:=I.base.tups b xs z
  rw[iW (ne e1 (by intro z;cases z))];exact e1
 ·have e1:=I.base.frzs b ob u z
  rw[iW (ne e1 (by intro z;cases z))];exact e1
 ·obtain⟨m,e1⟩:=I.base.tbls b ps z
  exact⟨m,by rw[iW (ne e1 (by intro z;cases z))];exact e1⟩
 ·obtain⟨p1,p2,p3⟩:=I.pin p hp
  exact⟨p1,pB p2,p3⟩
def vP(C:Addr)(fld:Str)(t:TE)(EH:St->XK):TS:=λ_ σ H=>t σ H λv H1=>∀dx,H1 dx=none->EH σ (.ref C) (some dx) (upd H1 dx (.xd [(fld,v)]))
theorem Nz{fld:Str}{te:TE}(c:XC X.K C)(hi:PySem.W.findIn X.K (.ref C) "__init__" = some (some (.ref fI)))(hf:PySem.W.typeIn X.K (.ref fI)=some (.type "function"))(hk:PySem.W.keepIn X.K (.ref C)=true)
  (F:cq X.prog X.w X.K X.mg X.base eV k fI fd ps (BJ C fld)) (hb:Binds X.K fd ps []) (hr:cv (k+1) X.A) (hg:Gl X x) (hm:X.mg x=some (.ref C)) (hc:X.A.handled=none) (L:iR X EH) (ha:PE X a te)
  (lA:(x==("__debug__" : Str))=false:=by decide) (he:starEach [a] X.env=(false,eval a X.env)::starEach [] X.env:=by rfl) (iF:(backTo dj (starEach [] X.env)).any (·.1)=false:=by rfl) :
  PS X (.Raise (some (.Call (.Name x np) [a] [] dj)) none pos) (vP C fld te EH):=by
 intro pins s σ H D I h
 rw[arm_exec_Raise]
 refine ay (t6 (Zu c.is hc ?_))
 refine ay (mM (hX I hg hm ?_ lA))
 refine uX (h₀:=X.base) I.ok.mod.Sz hk (cM (vT ha Ii he dj pins s σ H (λvs H1=>match vs with | [v]=>(∀dx,H1 dx=none->EH σ (.ref C) (some dx) (upd H1 dx (.xd [(fld,v)]))) | _=>False) I h) λus s1 ⟨vs,H1,I1,r,q⟩=>⟨I1.qc,?_⟩) he iF
 match vs,q,r with
 | [v],q,r=>
  have ul:us.length<=sizeLine:=by rw[<-r.length];show 1<=sizeLine;decide
  refine Ur I1.qc c.is hi hf (λh' mk=>?_) ul
  obtain⟨t,e1,_,_⟩:=mk.there
  have fe:H1 (s1.heap.objs.size+1)=none:=I1.bx.fresh (nk _)
  have I2:=I1.laid (a:=s1.heap.objs.size+1) (o:=.ext (jB (s1.heap.objs.size+1) C none t)) (t':=s1.toks) mk.keeps (nk _) (Bm e1)
  have fe2:∀H':Hp,H' (s1.heap.objs.size+1)=none->XN X pins H' (s1.heap.objs.size+1):=λH' z=>.new I1 (nk _) z
  generalize s1.heap.objs.size+1=e at e1 fe I2 fe2
  have hq:BJ C fld [.ref e,v] (upd H1 e (.ext (jB e C none t))) (λu H2=>u=.non/\∃dx t',H1 dx=none/\dx≠e/\H2=upd (upd (upd H1 e (.ext (jB e C none t))) e (.ext (jB e C (some dx) t'))) dx (.xd [(fld,v)])) E0:=⟨e,v,t,rfl,ah,λdx t' hd vp=>⟨rfl,dx,t',by rwa [aj vp]at hd,vp,rfl⟩⟩
  have r2:Vals [V.ref e,v] (Value.ref e::us):=.cons rfl r
  have hl:(Value.ref e::us).length=ps.length:=by rw[<-r2.length];exact F.len _ _ _ _ hq
  have b:=hb _ (Value.ref e::us) I2.qc (by rw[gh];exact hl)
  rw[gh]at b
  refine jJ (ic (F.run _ X.stack _ _ ⟨Value.ref e::us,[]⟩ (Value.ref e::us) _ _ E0 (hr.make C us []) (I2.yW.make C us []) b r2 hq) λr s' Jv=>?_)
  cases r with
  | error e=>exact False.elim Jv
  | ok fl=>
   cases fl with
   | ret u=>
    obtain⟨v',H3,I3,rv,rfl,dx,t',Gd,vp,rfl⟩:=I2.after Jv
    have e3:upd (upd (upd H1 e (.ext (jB e C none t))) e (.ext (jB e C (some dx) t'))) dx (.xd [(fld,v)]) e=some (.ext (jB e C (some dx) t')):=by rw[aj vp.symm,ah]
    have o3:jB e C (some dx) t' s'.heap:=(I3.bx e _ e3).1
    have I4:=Inv.forget I3 e3
    have eh:x8 (upd (upd (upd H1 e (.ext (jB e C none t))) e (.ext (jB e C (some dx) t'))) dx (.xd [(fld,v)])) e=upd H1 dx (.xd [(fld,v)]):=by
     funext b
     by_cases hb:b=e
     ·rw[hb,gR,aj vp.symm,fe]
     ·rw[iW hb]
      by_cases hd:b=dx
      ·rw[hd,ah,ah]
      ·rw[aj hd,aj hd,aj hb,aj hb]
    rw[eh]at I4
    refine⟨rv,ay (t6 (aJ ⟨e,some dx,t',rfl,I4.qc,o3,L pins σ _ _ e C (some dx) I4 ⟨fe2 _ (by rw[aj vp.symm];exact fe),_,_,o3,rfl,.inl rfl⟩ (q dx Gd)⟩))⟩
   | _=>exact False.elim Jv
end
section
variable {X:Cx}{B:Addr}{x:Str}{np dj apos pos pos':Pos}{a b o value:Expr}{t:TA}{ta tv:TE}{fld:Str}
def Ks(K:Frag)(t:TA):TE:=λσ H Q=>t σ H λvs H1=>∃e C t0 v,vs=[.ref e,v]/\H1 e=some (.ext (jB e C none t0))/\XC K C/\∀t',Q .non (upd H1 e (.ext (jB e C none t')))
theorem X6{pins:List (Addr×Obj)}{σ:St}{H1:Hp}{s1:Shared}{us:List Value}{vs:List V}{Q:VK}{A:Around}{E:Value->Shared->Prop}(I1:Inv X pins σ H1 s1)(r:Vals vs us)
  (h:∃e C t0 v,vs=[.ref e,v]/\H1 e=some (.ext (jB e C none t0))/\XC X.K C/\∀t',Q .non (upd H1 e (.ext (jB e C none t')))):wpAny (model X.prog X.w) A (call (.builtin "ValueError.__init__") us) (EP X pins σ Q) E s1:=by
 obtain⟨e,C,t0,v,rfl,he,c,q⟩:=h
 obtain⟨u1,u2,rfl,r1,r2⟩:=r.two
 obtain rfl:u1=Value.ref e:=r1
 have o1:s1.heap.get? e=some (Zv C none t0):=(I1.bx e _ he).1
 have e1:(s1.heap.push { cls:=.type "tuple",data:=.seq [u2].toArray }).get? e=some (Zv C none t0):=bR _ o1
 have e2:((s1.heap.push { cls:=.type "tuple",data:=.seq [u2].toArray }).update e (Obj.mapFields (·.setIfInBounds 0 (Value.ref s1.heap.objs.size)))).get? e=some (Zv C none s1.heap.objs.size):=(mO _ e1 rfl).trans rfl
 have k2:∀b ob,b≠e->s1.heap.get? b=some ob->((s1.heap.push { cls:=.type "tuple",data:=.seq [u2].toArray }).update e (Obj.mapFields (·.setIfInBounds 0 (Value.ref s1.heap.objs.size)))).get? b=some ob:=λb ob hb z=>(mP _ _ hb.symm).trans (bR _ z)
 refine O9 I1.qc c.is o1 ?_ (show 1<=sizeLine by decide)
 generalize ((s1.heap.push { cls:=.type "tuple",data:=.seq [u2].toArray }).update e (Obj.mapFields (·.setIfInBounds 0 (Value.ref s1.heap.objs.size))))=h2 at e2 k2 ⊢
 exact⟨.non,_,I1.write (x:=e) (e:=e) (o:=.ext (jB e C none s1.heap.objs.size)) (t':=s1.toks) (by rw[he];trivial) (.inl rfl) (λb ob hb z=>k2 b ob hb z) ⟨_,e2⟩ (Bm e2),rfl,q _⟩
theorem Wy{pl:Sem Bool}(hr:PySem.W.readsIn X.K B (.type "type")=true)(hf:PySem.W.findCls X.K (.ref B) (.type "type") "__init__" = some (.val (.builtin "ValueError.__init__")))
  (hs:PySem.W.specialIn X.K (.ref B) "__getattribute__" = some (some (.builtin "type.__getattribute__"))) (hg:Gl X x) (hm:X.mg x=some (.ref B)) (ha:PA X [a,b] t)
  (lA:(x==("__debug__" : Str))=false:=by decide) (Dw:starEach [a,b] X.env=(false,eval a X.env)::starEach [b] X.env:=by rfl) (iF:(backTo dj (starEach [b] X.env)).any (·.1)=false:=by rfl)
  (ht:eval (.Call (.Attribute (.Name x np) "__init__" apos) [a,b] [] dj) X.env=(do
   let ov <-eval (.Name x np) X.env
   standAt apos.atName
   let (f,first) <-holding [ov] (getMethod ov "__init__" pl)
   callWith dj f first (backTo dj (starEach [a,b] X.env)) (backToKw dj (keywordEach [] X.env))):=by rfl) :
  PE X (.Call (.Attribute (.Name x np) "__init__" apos) [a,b] [] dj) (Ks X.K t):=by
 intro pins s σ H Q I h
 refine Bf (pl:=pl) (hX I hg hm ?_ lA) ht
 refine PySem.W.method_cls I.qc hs (PySem.W.cls_value I.qc hr hf rfl ?_)
 have I0:Inv X pins σ H { s with toks:=s.toks+1 }:=I.tok _
 show wpAny _ _ (callWith dj (.builtin "ValueError.__init__") [] (backTo dj (starEach [a,b] X.env)) []) _ _ _
 exact PJ (cM (ha dj pins _ σ H _ I0 h) λus s1 ⟨vs,H1,I1,r,q⟩=>X6 I1 r q) Dw iF
def Kz(K:Frag)(ta tv:TE)(fld:Str):TS:=λD σ H=>tv σ H λy H1=>ta σ H1 λx H2=>∃e C t,x=.ref e/\H2 e=some (.ext (jB e C none t))/\XC K C/\PySem.W.takerIn K C fld=some none/\
 ∀dx,H2 dx=none->dx≠e->D.nx σ (upd (upd H2 e (.ext (jB e C (some dx) t))) dx (.xd [(fld,y)]))
theorem Wj(ha:PE X o ta)(hv:PE X value tv)(hs:swapsWith value (some (.Attribute o fld pos')) pos.line X.env=pure false):PS X (.Assign [.Attribute o fld pos'] value pos) (Kz X.K ta tv fld):=by
 intro pins s σ H D I h
 refine plainObj_wpAny_Assign_Attribute (cM (hv pins s σ H _ I h) λu s1 ⟨y,H1,I1,ry,q⟩=>cM (ha pins s1 σ H1 _ I1 q) λov s2 ⟨x,H2,I2,rx,e,C,t,ex,he,c,tk,q2⟩=>?_) hs
 subst ex
 obtain rfl:ov=Value.ref e:=rx
 have o2:s2.heap.get? e=some (Zv C none t):=(I2.bx e _ he).1
 refine aD2 I2.qc c.is o2 rfl rfl rfl c.sa tk λh' tk' e3 n3 k3=>?_
 have hd:H2 s2.heap.objs.size=none:=I2.bx.fresh (bB _)
 have hde:s2.heap.objs.size≠e:=jK (bC o2)
 have hdn:s2.heap.get? s2.heap.objs.size=none:=uh (bB _)
 generalize s2.heap.objs.size=dx at e3 n3 hd hde hdn
 have U:∀{b:Addr},b≠e->b≠dx->upd (upd H2 e (.ext (jB e C (some dx) t))) dx (.xd [(fld,y)]) b=H2 b:=λh1 h2=>by rw[aj h2,aj h1]
 have ne:∀{b:Addr} {z:HO},H2 b=some z->(HO.ext (jB e C none t)≠z)->b≠e:=λz n=>(aN he z n).symm
 have nd:∀{b:Addr} {z:HO},H2 b=some z->b≠dx:=λz y=>by rw[y,hd]at z;cases z
 have nb:∀{b:Addr} {z:Obj},s2.heap.get? b=some z->b≠dx:=λz y=>by rw[y,hdn]at z;cases z
 have nn:∀{b:Addr},H2 b=none->b≠e:=λz y=>by rw[y,he]at z;cases z
 refine⟨σ,_,I2.un (H':=upd (upd H2 e (.ext (jB e C (some dx) t))) dx (.xd [(fld,y)])) (t':=tk') ⟨λb ob z n _ _=>k3 b ob (nn n) z,λb ob z n _ _=>⟨ob.slots,k3 b ob (nn n) z⟩,λb ob z n _=>by rw[U (nn n) (nb z)];exact n,λb ob z _=>?_,λb xs z=>?_,λb ob z' z=>?_,λb ps z=>⟨#[],?_⟩⟩ λb z hz=>?_,q2 dx hd hde⟩
 ·by_cases hb:b=e
  ·rw[hb];exact⟨_,e3⟩
  ·exact⟨ob,k3 b ob hb z⟩
 ·rw[U (ne z (by intro z;cases z)) (nd z)];exact z
 ·rw[U (ne z (by intro z;cases z)) (nd z)];exact z
 ·rw[U (ne z (by intro z;cases z)) (nd z),z];simp
 ·by_cases hb:b=dx
  ·rw[hb,ah]at hz
   cases hz
   rw[hb]
   refine⟨_,n3,λf=>?_⟩
   by_cases hf:f=fld
   ·rw[hf,aC rfl]
    simp only[List.lookup,ip]
    exact ry
   ·rw[aB hf]
    have:(f==fld)=false:=uY.mpr hf
    simp only[List.lookup,this]
    trivial
  ·rw[aj hb]at hz
   by_cases Xo:b=e
   ·rw[Xo,ah]at hz
    cases hz
    rw[Xo]
    exact Bm e3
   ·rw[aj Xo]at hz
    refine(I2.bx b z hz).stay (λc v hc y=>k3 c v ?_ y) (λc y=>?_) λc xs y=>?_
    ·rcases hc with rfl | hc
     ·exact Xo
     ·exact ne hc (by intro z;cases z)
    ·rw[U (ne y (by intro z;cases z)) (nd y)];exact y
    ·rw[U (ne y (by intro z;cases z)) (nd y)];exact y
end
def G4(e C:Addr)(dx:Option Addr):Heap->Prop:=λh=>∃vs sl,h.get? e=some ⟨.ref C,dx,.fields vs,sl⟩/\vs[2]?=some .none
section
variable {X:Cx}{pins:List (Addr×Obj)}{σ:St}{H:Hp}{s:Shared}{e C:Addr}{dx:Option Addr}
theorem Inv.left{ch:List Addr}{h':Heap}(I:Inv X pins σ H s)(yT:∀b∈ch,XN X pins H b)(lv:Lv (nh X.stack) ch s.heap h'):Inv X pins σ H { s with heap:=h' }:=by
 refine I.call (H':=H) (g':=s.gens) (t':=s.toks) (d':=s.drawn) (ch:=ch) ⟨λb o z n hb hc=>lv.keep b o hb hc z,λb o z n hb hc=>lv.slot b o hb z,λ_ _ _ n _=>n,λb o z hc=>?_,λ_ _ z=>z,λ_ _ _ z=>z,λb ps z=>⟨#[],by rw[z];simp⟩⟩ (λa u z=>?_) I.bare λb hb=>?_
 ·by_cases hb:b∈nh X.stack
  ·obtain⟨sl,q⟩:=lv.slot b o hb z
   exact⟨_,q⟩
  ·exact⟨o,lv.keep b o hb hc z⟩
 ·refine(I.bx a u z).stay (λb v hb y=>?_) (λ_ q=>q) λ_ _ q=>q
  have hn:¬H b=none:=λy=>by
   rcases hb with rfl | hb
   ·rw[z]at y;cases y
   ·rw[hb]at y;cases y
  exact lv.keep b v (λy=>hn (I.sU b y)) (λy=>hn (yT b y).2.1) y
 ·obtain⟨a,b,c,d,e⟩:=yT b hb
  exact⟨.inr a,c,d,e⟩
theorem Inv.adopt{φ:Heap->Prop}(I:Inv X pins σ H s)(n:XN X pins H e)(hφ:dE X.prog X.w (upd H e (.ext φ)) s.heap e (.ext φ)):Inv X pins σ (upd H e (.ext φ)) s:=by
 obtain⟨n1,n2,n3,n4,n5⟩:=n
 have ne:∀{b:Addr} {u:HO},H b=some u->b≠e:=λz y=>by rw[y,n2]at z;cases z
 have n0:∀{b:Addr} {o:Obj},X.s₀.heap.get? b=some o->b≠e:=λz y=>absurd (bC z) (by rw[y];exact kj.mpr n1)
 refine⟨I.ok,I.os,I.bare,⟨I.base.keep,I.base.slot,λb ob z n hx=>by rw[aj (n0 z)];exact I.base.free b ob z n hx,I.base.there,λb xs z=>?_,λb ob u z=>?_,λb ps z=>?_⟩,I.loc,I.cell,by rw[aj n3.symm];exact I.free,λx c z=>by rw[aj (n4 x c z)];exact I.gx x c z,λp hp=>?_,λb u z=>?_,I.len⟩
 ·have e1:=I.base.tups b xs z
  rw[aj (ne e1)];exact e1
 ·have e1:=I.base.frzs b ob u z
  rw[aj (ne e1)];exact e1
 ·obtain⟨m,e1⟩:=I.base.tbls b ps z
  exact⟨m,by rw[aj (ne e1)];exact e1⟩
 ·obtain⟨p1,p2,p3⟩:=I.pin p hp
  exact⟨p1,by rw[aj (n5 p hp)];exact p2,p3⟩
 ·by_cases hb:b=e
  ·subst hb;rw[ah]at z;cases z;exact hφ
  ·rw[aj hb]at z
   exact(I.bx b u z).stay (λ_ _ _ q=>q) (λc q=>by rw[aj (ne q)];exact q) λc xs q=>by rw[aj (ne q)];exact q
theorem P9{P:Program}{w:World}{H:Hp}{h:Heap}(z:G4 e C dx h):dE P w H h e (.ext (G4 e C dx)):=⟨z,let ⟨_,_,q,_⟩:=z;⟨_,q⟩,λh1 h2 ⟨vs,sl,a,c⟩ b=>⟨vs,sl,b _ a,c⟩⟩
theorem Zw{prog:Program}{w:World}{A:Around}{E:Value->Shared->Prop}{K:Frag}{B:Addr}{Q:Bool->Shared->Prop}(X:K.In s.heap)(q:pH K B=true)(hs:PySem.W.subIn K (.ref C) (.ref B)=some true)(he:G4 e C dx s.heap)(h:Q true s) :
  wpAny (model prog w) A (excMatches (.ref e) (.ref B)) Q E s:=by
 obtain⟨nm,qn,N,bs,bm,sn,sub,ab,col,dd,k0,k1,k2,k3,k5,mN,hC,hN,T⟩:=wA X q
 have hb:(Value.ref B::bm).contains (.type "BaseException")=true:=by rw[Ha,T.hasType (X:="BaseException") (b:=true) (by decide +kernel),Bool.or_true]
 obtain⟨vs,sl,o1,_⟩:=he
 have L:=PySem.W.looks_subIn (M:=model prog w) X hs
 obtain⟨hp,g,d,tk,os⟩:=s
 dsimp only at hC o1 L
 have f:=tc_notTuple
 unfold excMatches
 repeat (first | with_reducible refine ud o1 ?_ | with_reducible refine ud hC ?_ | (with_reducible refine Ax hC ?_;rw[hb]) | with_reducible refine L.at ?_ | wp_step)
 exact h
end
@[reducible] def Cx.tri (X:Cx) (xe:Value->Shared->Prop) (pn:List (Addr×Obj)):Cx:={ X with xe:=xe,pn:=pn }
@[reducible] def Cx.Ni (X:Cx) (e:Addr):Cx:={ X with A:=X.A.mark (some (.ref e)),calm:=false,xe:=λ_ _=>False }
section
variable {X:Cx}{pins Ep:List (Addr×Obj)}{σ:St}{H:Hp}{s:Shared}{e:Addr}{xe:Value->Shared->Prop}
theorem Inv.tri(I:Inv X pins σ H s):Inv (X.tri xe (X.pn++pins)) [] σ H s:=
 ⟨⟨I.ok.mod,I.ok.kind,I.ok.glob,I.ok.blt,I.ok.above,I.ok.inj,I.ok.has,I.ok.X5,I.ok.hd,I.ok.frames,I.ok.ZP,I.ok.exf,I.ok.bs,I.ok.G3,I.ok.Ey,I.ok.JK,I.ok.mr,I.ok.JD⟩,I.os,I.bare,I.base,I.loc,I.cell,I.free,I.gx,λp hp=>I.pin p (by rw[gh]at hp;exact hp),I.bx,I.len⟩
theorem Inv.DW(I:Inv (X.tri xe (X.pn++pins)) Ep σ H s):Inv X pins σ H s:=
 ⟨⟨I.ok.mod,I.ok.kind,I.ok.glob,I.ok.blt,I.ok.above,I.ok.inj,I.ok.has,I.ok.X5,I.ok.hd,I.ok.frames,I.ok.ZP,I.ok.exf,I.ok.bs,I.ok.G3,I.ok.Ey,I.ok.JK,I.ok.mr,I.ok.JD⟩,I.os,I.bare,I.base,I.loc,I.cell,I.free,I.gx,λp hp=>I.pin p (uj _ hp),I.bx,I.len⟩
theorem Inv.Ni(I:Inv X pins σ H s):Inv (X.Ni e) pins σ H s:=
 ⟨⟨I.ok.mod,I.ok.kind,I.ok.glob,I.ok.blt,I.ok.above,I.ok.inj,I.ok.has,I.ok.X5,λz=>Bool.noConfusion z,I.ok.frames,I.ok.ZP,I.ok.exf,I.ok.bs,I.ok.G3,I.ok.Ey,I.ok.JK,I.ok.mr,I.ok.JD⟩,I.os,I.bare,I.base,I.loc,I.cell,I.free,I.gx,I.pin,I.bx,I.len⟩
theorem Inv.Km(ok:X.Ok)(I:Inv (X.Ni e) pins σ H s):Inv X pins σ H s:=⟨ok,I.os,I.bare,I.base,I.loc,I.cell,I.free,I.gx,I.pin,I.bx,I.len⟩
end
def Ends.unb(D:Ends)(i:Nat):Ends:={ nx:=λσ H=>D.nx (σ.set i none) H,rt:=D.rt,bk:=λσ H=>D.bk (σ.set i none) H,ct:=λσ H=>D.ct (σ.set i none) H }
def aBX(K:Frag)(i:Nat)(B:Addr)(tb:(St->XK)->TS)(ts:TS):TS:=λD σ H=>∃EH:St->XK,tb EH D σ H/\∀σ' C dx H',EH σ' (.ref C) dx H'->PySem.W.subIn K (.ref C) (.ref B)=some true/\∀e,H' e=none->ts (D.unb i) (σ'.set i (some (.ref e))) (upd H' e (.ext (G4 e C dx)))
section
variable {X:Cx}{B:Addr}{x n:Str}{np Jw pos:Pos}{body suite:List Stmt}{b₀:Stmt}{tb:(St->XK)->TS}{ts:TS}{i:Nat}
theorem Vp{M:Model}{A:Around}{E:Value->Shared->Prop}{s:Shared}{N:Addr->Prop}{e C:Addr}{dx:Option Addr}{fs:List Addr}{Q:Unit->Shared->Prop}(hfs:∀b∈fs,∀o vs,s.heap.get? b=some o->o.data≠.fields vs)(x:G5 N s.heap e C dx)
  (h:∀h' ch,(∀b∈ch,N b)->G5 N h' e C dx->Lv fs ch s.heap h'->Q () { s with heap:=h' }):wpAny M A (setFlight (.ref e) none) Q E s:=by
 obtain⟨ne,vs,sl,he,c2,tb⟩:=x
 rcases tb with h1 | ⟨T,oT,ts,nT,Vc,h1,hT,dT,h3⟩
 ·unfold setFlight
  refine ay (ib he rfl h1 ?_)
  rw[aB (by decide)]
  exact aJ (h s.heap [] (λb hb=>absurd hb (by simp)) ⟨ne,vs,sl,he,c2,.inl h1⟩ ⟨λb o _ _ z=>z,λb o _ z=>⟨o.slots,z⟩⟩)
 ·have z3:=(za.mp h3).1
  refine Yp he rfl h1 hT dT z3 ?_
  have ot:∀b o,b≠T->s.heap.get? b=some o->(s.heap.update T (Obj.mapFields (·.setIfInBounds 3 Value.none))).get? b=some o:=λb o hb z=>(mP _ _ hb.symm).trans z
  have t4:=mO (Obj.mapFields (·.setIfInBounds 3 Value.none)) hT (wu (uW dT _))
  refine h _ [T] (λb hb=>by rw[df.mp hb];exact nT) ⟨ne,vs,sl,ot _ _ Vc.symm he,c2,.inr ⟨T,_,_,nT,Vc,h1,t4,uW dT _,by simp[z3]⟩⟩ ⟨λb o _ hb z=>ot b o (λy=>hb (by rw[y];simp)) z,λb o hb z=>⟨o.slots,ot b o (λy=>?_) z⟩⟩
  subst y
  rw[hT]at z
  cases z
  exact hfs b hb oT ts hT dT
end
def UJ(H:Hp)(dx:Option Addr):Prop:=∀d,dx=some d->∃fs,H d=some (.xd fs)
section
variable {X:Cx}{pins:List (Addr×Obj)}{σ:St}{H:Hp}{s:Shared}{e C:Addr}{dx:Option Addr}
def Rq(K:Frag):List V->Hp->VK->Prop:=λvs H Q=>∃e T,vs=[.ref e,.ty T]/\∃C dx,H e=some (.ext (G4 e C dx))/\UJ H dx/\XC K C/\∃b,PySem.W.kitOne K (.ref C) (.type T)=some b/\Q (.bl b) H
def Rr(K:Frag):List V->Hp->VK->Prop:=λvs H Q=>∃e D,vs=[.ref e,.ref D]/\∃C dx,H e=some (.ext (G4 e C dx))/\UJ H dx/\XC K C/\∃b,PySem.W.kitOne K (.ref C) (.ref D)=some b/\Q (.bl b) H
def Rt(K:Frag):List V->Hp->VK->Prop:=λvs H Q=>∃e p,vs=[.ref e,.ref p]/\∃Ds:List Addr,H p=some (.tup (Ds.map V.ref))/\∃C dx,H e=some (.ext (G4 e C dx))/\UJ H dx/\XC K C/\∃b,PySem.W.kitAny K (.ref C) (Ds.map Value.ref)=some b/\Q (.bl b) H
def Yu(K:Frag)(ta:TE)(f:Str):TE:=λσ H Q=>ta σ H λx H1=>∃e,x=.ref e/\∃C dx,H1 e=some (.ext (G4 e C (some dx)))/\XC K C/\PySem.W.findIn K (.ref C) f=some none/\∃fs,H1 dx=some (.xd fs)/\∃v,fs.lookup f=some v/\Q v H1
end
section
variable {X:Cx}{N:List Str}{sc:Scope}
theorem hcT{xe:Value->Shared->Prop}{pn:List (Addr×Obj)}(h:HC X N sc):HC (X.tri xe pn) N sc:=⟨h.n,h.s⟩
theorem hfT{xe:Value->Shared->Prop}{pn:List (Addr×Obj)}(h:∀x,X.fn x=true):∀x,(X.tri xe pn).fn x=true:=h
theorem hfS{e:Addr}(h:∀x,X.fn x=true):∀x,(X.Ni e).fn x=true:=h
theorem hcS{e:Addr}(h:HC X N sc):HC (X.Ni e) N sc:=⟨h.n,h.s⟩
variable {k:Nat}{fI C B:Addr}{fd:FuncData}{ps:List Str}{sp:Sp}{EH:St->XK}{x n fld:Str}{np dj apos Jw pos pos':Pos}{a b o value:Expr}{t:TA}{te ta tv:TE}{body suite:List Stmt}{b₀:Stmt}{tb:(St->XK)->TS}{ts:TS}
theorem Hu(c:XC X.K C)(hi:PySem.W.findIn X.K (.ref C) "__init__" = some (some (.ref fI)))(hf:PySem.W.typeIn X.K (.ref fI)=some (.type "function"))(hk:PySem.W.keepIn X.K (.ref C)=true)
  (F:cq X.prog X.w X.K X.mg X.base eV k fI fd ps (BJ C fld)) (hb:Binds X.K fd ps []) (hr:cv (k+1) X.A) (hg:Gl X x) (hm:X.mg x=some (.ref C)) (hc:X.A.handled=none) (L:iR X EH) (ha:ZE X a te)
  (lA:(x==("__debug__" : Str))=false:=by decide) (he:starEach [a] X.env=(false,eval a X.env)::starEach [] X.env:=by rfl) (iF:(backTo dj (starEach [] X.env)).any (·.1)=false:=by rfl) :
  ZS X (.Raise (some (.Call (.Name x np) [a] [] dj)) none pos) (vP C fld te EH):=⟨Nz c hi hf hk F hb hr hg hm hc L ha.to lA he iF⟩
theorem P8{pl:Sem Bool}(hr:PySem.W.readsIn X.K B (.type "type")=true)(hf:PySem.W.findCls X.K (.ref B) (.type "type") "__init__" = some (.val (.builtin "ValueError.__init__")))
  (hs:PySem.W.specialIn X.K (.ref B) "__getattribute__" = some (some (.builtin "type.__getattribute__"))) (hg:Gl X x) (hm:X.mg x=some (.ref B)) (ha:ZA X [a,b] t)
  (lA:(x==("__debug__" : Str))=false:=by decide) (Dw:starEach [a,b] X.env=(false,eval a X.env)::starEach [b] X.env:=by rfl) (iF:(backTo dj (starEach [b] X.env)).any (·.1)=false:=by rfl)
  (ht:eval (.Call (.Attribute (.Name x np) "__init__" apos) [a,b] [] dj) X.env=(do
   let ov <-eval (.Name x np) X.env
   standAt apos.atName
   let (f,first) <-holding [ov] (getMethod ov "__init__" pl)
   callWith dj f first (backTo dj (starEach [a,b] X.env)) (backToKw dj (keywordEach [] X.env))):=by rfl) :
  ZE X (.Call (.Attribute (.Name x np) "__init__" apos) [a,b] [] dj) (Ks X.K t):=⟨Wy (pl:=pl) hr hf hs hg hm ha.to lA Dw iF ht⟩
theorem P4(ha:ZE X o ta)(hv:ZE X value tv)(hs:swapsWith value (some (.Attribute o fld pos')) pos.line X.env=pure false):ZS X (.Assign [.Attribute o fld pos'] value pos) (Kz X.K ta tv fld):=⟨Wj ha.to hv.to hs⟩
end
section
variable {X:Cx}
def YB(neg:Bool):R2:=λx y H Q=>∃p q,x=.ref p/\y=.ref q/\∃xs ys:List Str,H p=some (.tup (List.map V.str xs))/\H q=some (.tup (List.map V.str ys))/\Q (.bl (if neg then !decide (xs=ys) else decide (xs=ys))) H
end
structure iA(k:Nat)(A:Around):Prop where
 dp:A.depth+3*k+5<recursionLimit
 un:A.units+16*k+200<cLine
theorem cv.Ni{j k:Nat}{A:Around}{v:Option Value}(r:cv k A)(h:j<=k):iA j (A.mark v):=⟨by have:=r.dp;show A.depth+3*j+5<_;lia,by have:=r.un;show A.units+16*j+200<_;lia⟩
theorem iA.mono{j k:Nat}{A:Around}(r:iA k A)(h:j<=k:=by omega):iA j A:=⟨by have:=r.dp;lia,by have:=r.un;lia⟩
theorem iA.deeper{k:Nat}{A:Around}(r:iA (k+1) A)(env:Env):iA k (A.deeper env):=
 ⟨by have:=r.dp;show A.depth+1+3*k+5<_;lia,by have:=r.un;show A.units+3+16*k+200<_;lia⟩
end L2
end
section
end
section
end
section
namespace L2
open PySem PySem.Spec PyProof.Rows
open PySem.W (Frag Looks)
def hdL(A:Around):List Addr:=match A.handled with | some (.ref e)=>[e] | _=>[]
theorem nI{prog:Program}{w:World}{A:Around}(I ax:Addr)(vp:ax≠I)(ni:A.handled≠some (.ref I))(items:Array Value) :
  Walks prog w A I ([I,ax]++hdL A) [I] items.size (λi v=>items[i]?=some v) (λi h=>h.IsListIter I ax i/\h.IsList ax items/\iS A h) where
 sub:=λb hb=>by simp at hb;simp[hb]
 frame:=λ_ _ _ st hk=>⟨st.1.at λo e=>hk I (by simp) o e,st.2.1.at λo e=>hk ax (by simp) o e,st.2.2.keep λe he o z=>hk e (by unfold hdL;rw[he];simp) o z⟩
 item:=λi s Q E hi st hQ=>by
  refine wpAny_pyNext_list_item st.1 st.2.1 (x:=items[i]) (by simp[hi]) λh' aBd hs'=>?_
  exact hQ _ h' s.toks (by simp[hi]) ⟨aBd,st.2.1.extBut hs'.extBut vp,st.2.2.keep λe he o z=>hs'.extBut e o (λy=>ni (by rw[he,y])) z⟩ λb o hb e=>hs'.extBut b o (λh=>hb (by simp[h])) e
 done:=λs Q E st hQ=>zM st.2.2 ni st.1 st.2.1 (by simp) λh' he'=>hQ h' s.toks λb o hb e=>he' b o (λh=>hb (by simp[h])) e
 self:=λ_ _ _ _ st hQ=>wpAny_pyIter_listiter st.1 hQ
section
variable {X:Cx}
theorem O6(hc:X.calm=true):fX X (.builtin "all") KS:=by
 intro pins s σ H vs us Q I rv h
 obtain⟨a,rfl,bs,hq,q⟩:=h
 obtain⟨u,rfl,ru⟩:=vals1 rv
 cases ru
 obtain⟨its,r,pl,hz⟩:=I.list (bw hq)
 have hl:=r.length
 rw[aQ]at hl
 have lt:a<s.heap.objs.size:=let ⟨_,e,_⟩:=pl.isList;bC e
 have hn:iS X.A.in1 s.heap:=(I.ok.hd hc).now I
 refine call_all_walkS (wd pl.isList ⟨s.heap.objs.size,_,_,_,its.toArray.size,_,_,λi=>bs.getD i true,rfl,(nI (A:=X.A.in1) _ a (bI lt) (hn.old (bB _)) its.toArray).toS,⟨⟨_,cH _ rfl,rfl,rfl⟩,(pl.isList).push _,hn.keep λe _ o z=>bR _ z⟩,?_,λs' mv=>?_⟩)
 ·intro i v s1 Q1 E1 hv U8
  have:v=.bool (bs.getD i true):=Ut r i v (by simpa using hv)
  subst this
  exact aJ U8
 ·rw[cO,<-hl,all_range]
  have k:∀b o,s.heap.get? b=some o->s'.heap.get? b=some o:=λb o e=>mv.heap b o (λz=>absurd (bC e) (by rw[df.mp z];exact iJ _)) (bR _ e)
  have I1:Inv X pins σ H { s with heap:=s'.heap,toks:=s.toks }:=I.un (Un.kept k) (I.bx.kept k)
  exact⟨.bl (bs.all id),H,I1.same rfl mv.gens mv.os,rfl,q⟩
end
def Zq(A:Around)(outer:List Env)(s:Shared)(H:Hp):Prop:=A.handled=none\/∃e o vs,A.handled=some (.ref e)/\s.heap.get? e=some o/\H e=none/\e∉nh outer/\o.data=.fields vs/\vs[2]?=some .none
structure Vj(P:Program)(w:World)(K:Frag)(mg:Str->Option Value)(base:Heap)(k:Nat)(f:Addr)(fd:FuncData)(ps:List Str)(sp:Sp):Prop where
 len:∀vs H Q E,sp vs H Q E->vs.length=ps.length
 run:∀(A:Around) (outer:List Env) (s:Shared) (H:Hp) (args:Args) (us:List Value) (vs:List V) (Q:VK) (E:XK),iA k A->Zq A outer s H->oV P w K mg base A outer s H->BindsTo s fd args (ps.zip us)->Vals vs us->sp vs H Q E->
  codeAny (model P w) A (.call (.ref f) args) (CR eV outer P w H s Q E) s
section
variable {P:Program}{w:World}{K:Frag}{mg:Str->Option Value}{base:Heap}
theorem Zq.body{N:List Str}{qual:Str}{scope:Scope}{f:Addr}{cd:Value}{A:Around}{outer:List Env}{s:Shared}{H:Hp}{E:XK}(x:Zq A outer s H):G6 (dF eV P w K mg base N qual scope f cd A outer s H E):=by
 rcases x with x | ⟨e,o,vs,a,b,c,d,q⟩
 ·exact .inl x
 ·exact .inr ⟨e,o,vs,a,b,c,d,λz=>(nu z).elim,q⟩
theorem aBB{k:Nat}{f:Addr}{name qual:Str}{params:Arguments}{body:List Stmt}{scope:Scope}{dV kV doc pm cD ct oc:Value}{an od:Option Addr}
  {Dv:Array (Option Value)} {N ps:List Str} {sp:Sp} (lk:K.lookup f=some ⟨oc,od,.func (PySem.W.fnOf name qual params body scope dV kV doc pm an cD ct),Dv⟩) (vq:PySem.W.codeIn K cD qual=true) (S:aU N ps scope)
  (len:∀vs H Q E,sp vs H Q E->vs.length=ps.length)
  (eI:∀(A:Around) (outer:List Env) (s:Shared) (H:Hp) (vs:List V) (Q:VK) (E:XK),iA k (A.deeper (envOfC qual scope s.heap.objs.size f cD))->G6 (dF eV P w K mg base N qual scope f cD A outer s H E)->sp vs H Q E->
   ∃t,yC (dF eV P w K mg base N qual scope f cD A outer s H E) body t/\t { nx:=λ_ H'=>Q .non H',rt:=Q } (start N vs) H) :
  Vj P w K mg base (k+1) f (PySem.W.fnOf name qual params body scope dV kV doc pm an cD ct) ps sp:=by
 refine⟨len,λA outer s H args us vs Q E hr hd e0 hb r yR=>?_⟩
 have hl:=len _ _ _ _ yR
 have KX:K.In s.heap:=e0.mod.Sz.keeps λb o e=>(e0.bs b o e).1
 have lim:s.heap.NoLimit:=e0.mod.nolimit.keeps λb o e=>(e0.bs b o e).1
 have Ti:∀y∈ps.zip us,scope.names.lookup y.1=some .local\/(scope.names.lookup y.1=some .cell/\((cellsFrom (s.heap.objs.size+1) scope.names []).lookup y.1).isSome=true):=λ⟨n,v⟩ hy=>by
  rcases S.par n (uc hy).1 with q | q
  ·exact .inl q
  ·exact .inr ⟨q,Hn _ _ _ (.inl q)⟩
 refine codeAny_call_function (by have:=hr.dp;lia) (KX _ _ lk) rfl S.co S.gen rfl (PySem.W.codeRec_of KX vq) (hb _ _ _ _ ?_)
 refine wpAny_newFunctionEnv_cells S.kind Ti λenv he s1 x=>?_
 subst he
 refine⟨lim.keeps x.toInCall.keep,codeAny_func ?_⟩
 obtain⟨t,ht,hq⟩:=eI A outer s H vs Q E (hr.deeper _) hd.body yR
 have I:Inv (dF eV P w K mg base N qual scope f cD A outer s H E) [] (start N vs) H s1:=zT S hd.body e0 hl r x
 refine dk (ht [] s1 (start N vs) H _ I hq) (λfl s' hs=>?_) λe s' hs=>hs
 have fin:∀{σ':St} {H':Hp} {v:V} {u:Value},Inv (dF eV P w K mg base N qual scope f cD A outer s H E) [] σ' H' s'->RelV v u->Q v H'->CE outer P w H s Q u s':=
  λ{σ' H' v u} J rv q=>⟨v,H',J.os,J.bare,J.base,J.bx,rv,q⟩
 cases fl with
 | ret u=>
  obtain⟨v,σ',H',J,rv,q⟩:=hs
  exact fin J rv q
 | next=>
  obtain⟨σ',H',J,q⟩:=hs
  exact fin (v:=V.non) (u:=Value.none) J rfl q
 | brk=>
  obtain⟨_,_,_,q⟩:=hs
  exact False.elim q
 | cont=>
  obtain⟨_,_,_,q⟩:=hs
  exact False.elim q
theorem jE.okH{x qual:Str}{st:Stmt}{f:Addr}{fd:FuncData}{N ps:List Str}{k:Nat}{sp:Sp}(F:jE K x qual st f fd)(S:aU N ps (ag st))(len:∀vs H Q E,sp vs H Q E->vs.length=ps.length)
  (eI:∀(cD:Value) (A:Around) (outer:List Env) (s:Shared) (H:Hp) (vs:List V) (Q:VK) (E:XK),iA k (A.deeper (envOfC qual (ag st) s.heap.objs.size f cD))->G6 (dF eV P w K mg base N qual (ag st) f cD A outer s H E).uw->sp vs H Q E->
   HC (dF eV P w K mg base N qual (ag st) f cD A outer s H E).uw N (ag st)->(∀x,(dF eV P w K mg base N qual (ag st) f cD A outer s H E).uw.fn x=true)->
   ∃t,GJ (dF eV P w K mg base N qual (ag st) f cD A outer s H E).uw (aK st) t/\t { nx:=λ_ H'=>Q .non H',rt:=Q } (start N vs) H):Vj P w K mg base (k+1) f fd ps sp:=by
 obtain⟨oc,od,kV,doc,pm,an,cD,ct,Dv,rfl,lk,vq⟩:=F.ex
 refine aBB lk vq S len λA outer s H vs Q E hr hd yR=>?_
 obtain⟨t,h,q⟩:=eI cD A outer s H vs Q E hr hd yR ⟨rfl,rfl⟩ (λ_=>rfl)
 exact⟨t,h.to.uw,q⟩
end
section
variable {X:Cx}{k:Nat}{f:Addr}{fd:FuncData}{ps:List Str}{sp:Sp}{x:Str}{p pos:Pos}{e:Expr}{es:List Expr}{t:TA}{pins:List (Addr×Obj)}{σ:St}{H:Hp}{s:Shared}
theorem G6.call(x:G6 X)(I:Inv X pins σ H s):Zq X.A X.stack s H:=by
 rcases id x with x' | ⟨e,o,vs,x',y,n,f,g,d⟩
 ·exact .inl x'
 ·refine .inr ⟨e,o,vs,x',I.base.keep e o y n f g,I.base.free e o y n g,λz=>?_,d⟩
  rcases bT.mp (I.nM e z) with q | q
  ·exact absurd (bC y) (kj.mpr (by rw[q];exact I.ok.above))
  ·exact f q
theorem kL(F:Vj X.prog X.w X.K X.mg X.base k f fd ps sp)(hc:X.calm=true)(hr:iA k X.A)(hg:Gl X x)(hm:X.mg x=some (.ref f))(hk:PySem.W.keepIn X.K (.ref f)=true)(hb:Binds X.K fd ps [])(hx:Passes eV X E0)
  (ha:ZA X (e::es) t) (lA:(x==("__debug__" : Str))=false:=by decide) (he:starEach (e::es) X.env=(false,eval e X.env)::starEach es X.env:=by rfl) (iF:(backTo pos (starEach es X.env)).any (·.1)=false:=by rfl) :
  ZE X (.Call (.Name x p) (e::es) [] pos) (zq sp [] E0 t):=by
 refine⟨?_⟩
 intro pins s σ H Q I h
 refine mM (hX I hg hm ?_ lA)
 refine uX (h₀:=X.base) I.ok.mod.Sz hk (cM (ha.to pos pins s σ H _ I h) λus s1 ⟨vs,H1,I1,r,q⟩=>⟨I1.qc,?_⟩) he iF
 have r2:Vals (vs++[]) (us++[]):=r.append .nil
 have hl:(us++[]).length=ps.length:=by rw[<-r2.length];exact F.len _ _ _ _ q
 refine jJ (ic (F.run X.A X.stack s1 H1 ⟨us,[]⟩ (us++[]) (vs++[]) Q E0 hr ((I1.ok.hd hc).call I1) I1.yW (hb s1 us I1.qc hl) r2 q) λr s' hq=>?_)
 cases r with
 | error e=>exact hx pins σ H1 s1 e s' I1 hq
 | ok fl=>
  cases fl with
  | ret u=>exact I1.after hq
  | next=>exact False.elim hq
  | brk=>exact False.elim hq
  | cont=>exact False.elim hq
theorem Inv.VP{σ':St}{H':Hp}{s':Shared}{a:Addr}{φ:Heap->Prop}(I1:Inv X pins σ H s)(h1:H a=some (.ext φ))(I:Inv X pins σ' H' s')(n2:H' a=none)(hφ:dE X.prog X.w (upd H' a (.ext φ)) s'.heap a (.ext φ)):Inv X pins σ' (upd H' a (.ext φ)) s':=by
 have n3:a≠X.env.locals:=λz=>by have:=I1.free;rw[<-z,h1]at this;cases this
 have n4:∀x c,X.env.cells.lookup x=some c->c≠a:=λx c q z=>by have:=I1.gx x c q;rw[z,h1]at this;cases this
 have n5:∀p∈X.pn++pins,p.1≠a:=λp hp z=>by have:=(I1.pin p hp).2.1;rw[z,h1]at this;cases this
 have ne:∀{b:Addr} {u:HO},H' b=some u->b≠a:=λz y=>by rw[y,n2]at z;cases z
 refine⟨I.ok,I.os,I.bare,⟨I.base.keep,I.base.slot,λb ob z n hx=>?_,I.base.there,λb xs z=>?_,λb ob u z=>?_,λb ps z=>?_⟩,I.loc,I.cell,by rw[aj n3.symm];exact I.free,λx c z=>by rw[aj (n4 x c z)];exact I.gx x c z,λp hp=>?_,λb u z=>?_,I.len⟩
 ·have nb:b≠a:=λy=>by have:=I1.base.free b ob z n hx;rw[y,h1]at this;cases this
  rw[aj nb];exact I.base.free b ob z n hx
 ·have e1:=I.base.tups b xs z
  rw[aj (ne e1)];exact e1
 ·have e1:=I.base.frzs b ob u z
  rw[aj (ne e1)];exact e1
 ·obtain⟨m,e1⟩:=I.base.tbls b ps z
  exact⟨m,by rw[aj (ne e1)];exact e1⟩
 ·obtain⟨p1,p2,p3⟩:=I.pin p hp
  exact⟨p1,by rw[aj (n5 p hp)];exact p2,p3⟩
 ·by_cases hb:b=a
  ·subst hb;rw[ah]at z;cases z;exact hφ
  ·rw[aj hb]at z
   exact(I.bx b u z).stay (λ_ _ _ q=>q) (λc q=>by rw[aj (ne q)];exact q) λc xs q=>by rw[aj (ne q)];exact q
def HN(a:Addr)(sp:Sp)(t:TA):TE:=λσ H Q=>t σ H λvs H1=>∃C dx,H1 a=some (.ext (G4 a C dx))/\sp vs (x8 H1 a) (λv H2=>H2 a=none->Q v (upd H2 a (.ext (G4 a C dx)))) E0
theorem MN{a:Addr}(F:Vj X.prog X.w X.K X.mg X.base k f fd ps sp)(hh:X.A.handled=some (.ref a))(hr:iA k X.A)(hg:Gl X x)(hm:X.mg x=some (.ref f))(hk:PySem.W.keepIn X.K (.ref f)=true)(hb:Binds X.K fd ps [])(hx:Passes eV X E0)
  (ha:ZA X (e::es) t) (lA:(x==("__debug__" : Str))=false:=by decide) (he:starEach (e::es) X.env=(false,eval e X.env)::starEach es X.env:=by rfl) (iF:(backTo pos (starEach es X.env)).any (·.1)=false:=by rfl) :
  ZE X (.Call (.Name x p) (e::es) [] pos) (HN a sp t):=by
 refine⟨?_⟩
 intro pins s σ H Q I h
 refine mM (hX I hg hm ?_ lA)
 refine uX (h₀:=X.base) I.ok.mod.Sz hk (cM (ha.to pos pins s σ H _ I h) λus s1 ⟨vs,H1,I1,r,C,dx,ea,q⟩=>⟨I1.qc,?_⟩) he iF
 have r2:Vals vs (us++[]):=by rw[gh];exact r
 have hl:(us++[]).length=ps.length:=by rw[<-r2.length];exact F.len _ _ _ _ q
 obtain⟨ws,sl,oa,cx⟩:G4 a C dx s1.heap:=(I1.bx a _ ea).1
 have nf:a∉nh X.stack:=λz=>by have:=I1.sU a z;rw[ea]at this;cases this
 have J:=I1.forget ea
 have hd:Zq X.A X.stack s1 (x8 H1 a):=.inr ⟨a,_,ws,hh,oa,gR,nf,rfl,cx⟩
 refine jJ (ic (F.run X.A X.stack s1 (x8 H1 a) ⟨us,[]⟩ (us++[]) vs _ E0 hr hd J.yW (hb s1 us I1.qc hl) r2 q) λr s' hq=>?_)
 cases r with
 | error e=>exact hx pins σ (x8 H1 a) s1 e s' J hq
 | ok fl=>
  cases fl with
  | ret u=>
   have Jv:=hq
   obtain⟨v,H2,os,bare,un,bx,rv,q2⟩:=Jv
   have o2:=un.keep a _ oa gR nf (λz=>(nu z).elim)
   have f2:=un.free a _ oa gR (λz=>(nu z).elim)
   obtain⟨v',H2',I2,rv',e2⟩:=J.after (Q:=λv' H'=>v'=v/\H'=H2) ⟨v,H2,os,bare,un,bx,rv,rfl,rfl⟩
   obtain⟨rfl,rfl⟩:=e2
   exact⟨v',_,I1.VP ea I2 f2 (P9 ⟨ws,sl,o2,cx⟩),rv',q2 f2⟩
  | next=>exact False.elim hq
  | brk=>exact False.elim hq
  | cont=>exact False.elim hq
end
def Qn(K:Frag)(B:Addr)(tb:(St->XK)->TS)(ts:Addr->TS):TS:=λD σ H=>∃EH:St->XK,tb EH D σ H/\∀σ' C dx H',EH σ' (.ref C) dx H'->PySem.W.subIn K (.ref C) (.ref B)=some true/\∀e,H' e=none->ts e D σ' (upd H' e (.ext (G4 e C dx)))
section
variable {X:Cx}{B:Addr}{x n:Str}{np Jw pos:Pos}{body suite:List Stmt}{b₀:Stmt}{tb:(St->XK)->TS}{ts:Addr->TS}{i:Nat}
theorem comes{nm:Option Str}{pins:List (Addr×Obj)}{σ:St}{H:Hp}{s:Shared}{e C:Addr}{dx:Option Addr}{D:Ends}(I:Inv X pins σ H s)(Dw:X.stack=X.env::X.outer)(vH:X.env.frame=some X.env.locals)(q:pH X.K B=true)(hg:Gl X x)(hm:X.mg x=some (.ref B))
  (xa:G5 (XN X pins H) s.heap e C dx) (sb:PySem.W.subIn X.K (.ref C) (.ref B)=some true) (lA:(x==("__debug__" : Str))=false)
  (h:∀s1,Inv X pins σ H s1->G5 (XN X pins H) s1.heap e C dx->
   codeAny (model X.prog X.w) (X.A.mark (some (.ref e))) (.handlers (.ref e) [.ExceptHandler none nm (b₀::suite) Jw] X.env) (λr s₂=>match r with
     | .ok f=>(match nm with
      | none=>SP X pins D f s₂
      | some n=>wpAny (model X.prog X.w) X.A (do bindName X.env n .none;unbindBehindTheSuite X.env n Jw) (λ_ s₃=>SP X pins D f s₃) X.xe s₂)
     | .error y=>cameBackBy (model X.prog X.w) X.A X.env X.xe y s₂) s1) :
  wpAny (model X.prog X.w) X.A (noteFrame (.ref e) X.env) (λ_ s₂=>wpAny (model X.prog X.w) X.A (setFlight (.ref e) none) (λ_ s₃=>wpAny (model X.prog X.w) X.A (handleBy (.ref e) X.env [.ExceptHandler (some (.Name x np)) nm (b₀::suite) Jw]) (SP X pins D) X.xe s₃) X.xe s₂) X.xe s:=by
 have hf0:=I.ok.frames
 have st0:=I.stack
 rw[Dw]at hf0 st0
 refine Qb (L:=X.env.locals) (base:=X.base) hf0 st0 vH (λb hb=>.new I hb (I.bx.fresh hb)) xa λh' ch yT xa' lv=>?_
 rw[<-Dw]at lv
 have I1:=I.left (λb hb=>(yT b hb).1) lv
 obtain⟨ne,vs,sl,o1,c1,ZF⟩:=xa'
 refine wpAny_handleBy_cons (codeAny_handlers_test (hX (X:=X.Ni e) I1.Ni hg hm (Zw I1.qc q sb ⟨vs,sl,o1,c1⟩ ?_) lA)) (by intro z;cases z)
 exact h _ I1 ⟨ne,vs,sl,o1,c1,ZF⟩
theorem taken{pins:List (Addr×Obj)}{σ:St}{H:Hp}{s:Shared}{e C:Addr}{dx:Option Addr}{M:Model}{A:Around}{E:Value->Shared->Prop}{Q:Unit->Shared->Prop}(I:Inv X pins σ H s)(xa:G5 (XN X pins H) s.heap e C dx)
  (h:∀s',Inv (X.Ni e) pins σ (upd H e (.ext (G4 e C dx))) s'->Q () s'):wpAny M A (setFlight (.ref e) none) Q E s:=by
 refine Vp (fs:=nh X.stack) (N:=XN X pins H) (λb hb o ws z=>?_) xa λh2 ch2 aF8 xa2 lv2=>?_
 ·obtain⟨_,o',z',nd⟩:=I.stack.mem hb
  rw[z]at z';cases z'
  exact nd ws
 have I2:=I.left aF8 lv2
 obtain⟨ne2,vs2,GR,o2,c2,_⟩:=xa2
 exact h _ ((I2.adopt (φ:=G4 e C dx) ne2 (P9 ⟨vs2,GR,o2,c2⟩)).Ni (e:=e))
theorem X3{pins:List (Addr×Obj)}{σ:St}{H:Hp}{s:Shared}{e C:Addr}{dx:Option Addr}{D:Ends}{t:TS}(I:Inv X pins σ H s)(Dw:X.stack=X.env::X.outer)(vH:X.env.frame=some X.env.locals)(q:pH X.K B=true)(hg:Gl X x)(hm:X.mg x=some (.ref B))
  (hs:yC (X.Ni e) (b₀::suite) t) (xa:G5 (XN X pins H) s.heap e C dx) (sb:PySem.W.subIn X.K (.ref C) (.ref B)=some true) (h:t D σ (upd H e (.ext (G4 e C dx)))) (lA:(x==("__debug__" : Str))=false) :
  wpAny (model X.prog X.w) X.A (noteFrame (.ref e) X.env) (λ_ s₂=>wpAny (model X.prog X.w) X.A (setFlight (.ref e) none) (λ_ s₃=>wpAny (model X.prog X.w) X.A (handleBy (.ref e) X.env [.ExceptHandler (some (.Name x np)) none (b₀::suite) Jw]) (SP X pins D) X.xe s₃) X.xe s₂) X.xe s:=by
 refine comes I Dw vH q hg hm xa sb lA λs1 I1 xa1=>codeAny_handlers_suite (taken I1 xa1 λs3 I3=>?_)
 refine dk (hs pins s3 _ _ D I3 h) (λf s5 q5=>?_) λ_ _ z=>False.elim z
 cases f with
 | next=>
  obtain⟨σ5,H5,I5,q5⟩:=q5
  exact⟨_,H5,I5.Km I.ok,q5⟩
 | brk=>
  obtain⟨σ5,H5,I5,q5⟩:=q5
  exact⟨_,H5,I5.Km I.ok,q5⟩
 | cont=>
  obtain⟨σ5,H5,I5,q5⟩:=q5
  exact⟨_,H5,I5.Km I.ok,q5⟩
 | ret u=>
  obtain⟨v,σ5,H5,I5,ru,q5⟩:=q5
  exact⟨v,_,H5,I5.Km I.ok,ru,q5⟩
theorem tried{hd:ExceptHandler}{pins:List (Addr×Obj)}{σ:St}{H:Hp}{s:Shared}{D:Ends}{EH:St->XK}(I:Inv X pins σ H s)
  (hb:∀(EH:St->XK) (xe:Value->Shared->Prop) (pn:List (Addr×Obj)),iR (X.tri xe pn) EH->PassesOwn (model X.prog X.w) X.A X.env xe->yC (X.tri xe pn) body (tb EH)) (h1:tb EH D σ H)
  (h2:∀σ' H' s' e C dx,Inv X pins σ' H' s'->G5 (XN X pins H') s'.heap e C dx->EH σ' (.ref C) dx H'->
   wpAny (model X.prog X.w) X.A (noteFrame (.ref e) X.env) (λ_ s₂=>wpAny (model X.prog X.w) X.A (setFlight (.ref e) none) (λ_ s₃=>wpAny (model X.prog X.w) X.A (handleBy (.ref e) X.env [hd]) (SP X pins D) X.xe s₃) X.xe s₂) X.xe s') :
  wpAny (model X.prog X.w) X.A (exec (.Try body [hd] [] [] pos) X.env) (SP X pins D) X.xe s:=by
 refine wpAny_Try_except ?_
 have L:iR (X.tri (λv s₁=>wpAny (model X.prog X.w) X.A (noteFrame v X.env) (λ_ s₂=>wpAny (model X.prog X.w) X.A (setFlight v none) (λ_ s₃=>wpAny (model X.prog X.w) X.A (handleBy v X.env [hd]) (SP X pins D) X.xe s₃) X.xe s₂) X.xe s₁) (X.pn++pins)) EH:=by
  intro Ep σ' H' s' e C dx I' xa' q'
  exact h2 σ' H' s' e C dx I'.DW (xa'.mono λb hb=>⟨hb.1,hb.2.1,hb.2.2.1,hb.2.2.2.1,λp hp=>hb.2.2.2.2 p (uj _ hp)⟩) q'
 refine dk (hb EH _ _ L PassesOwn.looking [] s σ H D I.tri h1) (λf s1 q1=>?_) λ_ _ z=>z
 cases f with
 | next=>
  obtain⟨σ1,H1,I1,q1⟩:=q1
  exact aJ ⟨σ1,H1,I1.DW,q1⟩
 | brk=>
  obtain⟨σ1,H1,I1,q1⟩:=q1
  exact⟨σ1,H1,I1.DW,q1⟩
 | cont=>
  obtain⟨σ1,H1,I1,q1⟩:=q1
  exact⟨σ1,H1,I1.DW,q1⟩
 | ret u=>
  obtain⟨v,σ1,H1,I1,ru,q1⟩:=q1
  exact⟨v,σ1,H1,I1.DW,ru,q1⟩
variable {N:List Str}{sc:Scope}
theorem P5(Dw:X.stack=X.env::X.outer)(vH:X.env.frame=some X.env.locals)(q:pH X.K B=true)(hg:Gl X x)(hm:X.mg x=some (.ref B))
  (hb:∀(EH:St->XK) (xe:Value->Shared->Prop) (pn:List (Addr×Obj)),iR (X.tri xe pn) EH->PassesOwn (model X.prog X.w) X.A X.env xe->GJ (X.tri xe pn) body (tb EH)) (hs:∀e,GJ (X.Ni e) (b₀::suite) (ts e)) (lA:(x==("__debug__" : Str))=false:=by decide) :
  ZS X (.Try body [.ExceptHandler (some (.Name x np)) none (b₀::suite) Jw] [] [] pos) (Qn X.K B tb ts):=by
 refine⟨?_⟩
 intro pins s σ H D I w
 obtain⟨EH,h1,h2⟩:=w
 exact tried I (λEH xe pn l p=>(hb EH xe pn l p).to) h1 λσ' H' s' e C dx I' xa q'=>X3 I' Dw vH q hg hm (hs e).to xa (h2 σ' C dx H' q').1 ((h2 σ' C dx H' q').2 e xa.1.2.1) lA
end
end L2
end
section
namespace L2
open PySem PySem.Spec PySem.W PyProof.Rows
abbrev cB(o:Obj):HO:=.Dy o (.own 0)
def eU(C:List (Addr×Obj))(H:Hp):Hp:=λb=>match C.lookup b with | some o=>some (cB o) | none=>H b
def aO(C:List (Addr×Obj))(H:Hp):Hp:=λb=>match C.lookup b with | some _=>none | none=>H b
theorem iZ{C:List (Addr×Obj)}{H:Hp}{b:Addr}{o:Obj}(h:C.lookup b=some o):eU C H b=some (cB o):=by unfold eU;rw[h]
theorem bJ{C:List (Addr×Obj)}{H:Hp}{b:Addr}(h:C.lookup b=none):eU C H b=H b:=by unfold eU;rw[h]
theorem lD{C:List (Addr×Obj)}{H:Hp}{b:Addr}{o:Obj}(h:C.lookup b=some o):aO C H b=none:=by unfold aO;rw[h]
theorem aL{C:List (Addr×Obj)}{H:Hp}{b:Addr}(h:C.lookup b=none):aO C H b=H b:=by unfold aO;rw[h]
def dm(C:List (Addr×Obj))(H:Hp):Prop:=∀b o,C.lookup b=some o->H b=some (cB o)
def cT(C:List (Addr×Obj))(H:Hp):Prop:=∀b o,C.lookup b=some o->H b=none
theorem dm.out{C:List (Addr×Obj)}{H:Hp}(p:dm C H){b:Addr}{u:HO}(e:H b=some u)(n:∀o,u≠cB o):C.lookup b=none:=by
 cases q:C.lookup b with
 | none=>rfl
 | some o=>rw[p b o q]at e;cases e;exact absurd rfl (n o)
theorem dm.Ij{C:List (Addr×Obj)}{H:Hp}(p:dm C H){b:Addr}(e:H b=none):C.lookup b=none:=by
 cases q:C.lookup b with
 | none=>rfl
 | some o=>rw[p b o q]at e;cases e
theorem cT.out{C:List (Addr×Obj)}{H:Hp}(p:cT C H){b:Addr}{u:HO}(e:H b=some u):C.lookup b=none:=by
 cases q:C.lookup b with
 | none=>rfl
 | some o=>rw[p b o q]at e;cases e
theorem cT.added{C:List (Addr×Obj)}{H:Hp}:dm C (eU C H):=λ_ _ h=>iZ h
section
variable {P:Program}{w:World}{H H':Hp}{h h':Heap}{C:List (Addr×Obj)}{fs:List Addr}
theorem _root_.L2.gZ.eU(x:gZ P w H h)(p:cT C H)(k:∀b o,C.lookup b=some o->h.get? b=some o):gZ P w (eU C H) h:=λb u e=>by
 cases q:C.lookup b with
 | some o=>rw[iZ q]at e;cases e;exact⟨k b o q,o,k b o q⟩
 | none=>
  rw[bJ q]at e
  exact(x b u e).stay (λ_ _ _ z=>z) (λc z=>by rw[bJ (p.out z)];exact z) λc xs z=>by rw[bJ (p.out z)];exact z
theorem _root_.L2.gZ.aO(x:gZ P w H h)(p:dm C H):gZ P w (aO C H) h:=λb u e=>by
 cases q:C.lookup b with
 | some o=>rw[lD q]at e;cases e
 | none=>
  rw[aL q]at e
  exact(x b u e).stay (λ_ _ _ z=>z) (λc z=>by rw[aL (p.out z (by intro o n;cases n))];exact z) λc xs z=>by rw[aL (p.out z (by intro o n;cases n))];exact z
theorem gZ.pins(x:gZ P w H h)(p:dm C H):∀b o,C.lookup b=some o->h.get? b=some o:=λb o q=>(x b _ (p b o q)).1
theorem Un.Lx(u:Un fs [] (eU C H) H' h h')(x:gZ P w H' h')(p:cT C H)(k:∀b o,C.lookup b=some o->h.get? b=some o):Un fs [] H (aO C H') h h':=by
 have NC:dm C H':=λb o q=>u.frzs b o _ (iZ q)
 have at':∀b o,C.lookup b=some o->h'.get? b=some o:=x.pins NC
 refine⟨λb o e n hb hx=>?_,λb o e n hb hx=>?_,λb o e n hx=>?_,u.there,λb xs e=>?_,λb o v e=>?_,λb ps e=>?_⟩
 ·cases q:C.lookup b with
  | some o'=>have:=k b o' q;rw[e]at this;cases this;exact at' b o q
  | none=>exact u.keep b o e (by rw[bJ q];exact n) hb hx
 ·cases q:C.lookup b with
  | some o'=>have:=k b o' q;rw[e]at this;cases this;exact⟨o.slots,at' b o q⟩
  | none=>exact u.slot b o e (by rw[bJ q];exact n) hb hx
 ·cases q:C.lookup b with
  | some o'=>exact lD q
  | none=>rw[aL q];exact u.free b o e (by rw[bJ q];exact n) hx
 ·rw[aL (p.out e)];exact u.tups b xs (by rw[bJ (p.out e)];exact e)
 ·rw[aL (p.out e)];exact u.frzs b o v (by rw[bJ (p.out e)];exact e)
 ·obtain⟨m,z⟩:=u.tbls b ps (by rw[bJ (p.out e)];exact e)
  exact⟨m,by rw[aL (p.out e)];exact z⟩
theorem Un.Mt(u:Un fs [] (aO C H) H' h h')(x:gZ P w H h)(p:dm C H)(nf:∀b o,C.lookup b=some o->b∉fs):Un fs [] H (eU C H') h h'/\cT C H'/\∀b o,C.lookup b=some o->h'.get? b=some o:=by
 have k:=x.pins p
 refine⟨⟨λb o e n hb hx=>u.keep b o e (by rw[aL (p.Ij n)];exact n) hb hx,λb o e n hb hx=>u.slot b o e (by rw[aL (p.Ij n)];exact n) hb hx,λb o e n hx=>?_,u.there,λb xs e=>?_,λb o v e=>?_,λb ps e=>?_⟩,λb o q=>?_,λb o q=>?_⟩
 ·rw[bJ (p.Ij n)];exact u.free b o e (by rw[aL (p.Ij n)];exact n) hx
 ·have q:=p.out e (by intro o n;cases n)
  rw[bJ q];exact u.tups b xs (by rw[aL q];exact e)
 ·cases q:C.lookup b with
  | some o'=>rw[p b o' q]at e;cases e;exact iZ q
  | none=>rw[bJ q];exact u.frzs b o v (by rw[aL q];exact e)
 ·have q:=p.out e (by intro o n;cases n)
  obtain⟨m,z⟩:=u.tbls b ps (by rw[aL q];exact e)
  exact⟨m,by rw[bJ q];exact z⟩
 ·exact u.free b o (k b o q) (lD q) (by simp)
 ·exact u.keep b o (k b o q) (lD q) (nf b o q) (by simp)
end
def oW(P:Program)(w:World)(K:PySem.W.Frag)(mg:Str->Option Value)(base:Heap)(k:Nat)(f:Addr)(sp:Sp):Prop:=
 ∀(A:Around) (outer:List Env) (s:Shared) (H:Hp) (us:List Value) (vs:List V) (Q:VK) (E:XK),cv k A->oV P w K mg base A outer s H->Vals vs us->sp vs H Q E->codeAny (model P w) A (.call (.ref f) ⟨us,[]⟩) (CR eV outer P w H s Q E) s
theorem oW.mono{P:Program}{w:World}{K:PySem.W.Frag}{mg:Str->Option Value}{base:Heap}{j k:Nat}{f:Addr}{sp:Sp}(c:oW P w K mg base j f sp)(h:j<=k):oW P w K mg base k f sp:=
 λA outer s H us vs Q E hr=>c A outer s H us vs Q E (hr.mono h)
def Vg(P:Program)(w:World)(K:PySem.W.Frag)(mg:Str->Option Value)(base:Heap)(N:List Str)(qual:Str)(scope:Scope)(f:Addr)(cd:Value)(cl:List (Str×Addr))(A:Around)(outer:List Env)(s:Shared)(H:Hp):Cx where
 prog:=P
 w:=w
 K:=K
 mg:=mg
 base:=base
 A:=A.deeper (envX qual scope s.heap.objs.size f cd cl)
 N:=N
 s₀:=s
 H₀:=H
 env:=envX qual scope s.heap.objs.size f cd cl
 outer:=outer
 stack:=envX qual scope s.heap.objs.size f cd cl::outer
 ex:=[]
 calm:=true
 fn:=λ_=>false
 pn:=[]
 xe:=λ_ _=>False
theorem vj{u:Value}{x:Str}:∀{l:List (Str×Value)},(x,u)∈l->(∀v,(x,v)∈l->v=u)->l.lookup x=some u
 | [],h,_=>nomatch h
 | (y,v)::l,h,q=>by
  rw[il]
  by_cases e:x=y
  ·subst e
   rw[ip]
   show some v=some u
   rw[q v dD]
  ·rw[wc e]
   refine vj ?_ λv hv=>q v (dW _ hv)
   rcases bT.mp h with z | z
   ·cases z;exact absurd rfl e
   ·exact z
theorem Je{ps:List Str}{us:List Value}{i:Nat}{x:Str}{u:Value}(nd:ps.Nodup)(h1:ps[i]?=some x)(h2:us[i]?=some u):(ps.zip us).reverse.lookup x=some u:=by
 have hz:(ps.zip us)[i]?=some (x,u):=by rw[List.getElem?_zip_eq_some];exact⟨h1,h2⟩
 refine vj (List.mem_reverse.mpr (ny hz)) λv hv=>?_
 obtain⟨j,hj⟩:=Hk.mp (List.mem_reverse.mp hv)
 rw[List.getElem?_zip_eq_some]at hj
 have:i=j:=xq nd h1 hj.1
 subst this
 rw[h2]at hj
 exact(dU hj.2).symm
def CellsOk(C:List (Addr×Obj))(cl:List (Str×Addr))(fr:List Str)(JC:List V):Prop:=∀(i:Nat) x,fr[i]?=some x->∃c o u v,cl.lookup x=some c/\C.lookup c=some o/\o.data=.cell (some u)/\JC[i]?=some v/\RelV v u
theorem Mf{P:Program}{w:World}{K:PySem.W.Frag}{mg:Str->Option Value}{base:Heap}{f:Addr}{qual:Str}{scope:Scope}{cl:List (Str×Addr)}{cd:Value}{ps fr:List Str}{C:List (Addr×Obj)}{JC vs:List V}{us:List Value}{A:Around}{outer:List Env}{s:Shared}{H:Hp}{h₁:Heap}{tk:Tok}
  (kind:scope.kind=.function) (ky:∀x∈scope.names,x.2≠.cell) (nd:(ps++fr).Nodup) (par:∀x∈ps,scope.names.lookup x=some .local) (frk:∀x∈fr,scope.names.lookup x=some .free)
  (has:∀x,scope.names.lookup x=some .free->x∈fr) (uA:∀x c,cl.lookup x=some c->x∈fr) (inj:∀x y c,cl.lookup x=some c->cl.lookup y=some c->x=y)
  (hd:G6 (Vg P w K mg base (ps++fr) qual scope f cd cl A outer s (aO C H))) (e0:oV P w K mg base A outer s H) (r:Vals vs us) (hl:vs.length=ps.length) (hC:dm C H) (lfv:JC.length=fr.length) (Xl:CellsOk C cl fr JC)
  (Va:h₁.Ns s.heap.objs.size (λx=>(ps.zip us).reverse.lookup x)) (Y1:∀b o,s.heap.get? b=some o->h₁.get? b=some o) :
  Inv (Vg P w K mg base (ps++fr) qual scope f cd cl A outer s (aO C H)) [] ((vs++JC).map some) (aO C H) { s with heap:=h₁,toks:=tk }:=by
 have hk:=e0.bx
 have pins:=hk.pins hC
 have ndP:ps.Nodup:=(Aw.mp nd).1
 have cellAt:∀x c,cl.lookup x=some c->∃o u,C.lookup c=some o/\o.data=.cell (some u)/\s.heap.get? c=some o:=λx c e=>by
  obtain⟨i,hi⟩:=Hk.mp (uA x c e)
  obtain⟨c2,o,u,v,h1,h2,h3,_⟩:=Xl i x hi
  rw[e]at h1;cases h1
  exact⟨o,u,h2,h3,pins _ _ h2⟩
 have aF0:gZ P w (aO C H) h₁:=(hk.aO hC).kept Y1
 have U5:∀b:Addr,b∉(Vg P w K mg base (ps++fr) qual scope f cd cl A outer s (aO C H)).ex:=λb z=>absurd (show b∈([]:List Addr) from z) (by simp)
 have aCm:∀b,H b=none->aO C H b=none:=λb n=>by rw[aL (hC.Ij n)];exact n
 refine⟨⟨e0.mod,kind,rfl,rfl,bB _,inj,λy hy=>?_,λy c z _=>absurd (show false=true from z) (by simp),λ_=>hd,Around.frames_deeper e0.frames,.inr ⟨rfl,rfl⟩,λb z=>absurd z (U5 b),λb o e=>⟨(e0.bs b o e).1,aCm b (e0.bs b o e).2⟩,e0.G3,λb _ _=>U5 b,λb z=>absurd z (U5 b),e0.mr,λb hb=>aCm b (e0.JD b hb)⟩,
  rfl,e0.bare,Un.kept Y1,⟨_,Va,λi y v h1 h2 h3=>?_⟩,λy c h=>?_,?_,λy c h=>?_,λp hp=>absurd (show p∈([]:List (Addr×Obj)) from hp) (by simp),aF0,?_⟩
 ·have hy:scope.names.lookup y=some .cell\/scope.names.lookup y=some .free:=hy
  rcases hy with hy | hy
  ·exact absurd rfl (ky _ (jM hy))
  ·obtain⟨i,hi⟩:=Hk.mp (has y hy)
   obtain⟨c,_,_,_,e,_⟩:=Xl i y hi
   exact⟨c,e⟩
 ·have h1:(ps++fr)[i]?=some y:=h1
  rw[cU]at h2
  by_cases hi:i<ps.length
  ·rw[nE hi]at h1
   rw[nE (by omega)]at h2
   have ha:vs[i]?=some v:=by
    cases e:vs[i]? with
    | none=>rw[e]at h2;cases h2
    | some a=>rw[e]at h2;cases h2;rfl
   obtain⟨u,Xb,rv⟩:=r.get ha
   exact⟨u,rv,.inl ⟨par y (ny h1),Je ndP h1 Xb⟩⟩
  ·rw[mQ (by omega)]at h1
   rw[mQ (by omega),hl]at h2
   obtain⟨c,o,u,v',e1,e2,e3,e4,e5⟩:=Xl _ y h1
   rw[e4]at h2;cases h2
   exact⟨u,e5,.inr ⟨.inr (frk y (ny h1)),c,e1,o,Y1 _ _ (pins _ _ e2),e3⟩⟩
 ·obtain⟨o,u,_,e3,e4⟩:=cellAt y c h
  exact⟨_,o,Y1 _ _ e4,e3⟩
 ·exact(hk.aO hC).fresh (bB _)
 ·obtain⟨o,u,e2,_⟩:=cellAt y c h
  exact lD e2
 ·rw[aQ,cP,hl,lfv]
  exact cP.symm
theorem Mg{P:Program}{w:World}{K:PySem.W.Frag}{mg:Str->Option Value}{base:Heap}{N:List Str}{f:Addr}{qual:Str}{scope:Scope}{cl:List (Str×Addr)}{cd:Value}{C:List (Addr×Obj)}{A:Around}{outer:List Env}{s s':Shared}{H H':Hp}{σ':St}{Q:VK}{v:V}{u:Value}
  (e0:oV P w K mg base A outer s H) (hC:dm C H) (J:Inv (Vg P w K mg base N qual scope f cd cl A outer s (aO C H)) [] σ' H' s') (rv:RelV v u) (q:Q v (eU C H')):CE outer P w H s Q u s':=by
 have nf:∀b o,C.lookup b=some o->b∉nh outer:=λb o q z=>by have:=e0.JD b z;rw[hC b o q]at this;cases this
 obtain⟨un,po,at'⟩:=Un.Mt (H:=H) (h:=s.heap) J.base e0.bx hC nf
 exact⟨v,eU C H',J.os,J.bare,un,J.bx.eU po at',rv,q⟩
def Yj(H:Hp)(f:Addr):Prop:=∃fo fd,H f=some (cB fo)/\fo.data=.func fd
theorem Yj.at{P:Program}{w:World}{H:Hp}{h:Heap}{f:Addr}(x:Yj H f)(ok:gZ P w H h):FnAt f h:=by
 obtain⟨fo,fd,e,d⟩:=x
 obtain⟨oc,od,dt,sl⟩:=fo
 have d':dt=.func fd:=d
 subst d'
 exact⟨oc,od,fd,sl,(ok f _ e).1⟩
section
variable {X:Cx}{k:Nat}{f C:Addr}{sp:Sp}{E:XK}{x m:Str}{p pos apos:Pos}{e o:Expr}{es:List Expr}{ta:TE}{t:TA}
theorem KC{pins:List (Addr×Obj)}{σ:St}{H:Hp}{s:Shared}{Q:VK}{us:List Value}{vs:List V}(F:oW X.prog X.w X.K X.mg X.base k f sp)(hr:cv k X.A)(I:Inv X pins σ H s)(r:Vals vs us)(h:sp vs H Q E) :
  wpAny (model X.prog X.w) X.A (call (.ref f) us) (EP X pins σ Q) X.xe s:=by
 refine jJ (ic (F X.A X.stack s H us vs Q E hr I.yW r h) λr s' hq=>?_)
 cases r with
 | error e=>exact False.elim hq
 | ok fl=>
  cases fl with
  | ret u=>exact I.after hq
  | next=>exact False.elim hq
  | brk=>exact False.elim hq
  | cont=>exact False.elim hq
def Bu(P:Program)(w:World)(K:PySem.W.Frag)(mg:Str->Option Value)(base:Heap)(k:Nat)(tv:TE)(t:TA):TE:=λσ H Q=>tv σ H λx H1=>∃f,x=.ref f/\Yj H1 f/\t σ H1 λvs H2=>Yj H2 f/\∃sp,oW P w K mg base k f sp/\sp vs H2 Q E0
theorem RW{tv:TE}(hr:cv k X.A)(hv:PE X (.Name x p) tv)(ha:PA X (e::es) t)(he:starEach (e::es) X.env=(false,eval e X.env)::starEach es X.env:=by rfl)(iF:(backTo pos (starEach es X.env)).any (·.1)=false:=by rfl) :
  PE X (.Call (.Name x p) (e::es) [] pos) (Bu X.prog X.w X.K X.mg X.base k tv t):=by
 intro pins s σ H Q I h
 refine mM (cM (hv pins s σ H _ I h) λu s1 ⟨v,H1,I1,r1,f,ev,hf,h1⟩=>?_)
 subst ev
 cases r1
 refine callWith_F (hf.at I1.bx) (cM (ha pos pins s1 σ H1 _ I1 h1) λus s2 ⟨vs,H2,I2,r2,hf2,sp,F,q⟩=>⟨hf2.at I2.bx,?_⟩) he iF
 exact KC F hr I2 r2 q
theorem zg{tv:TE}(hr:cv k X.A)(hv:ZE X (.Name x p) tv)(ha:ZA X (e::es) t)(he:starEach (e::es) X.env=(false,eval e X.env)::starEach es X.env:=by rfl)(iF:(backTo pos (starEach es X.env)).any (·.1)=false:=by rfl) :
  ZE X (.Call (.Name x p) (e::es) [] pos) (Bu X.prog X.w X.K X.mg X.base k tv t):=⟨RW hr hv.to ha.to he iF⟩
end
def BMain(mg:Str->Option Value)(base:Heap):Prop:=∃bm o,mg "__builtins__" = some (.ref bm)/\bm≠builtinsNs/\bm≠mainGlobals/\base.get? bm=some o/\o.cls=.type "module"/\o.dict=some builtinsNs/\o.data=.plain
section
variable {X:Cx}{pins:List (Addr×Obj)}{σ:St}{H:Hp}{s:Shared}{h':Heap}{P c':Addr}{ps more:Array Value}{fo oc:Obj}
def made(H:Hp)(P:Addr)(ps:Array Value)(c':Addr)(oc:Obj)(f:Addr)(fo:Obj):Hp:=upd (upd (upd H P (.nL ps)) c' (cB oc)) f (cB fo)
theorem Inv.YJ{t':Nat}(I:Inv X pins σ H s)(hP:H P=some (.nL ps))(hx:Heap.ExtBut P s.heap h')(Pm:s.heap.objs.size<=c')(jF:c'<h'.objs.size)(uB:h'.get? c'=some oc)(ht:h'.get? P=some (tabObj (ps++more)))(vH:fo.isFreed=false) :
  Inv X pins σ (L2.made H P (ps++more) c' oc h'.objs.size fo) { s with heap:=h'.push fo,toks:=t' }:=by
 have aDh:=I.bx.lt hP
 have ncP:c'≠P:=jK (cV aDh Pm)
 have nfP:h'.objs.size≠P:=jK (Nat.lt_trans (cV aDh Pm) jF)
 have ncf:c'≠h'.objs.size:=bI jF
 have at_:∀{b:Addr},b<s.heap.objs.size->b≠P->L2.made H P (ps++more) c' oc h'.objs.size fo b=H b:=λ{b} hb nb=>by
  unfold L2.made
  rw[aj (bI (Nat.lt_trans (cV hb Pm) jF)),aj (bI (cV hb Pm)),aj nb]
 have keep:∀b o,b≠P->s.heap.get? b=some o->(h'.push fo).get? b=some o:=λb o nb e=>bR _ (hx b o nb e)
 have aBT:(h'.push fo).get? P=some (tabObj (ps++more)):=bR _ ht
 have atP:L2.made H P (ps++more) c' oc h'.objs.size fo P=some (.nL (ps++more)):=by
  unfold L2.made
  rw[aj nfP.symm,aj ncP.symm,ah]
 refine I.un ⟨λb o e n _ _=>keep b o (λz=>by rw[z,hP]at n;cases n) e,λb o e n _ _=>⟨o.slots,keep b o (λz=>by rw[z,hP]at n;cases n) e⟩,λb o e n _=>?_,λb o e _=>?_,λb xs e=>?_,λb o v e=>?_,λb qs e=>?_⟩ λb u e=>?_
 ·rw[at_ (bC e) (λz=>by rw[z,hP]at n;cases n)];exact n
 ·by_cases nb:b=P
  ·exact⟨_,by rw[nb];exact aBT⟩
  ·exact⟨o,keep b o nb e⟩
 ·rw[at_ (I.bx.lt e) (λz=>by rw[z,hP]at e;cases e)];exact e
 ·rw[at_ (I.bx.lt e) (λz=>by rw[z,hP]at e;cases e)];exact e
 ·by_cases nb:b=P
  ·subst nb
   rw[hP]at e;cases e
   exact⟨more,atP⟩
  ·exact⟨#[],by rw[at_ (I.bx.lt e) nb,e];simp⟩
 ·by_cases h1:b=h'.objs.size
  ·subst h1
   have e':some (cB fo)=some u:=by rw[<-e];unfold L2.made;exact ah.symm
   cases e'
   exact⟨cH _ vH,fo,cH _ vH⟩
  ·by_cases h2:b=c'
   ·subst h2
    have e':some (cB oc)=some u:=by rw[<-e];unfold L2.made;rw[aj ncf];exact ah.symm
    cases e'
    have:(h'.push fo).get? b=some oc:=bR _ uB
    exact⟨this,oc,this⟩
   ·by_cases h3:b=P
    ·subst h3
     rw[atP]at e;cases e
     exact aBT
    ·have e0:H b=some u:=by rw[<-e];unfold L2.made;rw[aj h1,aj h2,aj h3]
     have np:∀c,(c=b\/H c=some (.own b))->c≠P:=λc hc z=>by
      rcases hc with hc | hc
      ·exact h3 (hc ▸ z)
      ·rw[z,hP]at hc;cases hc
     refine(I.bx b u e0).stay (λc v hc q=>keep c v (np c hc) q) (λc q=>?_) λc xs q=>?_
     ·rw[at_ (I.bx.lt q) (λz=>by rw[z,hP]at q;cases q)];exact q
     ·rw[at_ (I.bx.lt q) (λz=>by rw[z,hP]at q;cases q)];exact q
end
section
variable {X:Cx}{c P:Addr}{name qual:Str}{params:Arguments}{body:List Stmt}{scope:Scope}{cl:List (Str×Addr)}{pos:Pos}{i:Nat}
def aD7(P:Addr)(mg:Str->Option Value)(name qual:Str)(params:Arguments)(body:List Stmt)(scope:Scope)(cl:List (Str×Addr))(pos:Pos)(i:Nat):TS:=λD σ H=>∃ps,H P=some (.nL ps)/\TriplesOk ps.toList/\codeAmong pos ps.toList=none/\
 ∀f c' oc vs t ctv doc,H f=none->H c'=none->f≠c'->oc.data=.fields vs->vs[1]?=some (.str qual t)->
  D.nx (σ.set i (some (.ref f))) (made H P (ps ++ #[rawInt pos.line,rawInt pos.col,.ref c']) c' oc f (fnMade name qual params body scope cl doc ((mg "__name__").getD .none) c' ctv))
theorem aAo(j7:X.env.code=.ref c)(hC:CodeHd X.base c P)(hB:BMain X.mg X.base)(hN:X.N.Nodup)(hi:X.N[i]?=some name)(hx:Loc X.env.scope name)(hq:qualnameIn X.env name name=qual)(vW:closureFor scope X.env=pure cl)
  (Lq:params.defaults=[]) (hk0:params.kw_defaults=[]) (ha:annTrees params none X.env=[]) (hf:X.fn name=true\/X.env.scope.names.lookup name=some .local) :
  PS X (.FunctionDef name params body [] none [] scope none name pos) (aD7 P X.mg name qual params body scope cl pos i):=by
 intro pins s σ H D I h
 obtain⟨ps,hP,ht,hnf,q⟩:=h
 refine nestDef_K Lq hk0 ha ?_
 rw[hq]
 have hg:=I.mod.glob.keeps I.bk
 have hP':s.heap.get? P=some (tabObj ps):=I.bx _ _ hP
 obtain⟨bm,ob,b1,b2,b3,b4,b5,b6,b7⟩:=hB
 have none_:∀{b:Addr} {o:Obj},X.base.get? b=some o->b≠P:=λ{b o} e z=>by have:=(I.bs _ _ e).2;rw[z,hP]at this;cases this
 have hgP:mainGlobals≠P:=by
  obtain⟨o,_,_,e,_⟩:=I.mod.glob
  exact none_ e
 refine makeFunction_K (mg:=X.mg) vW I.ok.glob hg j7 (hC.keeps I.bk) hP' ht hnf hgP ⟨bm,ob,b1,b2,b3,none_ b4,I.bk _ _ b4,b5,b6,b7⟩ λc' ctv doc h' tk Jt Pm jF aA0 htb=>?_
 obtain⟨c2,oc,vs,t,e2,uB,hd,hv⟩:=aA0
 cases e2
 have I2:=I.YJ (fo:=fnMade name qual params body scope cl doc ((X.mg "__name__").getD .none) c' ctv) (t':=tk) hP Jt Pm jF uB htb rfl
 have fr1:H h'.objs.size=none:=I.bx.fresh (km (si Pm jF))
 have fr2:H c'=none:=I.bx.fresh Pm
 exact sQ (v:=.ref h'.objs.size) I2 hN hi hx rfl (λs' I3=>⟨_,_,I3,q h'.objs.size c' oc vs t ctv doc fr1 fr2 (jK jF) hd hv⟩) hf
end
def CellsAre(cells:List (Str×Addr))(σ:St)(xs:List (Nat×Str))(C:List (Addr×Obj)):Prop:=∀q∈xs,∃c o u v,cells.lookup q.2=some c/\C.lookup c=some o/\o.data=.cell (some u)/\σ[q.1]?=some (some v)/\RelV v u
section
variable {X:Cx}{pins:List (Addr×Obj)}{σ:St}{H:Hp}{s:Shared}
theorem z6(I:Inv X pins σ H s):∀xs:List (Nat×Str),(∀q∈xs,X.N[q.1]?=some q.2/\X.env.scope.names.lookup q.2=some .cell/\∃v,σ[q.1]?=some (some v))->
  ∃C,(∀b o,C.lookup b=some o->s.heap.get? b=some o/\∃x,X.env.cells.lookup x=some b)/\CellsAre X.env.cells σ xs C
 | [],_=>⟨[],λ_ _ h=>(by cases h),λ_ h=>(nomatch h)⟩
 | q::xs,h=>by
  obtain⟨C,h1,h2⟩:=z6 I xs λr hr=>h r (dW _ hr)
  obtain⟨hN,hk,v,hv⟩:=h q dD
  obtain⟨m,hn,hl⟩:=I.loc
  obtain⟨u,rv,l⟩:=hl q.1 q.2 v hN hv (.inr (.inl hk))
  have Oh:X.env.kindOf q.2=some .cell:=hk
  obtain⟨c,hc,o,ho,hd⟩:∃c,X.env.cells.lookup q.2=some c/\∃o,s.heap.get? c=some o/\o.data=.cell (some u):=by
   rcases l with ⟨z,_⟩ | ⟨_,c,hc,o,ho,hd⟩
   ·rw[Oh]at z;cases z
   ·exact⟨c,hc,o,ho,hd⟩
  refine⟨(c,o)::C,λb o' e=>?_,λr hr=>?_⟩
  ·rw[il]at e
   by_cases hb:b=c
   ·subst hb
    rw[ip]at e
    cases e
    exact⟨ho,q.2,hc⟩
   ·rw[wc hb]at e
    exact h1 b o' e
  ·rcases bT.mp hr with rfl | hr
   ·exact⟨c,o,u,v,hc,by rw[il,ip],hd,hv,rv⟩
   ·obtain⟨c2,o2,u2,v2,e1,e2,e3,e4,e5⟩:=h2 r hr
    by_cases hb:c2=c
    ·subst hb
     have:=(h1 c2 o2 e2).1
     rw[ho]at this
     cases this
     exact⟨c2,o,u2,v2,e1,by rw[il,ip],e3,e4,e5⟩
    ·exact⟨c2,o2,u2,v2,e1,by rw[il,wc hb];exact e2,e3,e4,e5⟩
variable {C:List (Addr×Obj)}
theorem Inv.K5(I:Inv X pins σ H s)(h:∀b o,C.lookup b=some o->s.heap.get? b=some o/\∃x,X.env.cells.lookup x=some b):cT C H:=λb o e=>let ⟨x,hx⟩:=(h b o e).2;I.gx x b hx
theorem Inv.aDu(I:Inv X pins σ H s)(Tn:∀x,X.fn x=true)(h:∀b o,C.lookup b=some o->s.heap.get? b=some o/\∃x,X.env.cells.lookup x=some b):oV X.prog X.w X.K X.mg X.base X.A X.stack s (eU C H):=by
 have e:=I.yW
 have big:∀b o,C.lookup b=some o->X.s₀.heap.objs.size<=b:=λb o q=>let ⟨x,hx⟩:=(h b o q).2;I.ok.X5 x b (Tn x) hx
 refine⟨e.frames,e.mod,λb o q=>⟨(e.bs b o q).1,?_⟩,e.G3,e.mr,λb hb=>?_,I.bx.eU (I.K5 h) λb o q=>(h b o q).1,e.bare⟩
 ·cases z:C.lookup b with
  | none=>rw[bJ z];exact(e.bs b o q).2
  | some o'=>exact absurd (cV (bC q) (fJ I.ok.G3 (big b o' z))) (iJ _)
 ·cases z:C.lookup b with
  | none=>rw[bJ z];exact e.JD b hb
  | some o'=>
   obtain⟨x,hx⟩:=(h b o' z).2
   rcases bT.mp (I.nM b hb) with y | y
   ·exact absurd y (I.Zm x b hx)
   ·obtain⟨_,ob,ho,_⟩:=I.ok.mr.mem y
    exact absurd (cV (bC ho) (big b o' z)) (iJ _)
end
section
variable {X:Cx}{k:Nat}{f:Addr}{fd:FuncData}{ps:List Str}{sp:Sp}{EH:St->XK}{x:Str}{p pos:Pos}{e:Expr}{es:List Expr}{t:TA}
def Bv(cells:List (Str×Addr))(xs:List (Nat×Str))(sp:Sp)(EH:St->XK)(t:TA):TE:=λσ H Q=>t σ H λvs H1=>(∀q∈xs,∃v,σ[q.1]?=some (some v))/\
 ∀C,CellsAre cells σ xs C->cT C H1->sp vs (eU C H1) (λv H'=>Q v (aO C H')) (λc dx H'=>EH σ c dx (aO C H'))
theorem VM{xs:List (Nat×Str)}{pins:List (Addr×Obj)}{σ:St}{H:Hp}{s:Shared}{Q:VK}{us:List Value}{vs:List V}(F:cq X.prog X.w X.K X.mg X.base (DG X.prog X.w) k f fd ps sp)(hr:cv k X.A)(hb:Binds X.K fd ps [])(hx:iR X EH)(Tn:∀x,X.fn x=true)
  (hxs:∀q∈xs,X.N[q.1]?=some q.2/\X.env.scope.names.lookup q.2=some .cell)
  (I:Inv X pins σ H s) (r:Vals vs us) (hv:∀q∈xs,∃v,σ[q.1]?=some (some v)) (h:∀C,CellsAre X.env.cells σ xs C->cT C H->sp vs (eU C H) (λv H'=>Q v (aO C H')) (λc dx H'=>EH σ c dx (aO C H'))) :
  wpAny (model X.prog X.w) X.A (call (.ref f) us) (EP X pins σ Q) X.xe s:=by
 obtain⟨C,h1,h2⟩:=z6 I xs λq hq=>⟨(hxs q hq).1,(hxs q hq).2,hv q hq⟩
 have po:=I.K5 h1
 have at_:∀b o,C.lookup b=some o->s.heap.get? b=some o:=λb o q=>(h1 b o q).1
 have h:=h C h2 po
 have hl:us.length=ps.length:=by rw[<-r.length];exact F.len _ _ _ _ h
 have b:=hb s us I.qc (by rw[gh];exact hl)
 rw[gh]at b
 refine jJ (ic (F.run X.A X.stack s (eU C H) ⟨us,[]⟩ us vs _ _ hr (I.aDu Tn h1) b r h) λr s' hq=>?_)
 cases r with
 | error e=>
  obtain⟨e,c,dx,H',rfl,os,bare,un,bx,xa,q⟩:=hq
  have NC:dm C H':=λb o q=>un.frzs b o _ (iZ q)
  refine hx.pass I ⟨e,c,dx,aO C H',rfl,os,bare,un.Lx bx po at_,bx.aO NC,xa.mono λb hb=>⟨hb.1,?_⟩,q⟩
  rw[aL (NC.Ij hb.2)];exact hb.2
 | ok fl=>
  cases fl with
  | ret u=>
   obtain⟨v,H',os,bare,un,bx,r',q⟩:=hq
   have NC:dm C H':=λb o q=>un.frzs b o _ (iZ q)
   exact I.after ⟨v,aO C H',os,bare,un.Lx bx po at_,bx.aO NC,r',q⟩
  | _=>exact False.elim hq
theorem RX{xs:List (Nat×Str)}{cells:List (Str×Addr)}(vW:X.env.cells=cells)(F:cq X.prog X.w X.K X.mg X.base (DG X.prog X.w) k f fd ps sp)(hr:cv k X.A)(hg:Gl X x)(hm:X.mg x=some (.ref f))(hk:PySem.W.keepIn X.K (.ref f)=true)(hb:Binds X.K fd ps [])(hx:iR X EH)(Tn:∀x,X.fn x=true)
  (hxs:∀q∈xs,X.N[q.1]?=some q.2/\X.env.scope.names.lookup q.2=some .cell)
  (ha:PA X (e::es) t) (lA:(x==("__debug__" : Str))=false:=by decide) (he:starEach (e::es) X.env=(false,eval e X.env)::starEach es X.env:=by rfl) (iF:(backTo pos (starEach es X.env)).any (·.1)=false:=by rfl) :
  PE X (.Call (.Name x p) (e::es) [] pos) (Bv cells xs sp EH t):=by
 subst vW
 intro pins s σ H Q I h
 refine mM (hX I hg hm ?_ lA)
 exact uX (h₀:=X.base) I.ok.mod.Sz hk (cM (ha pos pins s σ H _ I h) λus s1 ⟨vs,H1,I1,r,hv,q⟩=>⟨I1.qc,VM F hr hb hx Tn hxs I1 r hv q⟩) he iF
theorem uo{xs:List (Nat×Str)}{cells:List (Str×Addr)}(vW:X.env.cells=cells)(F:cq X.prog X.w X.K X.mg X.base (DG X.prog X.w) k f fd ps sp)(hr:cv k X.A)(hg:Gl X x)(hm:X.mg x=some (.ref f))(hk:PySem.W.keepIn X.K (.ref f)=true)(hb:Binds X.K fd ps [])(hx:iR X EH)(Tn:∀x,X.fn x=true)
  (hxs:∀q∈xs,X.N[q.1]?=some q.2/\X.env.scope.names.lookup q.2=some .cell)
  (ha:ZA X (e::es) t) (lA:(x==("__debug__" : Str))=false:=by decide) (he:starEach (e::es) X.env=(false,eval e X.env)::starEach es X.env:=by rfl) (iF:(backTo pos (starEach es X.env)).any (·.1)=false:=by rfl) :
  ZE X (.Call (.Name x p) (e::es) [] pos) (Bv cells xs sp EH t):=⟨RX vW F hr hg hm hk hb hx Tn hxs ha.to lA he iF⟩
end
theorem uM{C:List (Addr×Obj)}{H:Hp}(p:cT C H):cp H (eU C H):=λb o e=>by rw[bJ (p.out e)];exact e
def Mv(ts:List (Addr×Addr))(H:Hp):Prop:=∀q∈ts,H q.2=some (.nL #[])
theorem N5{P:Program}{w:World}{K:PySem.W.Frag}{mg mb:Str->Option Value}{CX:Mz}{k:Nat}{fa a:Addr}{fd:FuncData}{x:Str}{sp:Sp}{s₁:Shared}{vs:List Value}{ns:List Int}{ts:List (Addr×Addr)}
  (hT:TabsAt ts s₁.heap) (hKt:∀q∈ts,K.lookup q.2=none) (hB:BMain mg s₁.heap)
  (KX:K.In s₁.heap) (Va:s₁.heap.Ns mainGlobals mg) (hb:s₁.heap.Ns builtinsNs mb) (hbb:∀x:Str,x≠"__name__"->mb x=bootBuiltins x) (Ga:s₁.heap.NoLimit) (hg:s₁.gens = #[])
  (ha:s₁.heap.get? a=some { cls:=.type "list",data:=.seq vs.toArray }) (hi:IntsAre vs ns) (hl:ns.length<=sizeLine) (hr:cv k callerA)
  (F:∀base:Heap,K.In base->base.Ns mainGlobals mg->BMain mg base->cq P w K mg base CX k fa fd [x] sp) (Ge:∀(s:Shared) (u:Value),BindsTo s fd ⟨[u],[]⟩ [(x,u)])
  (yR:∀H:Hp,Mv ts H->qi K H a (ns.map V.int)->sp [.ref a] H (λv _=>v=.bl true) λ_ _ _=>False)
  (hCX:∀H e s',CX [] H s₁ (λ_ _ _=>False) e s'->False) :
  codeAny (model P w) callerA (.call (.ref fa) ⟨[.ref a],[]⟩) (λr s'=>r=.ok (.ret (.bool true))/\OldK s₁.heap s'.heap/\s'.os=s₁.os/\AllBare s'.gens) s₁:=by
 have rv:=ur hi
 have aFx:=hi.length
 have core:∀H:Hp,Mv ts H->qi K H a (ns.map V.int)->gZ P w H s₁.heap->(∀b,H b≠none->b=a\/b∈ts.map (·.2))->(∀b u,H b=some u->(∃o xs,u=.Dy o (.lst xs))\/(b∈ts.map (·.2)/\u=.nL #[]))->(H a≠none->K.lookup a=none)->
   codeAny (model P w) callerA (.call (.ref fa) ⟨[.ref a],[]⟩) (λr s'=>r=.ok (.ret (.bool true))/\OldK s₁.heap s'.heap/\s'.os=s₁.os/\AllBare s'.gens) s₁:=by
  intro H hO hS bx hA hU hK
  have Di:∀{b:Addr} {o:Obj},s₁.heap.get? b=some o->H b=none->(yS s₁.heap H).get? b=some o:=λe n=>Tj e n
  have aCD:∀{b:Addr},b∈ts.map (·.2)->s₁.heap.get? b=some (tabObj #[]):=λ{b} h=>by
   obtain⟨q,hq,rfl⟩:=gd.mp h
   exact(hT q hq).2
  have U5:∀{b:Addr} {o:Obj},s₁.heap.get? b=some o->(o.cls≠.none\/∃es ep,o.data=.dict es ep)->b≠a->H b=none:=λ{b o} e d nb=>by
   cases q:H b with
   | none=>rfl
   | some u=>
    rcases hA b (by rw[q];simp) with z | z
    ·exact absurd z nb
    ·rw[aCD z]at e;cases e
     rcases d with d | ⟨es,ep,d⟩
     ·exact absurd rfl d
     ·cases d
  have neA:∀{b:Addr} {o:Obj} {es:Array DictEntry} {ep:Nat},s₁.heap.get? b=some o->o.data=.dict es ep->b≠a:=λ{b o es ep} e d z=>by
   subst z
   rw[ha]at e;cases e
   have d':Data.seq vs.toArray _=Data.dict es ep:=d
   cases d'
  have nsK:∀{b:Addr} {m:Str->Option Value},s₁.heap.Ns b m->(yS s₁.heap H).Ns b m:=λ{b m} ⟨o,es,ep,e,d,r⟩=>⟨o,es,ep,Di e (U5 e (.inr ⟨es,ep,d⟩) (neA e d)),d,r⟩
  have hKb:K.In (yS s₁.heap H):=λb o e=>Di (KX b o e) (by
   cases q:H b with
   | none=>rfl
   | some u=>
    rcases hA b (by rw[q];simp) with z | z
    ·subst z
     rw[hK (by rw[q];simp)]at e;cases e
    ·obtain⟨r,hr',rfl⟩:=gd.mp z
     rw[hKt r hr']at e;cases e)
  have hM:Mod K mg (yS s₁.heap H):=⟨hKb,nsK Va,⟨mb,nsK hb,hbb⟩,let ⟨mc,h1,h2⟩:=Ga;⟨mc,nsK h1,h2⟩⟩
  have hBb:BMain mg (yS s₁.heap H):=by
   obtain⟨bm,o,b1,b2,b3,b4,b5,b6,b7⟩:=hB
   have nb:bm≠a:=λz=>by
    rw[z,ha]at b4;cases b4
    have b7':Data.seq vs.toArray _=Data.plain:=b7
    cases b7'
   exact⟨bm,o,b1,b2,b3,Di b4 (U5 b4 (.inl (by rw[b5];intro z;cases z)) nb),b5,b6,b7⟩
  have e0:oV P w K mg (yS s₁.heap H) callerA [] s₁ H:=⟨rfl,hM,λb o e=>WW e,Nat.le_of_eq (Oi _ _),trivial,λb hb=>absurd (show b∈([]:List Addr) from hb) (by simp),bx,.of_eq hg⟩
  refine ic ((F _ hKb (nsK Va) hBb).run callerA [] s₁ H ⟨[.ref a],[]⟩ [.ref a] [.ref a] _ _ hr e0 (Ge s₁ (.ref a)) (.cons rfl .nil) (yR H hO hS)) λr s' h=>?_
  cases r with
  | error e=>exact(hCX H e s' h).elim
  | ok fl=>
   cases fl with
   | next=>exact False.elim h
   | brk=>exact False.elim h
   | cont=>exact False.elim h
   | ret u=>
    obtain⟨v,H',os,bare,un,aCP,r',q⟩:=h
    have q':v=.bl true:=q
    subst q'
    obtain rfl:u=Value.bool true:=r'
    have each:∀b o,s₁.heap.get? b=some o->asItWas s₁.heap s'.heap b o/\∃o',s'.heap.get? b=some o':=λb o e=>by
     cases q:H b with
     | none=>
      have:=un.keep b o e q (by intro z;exact absurd (show b∈([]:List Addr) from z) (by simp)) (by simp)
      exact⟨.inl this,o,this⟩
     | some u=>
      rcases hU b u q with ⟨ob,xs,rfl⟩ | ⟨hm,rfl⟩
      ·have z2:=un.frzs b ob _ q
       obtain⟨e1,_⟩:=bx b _ q
       obtain⟨e2,_⟩:=aCP b _ z2
       rw[e]at e1;cases e1
       exact⟨.inl e2,_,e2⟩
      ·obtain⟨r,hr',rfl⟩:=gd.mp hm
       obtain⟨more,z2⟩:=un.tbls _ _ q
       have e2:s'.heap.get? r.2=some (tabObj (#[]++more)):=aCP _ _ z2
       have e3:=(hT r hr').2
       rw[e]at e3;cases e3
       exact⟨.inr (.inl ⟨((hT r hr').1.tab (hT r hr').2).isCodeTable,rfl,#[],more,rfl,e2⟩),_,e2⟩
    exact⟨rfl,⟨λb o e=>(each b o e).1,λb o e=>(each b o e).2⟩,os,bare⟩
 have naT:a∉ts.map (·.2):=λz=>by
  obtain⟨q,hq,e⟩:=gd.mp z
  have:=(hT q hq).2
  rw[e,ha]at this;cases this
 have aBU:∀(H1:Hp),(∀b,b∈ts.map (·.2)->H1 b=some (.nL #[]))->Mv ts H1:=λH1 h q hq=>h _ (wq hq)
 have Yq:∀b,b∈ts.map (·.2)->s₁.heap.get? b=some (tabObj #[]):=λb h=>by
  obtain⟨q,hq,rfl⟩:=gd.mp h
  exact(hT q hq).2
 cases hk:K.lookup a with
 | some o=>
  have e:=KX a o hk
  rw[ha]at e
  cases e
  refine core (λb=>if b∈ts.map (·.2) then some (.nL #[]) else none) (aBU _ λb hb=>aC hb) (.inr ⟨_,vs.toArray,_,hk,rfl,rfl,rfl,by rw[cO,aFx];exact hl,by simpa using rv⟩) (λb u z=>?_) (λb z=>?_) (λb u z=>?_) λz=>absurd (aB naT) z
  ·by_cases hb:b∈ts.map (·.2)
   ·have z':=(aC hb).symm.trans z
    cases z';exact Yq b hb
   ·have z':=(aB hb).symm.trans z
    cases z'
  ·by_cases hb:b∈ts.map (·.2)
   ·exact .inr hb
   ·exact absurd (aB hb) z
  ·by_cases hb:b∈ts.map (·.2)
   ·have z':=(aC hb).symm.trans z
    cases z';exact .inr ⟨hb,rfl⟩
   ·have z':=(aB hb).symm.trans z
    cases z'
 | none=>
  let H0:Hp:=λb=>if b=a then some (.Dy { cls:=.type "list",data:=.seq vs.toArray } (.lst (ns.map V.int))) else if b∈ts.map (·.2) then some (.nL #[]) else none
  have jf:H0 a=some (.Dy { cls:=.type "list",data:=.seq vs.toArray } (.lst (ns.map V.int))):=aC rfl
  have atT:∀b,b∈ts.map (·.2)->H0 b=some (.nL #[]):=λb hb=>(aB (λz:b=a=>naT (by rw[<-z];exact hb))).trans (aC hb)
  have atN:∀b,b≠a->b∉ts.map (·.2)->H0 b=none:=λb h1 h2=>(aB h1).trans (aB h2)
  refine core H0 (aBU _ atT) (.inl (.inr ⟨{ cls:=.type "list",data:=.seq vs.toArray },jf⟩)) (λb u z=>?_) (λb z=>?_) (λb u z=>?_) λ_=>hk
  ·by_cases hb:b=a
   ·subst hb
    rw[jf]at z;cases z
    exact⟨ha,by rw[aQ];exact hl,vs,_,rv,ha⟩
   ·by_cases hm:b∈ts.map (·.2)
    ·rw[atT b hm]at z;cases z;exact Yq b hm
    ·rw[atN b hb hm]at z;cases z
  ·by_cases hb:b=a
   ·exact .inl hb
   ·by_cases hm:b∈ts.map (·.2)
    ·exact .inr hm
    ·exact absurd (atN b hb hm) z
  ·by_cases hb:b=a
   ·subst hb
    rw[jf]at z;cases z
    exact .inl ⟨_,_,rfl⟩
   ·by_cases hm:b∈ts.map (·.2)
    ·rw[atT b hm]at z;cases z;exact .inr ⟨hm,rfl⟩
    ·rw[atN b hb hm]at z;cases z
theorem Qd{l:PySem.W.OpenLaw}{n k:Nat}{q:Program}{loose:List Str}{XP:(Str->Option Value)->Heap->Prop}{YP:World->Heap->Prop}{d:DefRec}{K:Params->PySem.W.Frag}{CX:World->Mz}{sp:World->Sp}{x:Str}{ts:List (Addr×Addr)}
  (hn:l.most=some n) (hn2:n<=sizeLine) (hdf:d.params.defaults=[]) (hr:cv k callerA)
  (hY:∀(w:World) (h:Heap),YP w h->(K w.params).In h/\∀q∈ts,h.get? q.2=some (tabObj #[]))
  (hCd:∀w:World,∀q∈ts,codeHdIn (K w.params) q.1 q.2=true/\(K w.params).lookup q.2=none)
  (F:∀(w:World) (mg:Str->Option Value) (fa:Addr) (h:Heap),(K w.params).In h->h.Ns mainGlobals mg->mg d.name=some (.ref fa)->
   ∃fd:FuncData,(∀(s:Shared) (u:Value),BindsTo s fd ⟨[u],[]⟩ [(x,u)])/\
    ∀base:Heap,(K w.params).In base->base.Ns mainGlobals mg->BMain mg base->cq l.prog w (K w.params) mg base (CX w) k fa fd [x] (sp w))
  (yR:∀(w:World) (H:Hp) (a:Addr) (ns:List Int),ns.length<=n->Mv ts H->qi (K w.params) H a (ns.map V.int)->sp w [.ref a] H (λv _=>v=.bl true) λ_ _ _=>False)
  (hCX:∀(w:World) (H:Hp) (s:Shared) (e:Value) (s':Shared),CX w [] H s (λ_ _ _=>False) e s'->False) :
  PySem.W.WalkO q loose XP YP l.row.toRowW d [] (λf vs=>PySem.call f vs):=by
 refine Att.GC hn hdf λw s₀ s₁ mg mb fa o pm cd doc a vs ns G Y ho hd vq hmg aA9 hints hlen hg=>?_
 obtain⟨KX,hP⟩:=hY w _ Y
 obtain⟨fd,hb,hF⟩:=F w mg fa _ KX G.T.g hmg
 have hB:BMain mg s₁.heap:=by
  obtain⟨bm,ob,b1,b2,b3,b4,b5,b6⟩:=G.T.bmain
  refine⟨bm,ob,b1,b2,λz=>?_,b3,b4,b5,b6⟩
  obtain⟨o,es,ep,e,dd,_⟩:=G.T.g
  rw[z,e]at b3;cases b3
  rw[dd]at b6;cases b6
 exact N5 (λq hq=>⟨codeHd_of_K KX (hCd w q hq).1,hP q hq⟩) (λq hq=>(hCd w q hq).2) hB KX G.T.g G.T.b G.T.builtins G.T.nolimit hg aA9 hints (fJ hlen hn2) hr hF hb (λH hO hS=>yR w H a ns hlen hO hS) λH e s'=>hCX w H s₁ e s'
def Ri:List V->Hp->VK->Prop:=λvs H Q=>∃a,vs=[.ref a]/\∃ns:List Int,H a=some (.lst (List.map V.int ns))/\Q (.int ns.sum) H
theorem Fz:∀{ns:List Int} {its:List Value},Vals (List.map V.int ns) its->IntsAre its ns
 | [],[],_=>.nil
 | n::ns,u::its,.cons r rs=>by
  obtain⟨t,rfl⟩:=(r:∃t,u=.int n t)
  exact .cons n t (Fz rs)
theorem tQ{env:Env}{ad:Str->Addr}:∀(ns:List (Str×NameKind)) (acc:List (Str×Addr)),(∀x,(x,NameKind.free)∈ns->env.cells.lookup x=some (ad x))->
  (forIn ns acc λq cs=>match q with | (name,kind)=>if (kind == .free)=true then do let c <-cellOf env name;pure PUnit.unit;pure (ForInStep.yield ((name,c)::cs)) else do pure PUnit.unit;pure (ForInStep.yield cs):Sem (List (Str×Addr))) =
   pure (((ns.filter λq=>q.2 == .free).map λq=>(q.1,ad q.1)).reverse++acc)
 | [],acc,_=>rfl
 | (x,k)::ns,acc,h=>by
  rw[List.forIn_cons]
  have ih:=tQ (env:=env) (ad:=ad) ns
  by_cases e:k=.free
  ·subst e
   have hx:=h x dD
   have hc:cellOf env x=pure (ad x):=by unfold cellOf;rw[hx]
   simp only[hc,pure_bind,ip,kh]
   rw[ih _ λy hy=>h y (dW _ hy)]
   simp
  ·have e':(k==NameKind.free)=false:=wc e
   simp only[e',sg,iH,pure_bind]
   rw[ih _ λy hy=>h y (dW _ hy)]
   simp[e]
theorem qg{scope:Scope}{env:Env}{ad:Str->Addr}(h:∀x,(x,NameKind.free)∈scope.names->env.cells.lookup x=some (ad x)):closureFor scope env=pure ((scope.names.filter λq=>q.2 == .free).map λq=>(q.1,ad q.1)).reverse:=by
 have:=tQ (ad:=ad) scope.names [] h
 rw[gh]at this
 unfold closureFor
 simp only[bind_pure]
 exact this
theorem qZ{ad:Str->Addr}{x:Str}:∀(l:List Str),(l.map λx=>(x,ad x)).lookup x=if x∈l then some (ad x) else none
 | []=>rfl
 | y::l=>by
  rw[fc,il]
  by_cases e:x=y
  ·subst e;rw[ip,aC dD]
  ·rw[wc e,qZ l]
   by_cases h:x∈l
   ·rw[aC h,aC (dW _ h)]
   ·rw[aB h,aB (λz=>(bT.mp z).elim e h)]
def freeOf(sc:Scope):List Str:=(sc.names.filter λq=>q.2 == .free).map (·.1)
section
variable {X:Cx}{N:List Str}{sc:Scope}{c P:Addr}{name qual:Str}{params:Arguments}{body:List Stmt}{scope:Scope}{pos:Pos}{fr:List Str}
def Kr(P:Addr)(mg:Str->Option Value)(name qual:Str)(params:Arguments)(body:List Stmt)(scope:Scope)(pos:Pos)(i:Nat)(cells:List (Str×Addr))(fr:List Str):TS:=λD σ H=>∃ps,H P=some (.nL ps)/\TriplesOk ps.toList/\codeAmong pos ps.toList=none/\
 ∀cl f c' oc vs t ctv doc,(∀x∈fr,∃c,cells.lookup x=some c/\cl.lookup x=some c)->(∀x c,cl.lookup x=some c->x∈fr)->(∀x y c,cl.lookup x=some c->cl.lookup y=some c->x=y)->H f=none->H c'=none->f≠c'->oc.data=.fields vs->vs[1]?=some (.str qual t)->
  D.nx (σ.set i (some (.ref f))) (made H P (ps ++ #[rawInt pos.line,rawInt pos.col,.ref c']) c' oc f (fnMade name qual params body scope cl doc ((mg "__name__").getD .none) c' ctv))
theorem Wh(hc:HC X N sc)(nd:N.Nodup)(hf:∀x,X.fn x=true)(i:Nat)(h:U4 N sc i name=true)(j7:X.env.code=.ref c)(hC:CodeHd X.base c P)(hB:BMain X.mg X.base)(hq:qualnameIn X.env name name=qual)(vH:freeOf scope=fr)(hce:∀x∈fr,sc.names.lookup x=some .cell)
  (Lq:params.defaults=[]) (hk0:params.kw_defaults=[]) (ha:annTrees params none X.env=[]) :
  PS X (.FunctionDef name params body [] none [] scope none name pos) (Kr P X.mg name qual params body scope pos i X.env.cells fr):=by
 intro pins s σ H D I hw
 obtain⟨hN,hx⟩:=lY hc h
 have has:∀x∈fr,∃c,X.env.cells.lookup x=some c:=λx hx=>I.ok.has x (.inl (show X.env.scope.names.lookup x=some .cell by rw[hc.s];exact hce x hx))
 have had:∀x∈fr,X.env.cells.lookup x=some ((X.env.cells.lookup x).getD 0):=λx hx=>by
  obtain⟨c,e⟩:=has x hx
  rw[e];rfl
 have mem:∀x,(x,NameKind.free)∈scope.names->x∈fr:=λx hx=>by
  rw[<-vH]
  exact gd.mpr ⟨(x,.free),fL.mpr ⟨hx,rfl⟩,rfl⟩
 have vW:=qg (scope:=scope) (env:=X.env) (ad:=λx=>(X.env.cells.lookup x).getD 0) λx hx=>had x (mem x hx)
 have ecl:((scope.names.filter λq=>q.2 == .free).map λq=>(q.1,(X.env.cells.lookup q.1).getD 0)).reverse=(freeOf scope).reverse.map λx=>(x,(X.env.cells.lookup x).getD 0):=by
  unfold freeOf
  rw[<-wj,<-wj,iI]
  rfl
 rw[ecl,vH]at vW
 have lk:∀x,(fr.reverse.map λx=>(x,(X.env.cells.lookup x).getD 0)).lookup x=if x∈fr then some ((X.env.cells.lookup x).getD 0) else none:=λx=>by
  rw[qZ];simp
 have inF:∀x c,(fr.reverse.map λx=>(x,(X.env.cells.lookup x).getD 0)).lookup x=some c->x∈fr:=λx c e=>by
  rw[lk]at e
  by_cases hx:x∈fr
  ·exact hx
  ·rw[aB hx]at e;cases e
 have eqF:∀x c,(fr.reverse.map λx=>(x,(X.env.cells.lookup x).getD 0)).lookup x=some c->X.env.cells.lookup x=some c:=λx c e=>by
  have hx:=inF x c e
  rw[lk,aC hx]at e
  rw[had x hx];exact e
 obtain⟨ps,hP,ht,hnf,q⟩:=hw
 exact aAo j7 hC hB (by rw[hc.n];exact nd) hN hx hq vW Lq hk0 ha (.inl (hf name)) pins s σ H D I ⟨ps,hP,ht,hnf,λf c' oc vs t ctv doc=>q _ f c' oc vs t ctv doc
  (λx hx=>⟨_,had x hx,by rw[lk,aC hx]⟩) inF λx y c e1 e2=>I.ok.inj x y c (eqF x c e1) (eqF y c e2)⟩
theorem DN(hc:HC X N sc)(nd:N.Nodup)(hf:∀x,X.fn x=true)(i:Nat)(h:U4 N sc i name=true)(j7:X.env.code=.ref c)(hC:CodeHd X.base c P)(hB:BMain X.mg X.base)(hq:qualnameIn X.env name name=qual)(vH:freeOf scope=fr)(hce:∀x∈fr,sc.names.lookup x=some .cell)
  (Lq:params.defaults=[]) (hk0:params.kw_defaults=[]) (ha:annTrees params none X.env=[]) :
  ZS X (.FunctionDef name params body [] none [] scope none name pos) (Kr P X.mg name qual params body scope pos i X.env.cells fr):=⟨Wh hc nd hf i h j7 hC hB hq vH hce Lq hk0 ha⟩
end
theorem jE.aCq{P:Program}{w:World}{K:PySem.W.Frag}{mg:Str->Option Value}{base:Heap}{x qual:Str}{st:Stmt}{f:Addr}{fd:FuncData}{N ps:List Str}{k:Nat}{sp:Sp}(F:jE K x qual st f fd)(S:aU N ps (ag st))(len:∀vs H Q E,sp vs H Q E->vs.length=ps.length)
  (eI:∀(cD:Value) (A:Around) (outer:List Env) (s:Shared) (H:Hp) (vs:List V) (Q:VK) (E:XK),fd.code=cD->cv k (A.deeper (envOfC qual (ag st) s.heap.objs.size f cD))->sp vs H Q E->
   HC (dF eV P w K mg base N qual (ag st) f cD A outer s H E).uw N (ag st)->(∀x,(dF eV P w K mg base N qual (ag st) f cD A outer s H E).uw.fn x=true)->
   ∃t,GJ (dF eV P w K mg base N qual (ag st) f cD A outer s H E).uw (aK st) t/\t { nx:=λ_ H'=>Q .non H',rt:=Q } (start N vs) H):cq P w K mg base eV (k+1) f fd ps sp:=by
 obtain⟨oc,od,kV,doc,pm,an,cD,ct,Dv,rfl,lk,vq⟩:=F.ex
 refine T4 lk vq S len λA outer s H vs Q E hr yR=>?_
 obtain⟨t,h,q⟩:=eI cD A outer s H vs Q E rfl hr yR ⟨rfl,rfl⟩ λ_=>rfl
 exact⟨t,h.to.uw,q⟩
theorem Jg{X:Cx}:iR X λ_=>E0:=λ_ _ _ _ _ _ _ _ _ h=>h.elim
theorem Js{X:Cx}{N:List Str}{sc:Scope}{xs:List (Nat×Str)}(hc:HC X N sc)(h:(xs.all λq=>N[q.1]? == some q.2&&sc.names.lookup q.2==some .cell)=true):∀q∈xs,X.N[q.1]?=some q.2/\X.env.scope.names.lookup q.2=some .cell:=λq hq=>by
 have:=nr.mp h q hq
 simp only[eB,beq_iff_eq]at this
 rw[hc.n,hc.s];exact this
theorem cq.toE{P:Program}{w:World}{K:PySem.W.Frag}{mg:Str->Option Value}{base:Heap}{k:Nat}{f:Addr}{fd:FuncData}{ps:List Str}{sp:Sp}(F:cq P w K mg base eV k f fd ps sp):cq P w K mg base (DG P w) k f fd ps sp:=
 ⟨F.len,λA outer s H args us vs Q E hr he hb hv hs=>ic (F.run A outer s H args us vs Q E hr he hb hv hs) λr s' h=>by
  cases r with
  | error e=>exact False.elim h
  | ok fl=>cases fl <;> exact h⟩
section
variable {X:Cx}{pins:List (Addr×Obj)}{σ:St}{H:Hp}{s:Shared}{A:Around}{E:Value->Shared->Prop}{a C dx:Addr}{fs:List (Str×V)}{v:V}
theorem TV{m:Str}{pl:Sem Bool}{Q:Value×List Value->Shared->Prop}(I:Inv X pins σ H s)(e:H a=some (.ins C dx fs))(c:Cls X.K C)(n:iG X.K C m)(l:fs.lookup m=some v)
  (h:∀u s',Inv X pins σ H s'->RelV v u->Q (u,[]) s'):wpAny (model X.prog X.w) A (getMethod (.ref a) m pl) Q E s:=by
 obtain⟨mA,O,r,_,_,_⟩:=vV I.bx e
 obtain⟨od,J,hl⟩:=O.look
 exact method_usual (r:=none) I.qc J (plainGet_of (c.get m)).1 (plainGet_of (c.get m)).2 n rfl (xW I e c n l λu s' I' ru=>h u s' I' ru)
variable {k:Nat}{m:Str}{p pos apos:Pos}{e o:Expr}{es:List Expr}{ta:TE}{t:TA}
def Bw(K':PySem.W.Frag)(P:Program)(w:World)(K:PySem.W.Frag)(mg:Str->Option Value)(base:Heap)(k:Nat)(m:Str)(ta:TE)(t:TA):TE:=λσ H Q=>ta σ H λx H1=>∃a C dx fs f,x=.ref a/\H1 a=some (.ins C dx fs)/\Cls K' C/\iG K' C m/\fs.lookup m=some (.ref f)/\Yj H1 f/\
 t σ H1 λvs H2=>Yj H2 f/\∃sp,oW P w K mg base k f sp/\sp vs H2 Q E0
theorem RZ{pl:Sem Bool}(hr:cv k X.A)(he:PE X o ta)(ha:PA X (e::es) t)
  (Dw:starEach (e::es) X.env=(false,eval e X.env)::starEach es X.env:=by rfl) (iF:(backTo pos (starEach es X.env)).any (·.1)=false:=by rfl)
  (ht:eval (.Call (.Attribute o m apos) (e::es) [] pos) X.env=(do
   let ov <-eval o X.env
   standAt apos.atName
   let (f,first) <-holding [ov] (getMethod ov m pl)
   callWith pos f first (backTo pos (starEach (e::es) X.env)) (backToKw pos (keywordEach [] X.env))):=by rfl) :
  PE X (.Call (.Attribute o m apos) (e::es) [] pos) (Bw X.K X.prog X.w X.K X.mg X.base k m ta t):=by
 intro pins s σ H Q I h
 refine Bf (pl:=pl) (cM (he pins s σ H _ I h) λu s1 ⟨x,H1,I1,rx,a,C,dx,fs,f,ex,ea,c,n,l,hf,q⟩=>?_) ht
 subst ex
 obtain rfl:u=Value.ref a:=rx
 refine TV I1 ea c n l λu s' I' ru=>?_
 obtain rfl:u=Value.ref f:=ru
 refine callWith_F (hf.at I'.bx) (cM (ha pos pins s' σ H1 _ I' q) λus s2 ⟨vs,H2,I2,r2,hf2,sp,F,q2⟩=>⟨hf2.at I2.bx,?_⟩) Dw iF
 exact KC F hr I2 r2 q2
theorem MP{pl:Sem Bool}(hr:cv k X.A)(he:ZE X o ta)(ha:ZA X (e::es) t)
  (Dw:starEach (e::es) X.env=(false,eval e X.env)::starEach es X.env:=by rfl) (iF:(backTo pos (starEach es X.env)).any (·.1)=false:=by rfl)
  (ht:eval (.Call (.Attribute o m apos) (e::es) [] pos) X.env=(do
   let ov <-eval o X.env
   standAt apos.atName
   let (f,first) <-holding [ov] (getMethod ov m pl)
   callWith pos f first (backTo pos (starEach (e::es) X.env)) (backToKw pos (keywordEach [] X.env))):=by rfl) :
  ZE X (.Call (.Attribute o m apos) (e::es) [] pos) (Bw X.K X.prog X.w X.K X.mg X.base k m ta t):=⟨RZ hr he.to ha.to Dw iF ht⟩
end
section
variable {X:Cx}{N:List Str}{sc:Scope}{c P:Addr}{qual:Str}{params:Arguments}{body:Expr}{scope:Scope}{pos:Pos}{fr:List Str}
def Mx(cells cl:List (Str×Addr))(fr:List Str):Prop:=(∀x∈fr,∃c,cells.lookup x=some c/\cl.lookup x=some c)/\(∀x c,cl.lookup x=some c->x∈fr)/\∀x y c,cl.lookup x=some c->cl.lookup y=some c->x=y
def Vr(P:Addr)(mg:Str->Option Value)(qual:Str)(params:Arguments)(body:Expr)(scope:Scope)(pos:Pos)(cells:List (Str×Addr))(fr:List Str):TE:=λ_ H Q=>∃ps,H P=some (.nL ps)/\TriplesOk ps.toList/\
 ((codeAmong pos ps.toList=none/\∀cl f c' oc vs t ctv,Mx cells cl fr->H f=none->H c'=none->f≠c'->oc.data=.fields vs->vs[1]?=some (.str qual t)->
  Q (.ref f) (made H P (ps ++ #[rawInt pos.line,rawInt pos.col,.ref c']) c' oc f (kla_obj "<lambda>" qual params body scope cl ((mg "__name__").getD .none) c' ctv)))\/
 ∃c',codeAmong pos ps.toList=some (.ref c')/\∀cl f ctv,Mx cells cl fr->H f=none->Q (.ref f) (upd H f (cB (kla_obj "<lambda>" qual params body scope cl ((mg "__name__").getD .none) c' ctv))))
theorem Ws(hc:HC X N sc)(j7:X.env.code=.ref c)(hC:CodeHd X.base c P)(hB:BMain X.mg X.base)(hq:X.env.qual ++ "<lambda>" = qual)(vH:freeOf scope=fr)(hce:∀x∈fr,sc.names.lookup x=some .cell)(Lq:defaultsOf params X.env=([],[])) :
  PE X (.Lambda params body scope pos) (Vr P X.mg qual params body scope pos X.env.cells fr):=by
 intro pins s σ H Q I hw
 have has:∀x∈fr,∃c,X.env.cells.lookup x=some c:=λx hx=>I.ok.has x (.inl (show X.env.scope.names.lookup x=some .cell by rw[hc.s];exact hce x hx))
 have had:∀x∈fr,X.env.cells.lookup x=some ((X.env.cells.lookup x).getD 0):=λx hx=>by
  obtain⟨c,e⟩:=has x hx
  rw[e];rfl
 have mem:∀x,(x,NameKind.free)∈scope.names->x∈fr:=λx hx=>by
  rw[<-vH]
  exact gd.mpr ⟨(x,.free),fL.mpr ⟨hx,rfl⟩,rfl⟩
 have vW:=qg (scope:=scope) (env:=X.env) (ad:=λx=>(X.env.cells.lookup x).getD 0) λx hx=>had x (mem x hx)
 have ecl:((scope.names.filter λq=>q.2 == .free).map λq=>(q.1,(X.env.cells.lookup q.1).getD 0)).reverse=(freeOf scope).reverse.map λx=>(x,(X.env.cells.lookup x).getD 0):=by
  unfold freeOf
  rw[<-wj,<-wj,iI]
  rfl
 rw[ecl,vH]at vW
 have lk:∀x,(fr.reverse.map λx=>(x,(X.env.cells.lookup x).getD 0)).lookup x=if x∈fr then some ((X.env.cells.lookup x).getD 0) else none:=λx=>by
  rw[qZ];simp
 have inF:∀x c,(fr.reverse.map λx=>(x,(X.env.cells.lookup x).getD 0)).lookup x=some c->x∈fr:=λx c e=>by
  rw[lk]at e
  by_cases hx:x∈fr
  ·exact hx
  ·rw[aB hx]at e;cases e
 have eqF:∀x c,(fr.reverse.map λx=>(x,(X.env.cells.lookup x).getD 0)).lookup x=some c->X.env.cells.lookup x=some c:=λx c e=>by
  have hx:=inF x c e
  rw[lk,aC hx]at e
  rw[had x hx];exact e
 have la:Mx X.env.cells (fr.reverse.map λx=>(x,(X.env.cells.lookup x).getD 0)) fr:=⟨λx hx=>⟨_,had x hx,by rw[lk,aC hx]⟩,inF,λx y c e1 e2=>I.ok.inj x y c (eqF x c e1) (eqF y c e2)⟩
 obtain⟨ps,hP,ht,h⟩:=hw
 refine kla_eval Lq ?_
 rw[hq]
 have hg:=I.mod.glob.keeps I.bk
 have hP':s.heap.get? P=some (tabObj ps):=I.bx _ _ hP
 obtain⟨bm,ob,b1,b2,b3,b4,b5,b6,b7⟩:=hB
 have none_:∀{b:Addr} {o:Obj},X.base.get? b=some o->b≠P:=λ{b o} e z=>by have:=(I.bs _ _ e).2;rw[z,hP]at this;cases this
 have hgP:mainGlobals≠P:=by
  obtain⟨o,_,_,e,_⟩:=I.mod.glob
  exact none_ e
 rcases h with ⟨hnf,q⟩ | ⟨c',hf,q⟩
 ·refine kla_makeFunction (mg:=X.mg) vW I.ok.glob hg j7 (hC.keeps I.bk) hP' ht hnf hgP ⟨bm,ob,b1,b2,b3,none_ b4,I.bk _ _ b4,b5,b6,b7⟩ λc' ctv h' tk Jt Pm jF aA0 htb=>?_
  obtain⟨c2,oc,vs,t,e2,uB,hd,hv⟩:=aA0
  cases e2
  have I2:=I.YJ (fo:=kla_obj "<lambda>" qual params body scope (fr.reverse.map λx=>(x,(X.env.cells.lookup x).getD 0)) ((X.mg "__name__").getD .none) c' ctv) (t':=tk) hP Jt Pm jF uB htb rfl
  exact⟨.ref h'.objs.size,_,I2,rfl,q _ h'.objs.size c' oc vs t ctv la (I.bx.fresh (km (si Pm jF))) (I.bx.fresh Pm) (jK jF) hd hv⟩
 ·refine kla_makeFunctionHit (mg:=X.mg) vW I.ok.glob hg j7 (hC.keeps I.bk) hP' ht hf ⟨bm,ob,b1,b2,b3,none_ b4,I.bk _ _ b4,b5,b6,b7⟩ λctv h' tk hk hsz=>?_
  have at_:(h'.push (kla_obj "<lambda>" qual params body scope (fr.reverse.map λx=>(x,(X.env.cells.lookup x).getD 0)) ((X.mg "__name__").getD .none) c' ctv)).get? h'.objs.size=some (kla_obj "<lambda>" qual params body scope (fr.reverse.map λx=>(x,(X.env.cells.lookup x).getD 0)) ((X.mg "__name__").getD .none) c' ctv):=cH _ rfl
  have I2:=I.laid (a:=h'.objs.size) (o:=cB (kla_obj "<lambda>" qual params body scope (fr.reverse.map λx=>(x,(X.env.cells.lookup x).getD 0)) ((X.mg "__name__").getD .none) c' ctv)) (t':=tk) (h':=h'.push (kla_obj "<lambda>" qual params body scope (fr.reverse.map λx=>(x,(X.env.cells.lookup x).getD 0)) ((X.mg "__name__").getD .none) c' ctv)) (λb u e=>bR _ (hk b u e)) hsz ⟨at_,_,at_⟩
  exact⟨.ref h'.objs.size,_,I2,rfl,q _ h'.objs.size ctv la (I.bx.fresh hsz)⟩
theorem P6(hc:HC X N sc)(j7:X.env.code=.ref c)(hC:CodeHd X.base c P)(hB:BMain X.mg X.base)(hq:X.env.qual ++ "<lambda>" = qual)(vH:freeOf scope=fr)(hce:∀x∈fr,sc.names.lookup x=some .cell)(Lq:defaultsOf params X.env=([],[])) :
  ZE X (.Lambda params body scope pos) (Vr P X.mg qual params body scope pos X.env.cells fr):=⟨Ws hc j7 hC hB hq vH hce Lq⟩
end
theorem Uo{P:Program}{w:World}{K:PySem.W.Frag}{mg:Str->Option Value}{base:Heap}{N:List Str}{f:Addr}{qual:Str}{scope:Scope}{cl:List (Str×Addr)}{cd:Value}{C:List (Addr×Obj)}{A:Around}{outer:List Env}{s s':Shared}{H H':Hp}{σ':St}{Q:VK}{v:V}{u:Value}
  (e0:oV P w K mg base A outer s H) (hC:dm C H) (J:Inv (Vg P w K mg base N qual scope f cd cl A outer s (aO C H)) [] σ' H' s') (rv:RelV v u) (q:cT C H'->Q v (eU C H')):CE outer P w H s Q u s':=by
 have nf:∀b o,C.lookup b=some o->b∉nh outer:=λb o q z=>by have:=e0.JD b z;rw[hC b o q]at this;cases this
 obtain⟨un,po,at'⟩:=Un.Mt (H:=H) (h:=s.heap) J.base e0.bx hC nf
 exact⟨v,eU C H',J.os,J.bare,un,J.bx.eU po at',rv,q po⟩
theorem XZ{P:Program}{w:World}{K:PySem.W.Frag}{mg:Str->Option Value}{base:Heap}{k:Nat}{f c':Addr}{name qual:Str}{params:Arguments}{body:Expr}{scope:Scope}{cl:List (Str×Addr)}{pm ctv:Value}{fo oc:Obj}{Bn:Array Value}{tq:Tok}
  {ps fr:List Str} {sp:Sp} (hfo:fo.data=.func (kla_fn name qual params body scope cl pm (.ref c') ctv)) (uB:oc.data=.fields Bn) (hq:Bn[1]?=some (.str qual tq))
  (kind:scope.kind=.function) (co:scope.isCoroutine=false) (gen:scope.isGenerator=false) (ky:∀x∈scope.names,x.2≠.cell) (nd:(ps++fr).Nodup) (par:∀x∈ps,scope.names.lookup x=some .local) (frk:∀x∈fr,scope.names.lookup x=some .free)
  (has:∀x,scope.names.lookup x=some .free->x∈fr)
  (uA:∀x c,cl.lookup x=some c->x∈fr) (inj:∀x y c,cl.lookup x=some c->cl.lookup y=some c->x=y)
  (Ge:∀us:List Value,us.length=ps.length->bindArgs (kla_fn name qual params body scope cl pm (.ref c') ctv) ⟨us,[]⟩=pure (ps.zip us))
  (eI:∀vs H Q E,sp vs H Q E->∃C JC,vs.length=ps.length/\H f=some (cB fo)/\H c'=some (cB oc)/\dm C H/\JC.length=fr.length/\CellsOk C cl fr JC/\
   ∀(A:Around) (outer:List Env) (s:Shared),cv k (A.deeper (envX qual scope s.heap.objs.size f (.ref c') cl))->
   HC (Vg P w K mg base (ps++fr) qual scope f (.ref c') cl A outer s (aO C H)) (ps++fr) scope->
   ∃t,ZE (Vg P w K mg base (ps++fr) qual scope f (.ref c') cl A outer s (aO C H)) body t/\t ((vs++JC).map some) (aO C H) λv H'=>cT C H'->Q v (eU C H')) :
  oW P w K mg base (k+1) f sp:=by
 intro A outer s H us vs Q E hr e0 r yR
 obtain⟨C,JC,hl,hf,hc,hC,lfv,Xl,eI⟩:=eI _ _ _ _ yR
 have lim:s.heap.NoLimit:=e0.mod.nolimit.keeps λb o e=>(e0.bs b o e).1
 have hk:=e0.bx
 have hu:us.length=ps.length:=by rw[<-r.length];exact hl
 refine kla_callFunE (body:=body) hr.depth (hk _ _ hf).1 hfo co gen rfl ⟨c',oc,Bn,tq,rfl,(hk _ _ hc).1,uB,hq⟩ ?_
 rw[Ge us hu]
 refine aJ (wpAny_newFunctionEnv ky (λy hy=>par y.1 (uc (a:=y.1) (b:=y.2) hy).1) (λh₁ Va hsb=>⟨lim.fresh _ hsb,kla_codeExpr ?_⟩) kind)
 have Y1:∀b o,s.heap.get? b=some o->h₁.get? b=some o:=λb o e=>hsb.extBut b o (bI (bC e)) (bR _ e)
 obtain⟨t,ht,Jv⟩:=eI A outer s (hr.deeper _) ⟨rfl,rfl⟩
 refine dk (ht.to [] _ _ _ _ (Mf kind ky nd par frk has uA inj (.inl hr.hd) e0 r hl hC lfv Xl Va Y1) Jv) (λu s' ⟨v,H',J,rv,q⟩=>Uo e0 hC J rv q) λe s' hs=>False.elim hs
section
variable {X:Cx}
theorem z7(hc:X.calm=true):fX X (.builtin "any") KR:=by
 intro pins s σ H vs us Q I rv h
 obtain⟨a,rfl,bs,hq,q⟩:=h
 obtain⟨u,rfl,ru⟩:=vals1 rv
 cases ru
 obtain⟨its,r,pl,hz⟩:=I.list (bw hq)
 have hl:=r.length
 rw[aQ]at hl
 have lt:a<s.heap.objs.size:=let ⟨_,e,_⟩:=pl.isList;bC e
 have hn:iS X.A.in1 s.heap:=(I.ok.hd hc).now I
 refine call_any_walk (wd pl.isList ⟨s.heap.objs.size,_,_,its.toArray.size,_,_,λi=>bs.getD i false,rfl,nI (A:=X.A.in1) _ a (bI lt) (hn.old (bB _)) its.toArray,⟨⟨_,cH _ rfl,rfl,rfl⟩,(pl.isList).push _,hn.keep λe _ o z=>bR _ z⟩,?_,λh' tk mv=>?_⟩)
 ·intro i v s1 Q1 E1 hv U8
  have:v=.bool (bs.getD i false):=O7 r i v (by simpa using hv)
  subst this
  exact aJ U8
 ·rw[cO,<-hl,any_range]
  have k:∀b o,s.heap.get? b=some o->h'.get? b=some o:=λb o e=>mv b o (λz=>absurd (bC e) (by rw[df.mp z];exact iJ _)) (bR _ e)
  exact⟨.bl (bs.any id),H,I.un (t':=tk) (Un.kept k) (I.bx.kept k),rfl,q⟩
theorem O5(hc:X.calm=true):fX X (.builtin "sum") Ri:=by
 intro pins s σ H vs us Q I rv h
 obtain⟨a,rfl,ns,hq,q⟩:=h
 obtain⟨u,rfl,ru⟩:=vals1 rv
 cases ru
 obtain⟨its,r,pl,hz⟩:=I.list (bw hq)
 have hi:=Fz r
 obtain⟨xs,hx⟩:=hi.allInts.items
 have hl':s.heap.IsList a (intItems xs):=hx ▸ pl.isList
 have lt:a<s.heap.objs.size:=let ⟨_,e,_⟩:=pl.isList;bC e
 have hn:iS X.A.in1 s.heap:=(I.ok.hd hc).now I
 have e1:ns=xs.toList.map (·.1):=by
  rw[<-nums_intItems,<-hx]
  exact(show numsOf its.toArray.toList=ns from hi.numsOf).symm
 have e2:preSum (numAt xs) (intItems xs).size=ns.sum:=by
  rw[show(intItems xs).size=xs.size by simp[intItems],preSum_eq,List.take_of_length_le (by simp),e1]
 refine call_sum_walkG (wd hl' ⟨s.heap.objs.size,_,_,(intItems xs).size,_,_,numAt xs,rfl,nI (A:=X.A.in1) _ a (bI lt) (hn.old (bB _)) (intItems xs),⟨⟨_,cH _ rfl,rfl,rfl⟩,hl'.push _,hn.keep λe _ o z=>bR _ z⟩,λb hb=>?_,(λ_ _=>intItems_at),λh' tk t' mv=>?_⟩)
 ·rw[pP]
  rcases dq.mp hb with z | z
  ·simp only[bT,nu,or_false]at z
   rcases z with rfl | rfl
   ·exact qv _
   ·exact sf lt
  ·rcases hn with y | ⟨e,o,vs,y,y2,_⟩
   ·unfold hdL at z;rw[y]at z;cases z
   ·unfold hdL at z;rw[y]at z
    rw[df.mp z];exact sf (bC y2)
 ·rw[e2]
  have k:∀b o,s.heap.get? b=some o->h'.get? b=some o:=λb o e=>mv b o (λz=>absurd (bC e) (by rw[df.mp z];exact iJ _)) (bR _ e)
  exact⟨.int ns.sum,H,I.kept k,⟨_,rfl⟩,q⟩
end
section
variable {P:Program}{w:World}{K:PySem.W.Frag}{mg:Str->Option Value}{base:Heap}{k:Nat}{f:Addr}{sp:Sp}
theorem cv.q{A:Around}(r:cv k A):iA k A:=⟨r.dp,r.un⟩
theorem aAZ{A:Around}(hr:iA k A):A.units+1<cLine:=by have:=hr.un;lia
theorem Vj.ok{fd:FuncData}{ps:List Str}(F:Vj P w K mg base k f fd ps sp):cq P w K mg base eV k f fd ps sp:=
 ⟨F.len,λA outer s H args us vs Q E hr=>F.run A outer s H args us vs Q E hr.q (.inl hr.hd)⟩
def gH(P:Program)(w:World)(K:PySem.W.Frag)(mg:Str->Option Value)(base:Heap)(k:Nat)(f:Addr)(sp:Sp):Prop:=
 ∀(A:Around) (outer:List Env) (s:Shared) (H:Hp) (us:List Value) (vs:List V) (Q:VK) (E:XK),iA k A->Zq A outer s H->oV P w K mg base A outer s H->Vals vs us->sp vs H Q E->codeAny (model P w) A (.call (.ref f) ⟨us,[]⟩) (CR eV outer P w H s Q E) s
theorem gH.ok(c:gH P w K mg base k f sp):oW P w K mg base k f sp:=λA outer s H us vs Q E hr=>c A outer s H us vs Q E hr.q (.inl hr.hd)
theorem Zq.G0{N:List Str}{qual:Str}{scope:Scope}{cd:Value}{cl:List (Str×Addr)}{A:Around}{outer:List Env}{s:Shared}{H:Hp}{C:List (Addr×Obj)}(x:Zq A outer s H)(hC:dm C H):G6 (Vg P w K mg base N qual scope f cd cl A outer s (aO C H)):=by
 rcases x with x | ⟨e,o,vs,a,b,c,d,q⟩
 ·exact .inl x
 ·exact .inr ⟨e,o,vs,a,b,(aL (hC.Ij c)).trans c,d,λz=>(nu z).elim,q⟩
theorem Mb{c':Addr}{name qual:Str}{params:Arguments}{body:List Stmt}{scope:Scope}{cl:List (Str×Addr)}{doc pm ctv:Value}{fo oc:Obj}{Bn:Array Value}{tq:Tok}
  {ps fr:List Str} (hfo:fo.data=.func (fnX name qual params body scope cl .none .none doc pm none (.ref c') ctv)) (uB:oc.data=.fields Bn) (hq:Bn[1]?=some (.str qual tq))
  (kind:scope.kind=.function) (co:scope.isCoroutine=false) (gen:scope.isGenerator=false) (ky:∀x∈scope.names,x.2≠.cell) (nd:(ps++fr).Nodup) (par:∀x∈ps,scope.names.lookup x=some .local) (frk:∀x∈fr,scope.names.lookup x=some .free)
  (has:∀x,scope.names.lookup x=some .free->x∈fr)
  (uA:∀x c,cl.lookup x=some c->x∈fr) (inj:∀x y c,cl.lookup x=some c->cl.lookup y=some c->x=y)
  (Ge:∀us:List Value,us.length=ps.length->bindArgs (fnX name qual params body scope cl .none .none doc pm none (.ref c') ctv) ⟨us,[]⟩=pure (ps.zip us))
  (eI:∀vs H Q E,sp vs H Q E->∃C JC,vs.length=ps.length/\H f=some (cB fo)/\H c'=some (cB oc)/\dm C H/\JC.length=fr.length/\CellsOk C cl fr JC/\
   ∀(A:Around) (outer:List Env) (s:Shared),iA k (A.deeper (envX qual scope s.heap.objs.size f (.ref c') cl))->
   HC (Vg P w K mg base (ps++fr) qual scope f (.ref c') cl A outer s (aO C H)) (ps++fr) scope->
   ∃t,GJ (Vg P w K mg base (ps++fr) qual scope f (.ref c') cl A outer s (aO C H)) body t/\t { nx:=λ_ H'=>Q .non (eU C H'),rt:=λv H'=>Q v (eU C H') } ((vs++JC).map some) (aO C H)) :
  gH P w K mg base (k+1) f sp:=by
 intro A outer s H us vs Q E hr hd e0 r yR
 obtain⟨C,JC,hl,hf,hc,hC,lfv,Xl,eI⟩:=eI _ _ _ _ yR
 have lim:s.heap.NoLimit:=e0.mod.nolimit.keeps λb o e=>(e0.bs b o e).1
 have hk:=e0.bx
 have hu:us.length=ps.length:=by rw[<-r.length];exact hl
 refine codeAny_call_def (body:=body) (binds:=ps.zip us) (by have:=hr.dp;lia) (hk _ _ hf).1 hfo lim ⟨c',oc,Bn,tq,rfl,(hk _ _ hc).1,uB,hq⟩ rfl (.of_eq (Ge us hu)) ky (λy hy=>par y.1 (uc (a:=y.1) (b:=y.2) hy).1) (λh₁ Va Y1=>?_) co gen kind
 obtain⟨t,ht,Jv⟩:=eI A outer s (hr.deeper _) ⟨rfl,rfl⟩
 refine dk (ht.to [] _ _ _ _ (Mf kind ky nd par frk has uA inj (hd.G0 hC) e0 r hl hC lfv Xl Va Y1) Jv) (λfl s' hs=>?_) λe s' hs=>False.elim hs
 cases fl with
 | ret u=>
  obtain⟨v,σ',H',J,rv,q⟩:=hs
  exact Mg e0 hC J rv q
 | next=>
  obtain⟨σ',H',J,q⟩:=hs
  exact Mg (v:=V.non) (u:=Value.none) e0 hC J rfl q
 | brk=>
  obtain⟨_,_,_,q⟩:=hs
  exact False.elim q
 | cont=>
  obtain⟨_,_,_,q⟩:=hs
  exact False.elim q
end
section
variable {X:Cx}{k:Nat}{x:Str}{p pos:Pos}{e:Expr}{es:List Expr}{t:TA}
def Bt(P:Program)(w:World)(K:PySem.W.Frag)(mg:Str->Option Value)(base:Heap)(k:Nat)(tv:TE)(t:TA):TE:=λσ H Q=>tv σ H λx H1=>∃f,x=.ref f/\Yj H1 f/\t σ H1 λvs H2=>Yj H2 f/\∃sp,gH P w K mg base k f sp/\sp vs H2 Q E0
theorem wz{tv:TE}(hc:X.calm=true)(hr:iA k X.A)(hv:ZE X (.Name x p) tv)(ha:ZA X (e::es) t)(he:starEach (e::es) X.env=(false,eval e X.env)::starEach es X.env:=by rfl)(iF:(backTo pos (starEach es X.env)).any (·.1)=false:=by rfl) :
  ZE X (.Call (.Name x p) (e::es) [] pos) (Bt X.prog X.w X.K X.mg X.base k tv t):=by
 refine⟨?_⟩
 intro pins s σ H Q I h
 refine mM (cM (hv.to pins s σ H _ I h) λu s1 ⟨v,H1,I1,r1,f,ev,hf,h1⟩=>?_)
 subst ev
 cases r1
 refine callWith_F (hf.at I1.bx) (cM (ha.to pos pins s1 σ H1 _ I1 h1) λus s2 ⟨vs,H2,I2,r2,hf2,sp,F,q⟩=>⟨hf2.at I2.bx,?_⟩) he iF
 refine jJ (ic (F X.A X.stack s2 H2 us vs Q E0 hr ((I2.ok.hd hc).call I2) I2.yW r2 q) λr s' hq=>?_)
 cases r with
 | error e=>exact False.elim hq
 | ok fl=>
  cases fl with
  | ret u=>exact I2.after hq
  | next=>exact False.elim hq
  | brk=>exact False.elim hq
  | cont=>exact False.elim hq
end
end L2
end
section
namespace L2
open PySem PySem.Spec PyProof.Rows
def Rn:R2:=λx y H Q=>∃a b,x=.ref a/\y=.ref b/\∃ps qs cl dl,H a=some (.tup (List.map V.ref ps))/\H b=some (.tup (List.map V.ref qs))/\rP H ps cl/\rP H qs dl/\Q (.bl (!decide (cl=dl))) H
section
variable {X:Cx}
theorem WD(hu:X.A.units+64<cLine):nj X (compareOp .NotEq) Rn:=by
 intro pins s σ H x y v u Q I rx ry h
 obtain⟨a,b,rfl,rfl,ps,qs,cl,dl,h1,h2,a1,a2,q⟩:=h
 cases rx;cases ry
 obtain⟨us,r1,t1,_⟩:=I.tuple (bH h1)
 obtain⟨ws,r2,t2,_⟩:=I.tuple (bH h2)
 have l1:=r1.length
 have l2:=r2.length
 rw[aQ]at l1 l2
 refine SeqAt.RcNeAt.tuples (e:=λj=>decide (cl[j]?=dl[j]?)) t1 t2 (by omega) (λj h1 h2=>CV I r1 r2 a1 a2 (by rw[Am];omega) j h1 h2) _ _ _ _ ⟨.bl _,H,I,rfl,?_⟩
 rw[cO,cO,<-l1,<-l2,a1.1,a2.1,tU]
 exact q
end
section
variable {P:Program}{w:World}{A:Around}{E:Value->Shared->Prop}{s:Shared}
open PySem.AutoSeq1 (wpAny_loadPart')
end
end L2
end
section
namespace L2
open PySem PySem.Spec PyProof.Rows
open PySem.AutoSeq1 (wpAny_loadPart')
section
variable {P:Program}{w:World}{A:Around}{E:Value->Shared->Prop}{s:Shared}
theorem Nb{l b:Addr}{items eQ:Array Value}{Q:Value->Shared->Prop}(hl:s.heap.IsTuple l items)(hb:s.heap.IsTuple b eQ)(hz:items.size=eQ.size)
  (he:∀j (h1:j<items.size) (h2:j<eQ.size) (E:Value->Shared->Prop) (Q:Bool->Shared->Prop),Q true s->wpAny (model P w) A.in1 (eqBool items[j] eQ[j]) Q E s) (hu:A.units<cLine) (q:Q (.bool false) s):wpAny (model P w) A (compareOp .NotEq (.ref l) (.ref b)) Q E s:=by
 obtain⟨⟨cls,dd,data,sl⟩,ho,hc,n,hd⟩:=id hl
 obtain⟨⟨aBF,XR,data2,GR⟩,Oe,Dx,n2,hd2⟩:=id hb
 simp only at hc hd Dx hd2
 subst hc hd Dx hd2
 refine wpAny_richCompare_same_room (op:=.NotEq) ⟨_,ho,rfl⟩ ⟨_,Oe,rfl⟩ PySem.F.slot_tuple_ne (ji PySem.F.slot_tuple_ne ⟨_,ho,rfl⟩ PySem.F.entry_tuple_ne ?_ (PySem.F.args_tuple_ne_2 _ _)) hu
 obtain⟨hp,g,d,tk,os⟩:=s
 have f2:=AutoSeq1.sub_tuple_tuple
 obtain⟨zs,ez⟩:∃zs,zs=items.toList.zip eQ.toList:=⟨_,rfl⟩
 wp_walk using Bi ho,Bi Oe,wpAny_forIn_list _ (λrest c s'=>c.1=none/\s'=⟨hp,g,d,tk,os⟩/\∃i,rest=zs.drop i) _
 case turn=>
  rintro⟨y,x⟩ rest c s' ⟨vr,rfl,i,hr⟩
  have lt:i<zs.length:=by
   rcases Nat.lt_or_ge i zs.length with h' | h'
   ·exact h'
   ·rw[List.drop_of_length_le h']at hr;cases hr
  have lz:zs.length=items.size:=by rw[ez];simp[hz]
  rw[Hs lt]at hr
  injection hr with e1 e2
  have h1:i<items.size:=by omega
  have h2:i<eQ.size:=by omega
  have e3:(y,x)=(items[i],eQ[i]):=by rw[e1];simp[ez]
  cases e3
  refine ay (he i h1 h2 _ _ ?_)
  wp_walk
  exact⟨rfl,rfl,i+1,e2⟩
 case fin=>
  rintro⟨b1,b2⟩ s' ⟨vr,rfl,_⟩
  simp only at vr
  subst vr
  wp_walk
  refine⟨_,rfl,?_⟩
  simp[Builtin.Tuple.tupleCompareSizes,hz]
  exact q
 case h=>exact⟨rfl,rfl,0,by rw[ez];rfl⟩
end
end L2
end
section
namespace L2
open PySem PySem.Spec PySem.W PyProof.Rows
section
variable {X:Cx}
def Rm:R2:=λx y H Q=>∃(a b:Addr) (i:Str) (p p':Addr),x=.ref a/\y=.ref b/\H a=some (.tup [.str i,.ref p])/\H b=some (.tup [.str i,.ref p'])/\∃t:List Int,H p=some (.tup (List.map V.int t))/\H p'=some (.tup (List.map V.int t))/\Q (.bl false) H
theorem Wz(hu:X.A.units+64<cLine):nj X (compareOp .NotEq) Rm:=by
 intro pins s σ H x y v u Q I rx ry h
 obtain⟨a,b,i,p,p',rfl,rfl,ha,hb,t,hp,YZ,q⟩:=h
 cases rx;cases ry
 obtain⟨us,r1,t1,_⟩:=I.tuple (bH ha)
 obtain⟨ws,r2,t2,_⟩:=I.tuple (bH hb)
 have l1:=r1.length
 have l2:=r2.length
 simp only[fh,ua]at l1 l2
 have El:∀{xs:List V} {us:List Value} {p:Addr} {j:Nat} (r:Vals xs us) (h:j<us.toArray.size) (e:xs[j]?=some (.ref p)),us.toArray[j]=.ref p:=λ{xs us p j} r h e=>by
  have e1:=iU (x:=.ref p) r h e
  cases Ub:us.toArray[j]
  all_goals (rw[Ub]at e1;first | cases e1 | skip)
  rfl
 refine Nb t1 t2 (by simp;omega) (λj h1 h2 E' Q' q'=>?_) (by omega) ⟨.bl false,H,I,rfl,q⟩
 match j,h1,h2 with
 | 0,h1,h2=>
  have:=CW (A:=X.A.in1) (s:=s) (iU (x:=.str i) r1 h1 rfl) (iU (x:=.str i) r2 h2 rfl) rfl rfl
  have e:Dz (.str i) (.str i)=true:=by simp[Dz]
  rw[e]at this
  exact this _ _ _ _ q'
 | 1,h1,h2=>
  rw[El (p:=p) r1 h1 rfl,El (p:=p') r2 h2 rfl]
  have e:=T6 (A:=X.A.in1) I hp YZ (by rw[Am];omega)
  rw[decide_eq_true rfl]at e
  exact e _ _ _ _ q'
 | j+2,h1,h2=>simp at h1;omega
end
end L2
end
namespace My
open PySem L2
def top(i:Nat):Stmt:=PySem.Challenge.pw_truceroll_k58_two_askers_by_turns.main.body.getD i (.Pass ⟨0,0,0,0⟩)
abbrev bV:Stmt:=top 5
abbrev gL:Stmt:=top 6
abbrev kW:Stmt:=top 8
abbrev jc:Stmt:=top 9
abbrev gN:Stmt:=top 10
abbrev gM:Stmt:=top 11
abbrev eK:Stmt:=top 12
abbrev dP:Stmt:=top 13
abbrev cW:Stmt:=top 14
abbrev jb:Stmt:=top 15
abbrev gK:Stmt:=top 16
abbrev o9:Stmt:=top 18
abbrev kR:Stmt:=top 19
abbrev bL:Stmt:=top 21
abbrev gq:Stmt:=top 24
abbrev gp:Stmt:=top 25
abbrev gj:Stmt:=top 26
abbrev gu:Stmt:=top 27
abbrev cX:Stmt:=top 28
abbrev dQ:Stmt:=top 29
abbrev gk:Stmt:=top 30
abbrev fF:Stmt:=top 31
abbrev fD:Stmt:=top 32
abbrev fE:Stmt:=top 33
abbrev gO:Stmt:=top 34
abbrev iN:Stmt:=top 35
abbrev m9:List Str:=["tuples","each","one"]
abbrev EY:List Str:=["one"]
abbrev N2:List Str:=["numbers"]
abbrev Ir:List Str:=["one","other","member"]
abbrev Fc:List Str:=["family"]
abbrev Fb:List Str:=["family","least","part"]
abbrev xr:List Str:=["family","greatest","part"]
abbrev vE:List Str:=["part","family","one"]
abbrev tD:List Str:=["part","family","one"]
abbrev Iq:List Str:=["whole","part"]
abbrev Ez:List Str:=["whole","parts","member"]
abbrev Sn:List Str:=["whole","ask","part","peace","member","more"]
abbrev N1:List Str:=["ask","part","clash","member","fewer"]
abbrev dC:List Str:=["whole","ask","sounding","first","clashes","peaces"]
abbrev Cw:List Str:=["_law_script"]
abbrev Cv:List Str:=["_law_hand_here"]
abbrev Cr:List Str:=["_law_hand_here","_law_cell"]
abbrev Cy:List Str:=["_law_hand_here","_law_many","_law_got","_law_value","_law_size"]
abbrev tE:List Str:=["_law_one","_law_other"]
abbrev vF:List Str:=["_law_hand_here","_law_most","_law_far","_law_step","_law_at","_law_row","_law_k"]
abbrev Cu:List Str:=["_law_hand_here","_law_whole"]
abbrev yN:List Str:=["_law_hand_here","_law_whole","_law_way","_law_weights","_law_alike","_law_one","_law_most","_law_sets","_law_at"]
abbrev yL:List Str:=["_law_model_here","_law_part"]
abbrev yM:List Str:=["_law_ask","_law_whole","_law_part"]
abbrev Fd:List Str:=["_law_model_here","_law_whole","_law_part","_law_word","_law_row","_law_member","_law_other"]
abbrev aAH:List Str:=["_law_script","_law_hand_here","_law_wholes","_law_models","_law_parts","_law_notes","_law_first","_law_second","_law_kept","_law_k","_law_ask","_law_whole","_law_told","_law_many","_law_family"]
def FG(s:Stmt)(j:Nat):Stmt:=match s with
 | .ClassDef _ _ _ b _ _ _ _ _ _ _=>b.getD j (.Pass ⟨0,0,0,0⟩)
 | _=>.Pass ⟨0,0,0,0⟩
abbrev cF:Stmt:=FG (top 2) 0
abbrev cQ:List Str:=["self","part"]
abbrev cG:Stmt:=FG (top 3) 0
abbrev dJ:List Str:=["self","part"]
abbrev cA:Stmt:=FG (top 22) 0
abbrev nZ:List Str:=["self","ask","parts"]
abbrev cY:Stmt:=FG (top 22) 1
abbrev tF:List Str:=["self","part"]
abbrev cZ:Stmt:=FG (top 22) 2
abbrev tG:List Str:=["self","part","peaceful","left","other"]
abbrev aX:Stmt:=(aK iN).getD 6 (.Pass ⟨0,0,0,0⟩)
abbrev nV:List Str:=["_law_part"]
abbrev bX:List Str:=["_law_models","_law_notes"]
abbrev aW:Stmt:=(aK iN).getD 7 (.Pass ⟨0,0,0,0⟩)
abbrev m8:List Str:=["_law_part"]
abbrev bQ:List Str:=["_law_models","_law_notes"]
set_option genInjectivity false in
set_option genSizeOf false in
structure Adr where
 fz:Addr
 fu:FuncData
 rL:Addr
 rD:FuncData
 yk:Addr
 yb:FuncData
 uO:Addr
 uG:FuncData
 rN:Addr
 rF:FuncData
 rM:Addr
 rE:FuncData
 kJ:Addr
 kI:FuncData
 jz:Addr
 jv:FuncData
 gX:Addr
 gS:FuncData
 uN:Addr
 uF:FuncData
 rK:Addr
 rC:FuncData
 Dn:Addr
 Dc:FuncData
 yj:Addr
 x9:FuncData
 dn:Addr
 lE:FuncData
 oK:Addr
 oz:FuncData
 oJ:Addr
 oy:FuncData
 oH:Addr
 ou:FuncData
 oM:Addr
 oA:FuncData
 gY:Addr
 gT:FuncData
 jA:Addr
 jw:FuncData
 oI:Addr
 ow:FuncData
 mH:Addr
 mz:FuncData
 mF:Addr
 mw:FuncData
 mG:Addr
 my:FuncData
 rO:Addr
 rG:FuncData
 UG:Addr
 L7:FuncData
 aR:Addr
 aP:Addr
 bA:Addr
 gb:FuncData
 bD:Addr
 bM:Addr
 jx:FuncData
 aA:Addr
 bG:Addr
 fQ:FuncData
 bY:Addr
 gU:FuncData
 bZ:Addr
 gW:FuncData
structure Txt(K:PySem.W.Frag)(mg:Str->Option Value)(t:Adr):Prop where
 iD:jE K "each_once_in_order" "each_once_in_order" bV t.fz t.fu
 oE:Binds K t.fu ["tuples"] []
 og:mg "each_once_in_order" = some (.ref t.fz)
 Kf:jE K "order_of" "order_of" gL t.rL t.rD
 J1:Binds K t.rD ["one"] []
 IV:mg "order_of" = some (.ref t.rL)
 GQ:jE K "set_of" "set_of" kW t.yk t.yb
 Uv:Binds K t.yb ["numbers"] []
 Sw:mg "set_of" = some (.ref t.yk)
 lM:jE K "is_part" "is_part" jc t.uO t.uG
 pF:Binds K t.uG ["one","other"] []
 px:mg "is_part" = some (.ref t.uO)
 jC:jE K "in_order" "in_order" gN t.rN t.rF
 mE:Binds K t.rF ["family"] []
 mh:mg "in_order" = some (.ref t.rN)
 yv:jE K "least_of" "least_of" gM t.rM t.rE
 J2:Binds K t.rE ["family"] []
 IW:mg "least_of" = some (.ref t.rM)
 ql:jE K "greatest_of" "greatest_of" eK t.kJ t.kI
 y0:Binds K t.kI ["family"] []
 yO:mg "greatest_of" = some (.ref t.kJ)
 oU:jE K "holds_one_of" "holds_one_of" dP t.jz t.jv
 yf:Binds K t.jv ["part","family"] []
 xt:mg "holds_one_of" = some (.ref t.jz)
 lL:jE K "lies_in_one_of" "lies_in_one_of" cW t.gX t.gS
 uK:Binds K t.gS ["part","family"] []
 ux:mg "lies_in_one_of" = some (.ref t.gX)
 uS:jE K "rest_of" "rest_of" jb t.uN t.uF
 Ad:Binds K t.uF ["whole","part"] []
 zK:mg "rest_of" = some (.ref t.uN)
 yu:jE K "parts_of" "parts_of" gK t.rK t.rC
 J0:Binds K t.rC ["whole"] []
 IK:mg "parts_of" = some (.ref t.rK)
 Du:jE K "grown" "grown" o9 t.Dn t.Dc
 Mi:Binds K t.Dc ["whole","ask","part"] []
 Lf:mg "grown" = some (.ref t.Dn)
 GP:jE K "shrunk" "shrunk" kR t.yj t.x9
 Uu:Binds K t.x9 ["ask","part"] []
 Sv:mg "shrunk" = some (.ref t.yj)
 Ae:jE K "sounded" "sounded" bL t.dn t.lE
 Pa:Binds K t.lE ["whole","ask"] []
 N3:mg "sounded" = some (.ref t.dn)
 vD:jE K "_law_hand" "_law_hand" gq t.oK t.oz
 Gz:Binds K t.oz ["_law_script"] []
 Fl:mg "_law_hand" = some (.ref t.oK)
 iE:jE K "_law_next" "_law_next" gp t.oJ t.oy
 j8:Binds K t.oy ["_law_hand_here"] []
 j6:mg "_law_next" = some (.ref t.oJ)
 vC:jE K "_law_take" "_law_take" gj t.oH t.ou
 Gy:Binds K t.ou ["_law_hand_here"] []
 Fj:mg "_law_take" = some (.ref t.oH)
 bz:jE K "_law_draw" "_law_draw" gu t.oM t.oA
 bF:Binds K t.oA ["_law_hand_here","_law_many"] []
 bE:mg "_law_draw" = some (.ref t.oM)
 g8:jE K "_law_is_within" "_law_is_within" cX t.gY t.gT
 lH:Binds K t.gT ["_law_one","_law_other"] []
 lg:mg "_law_is_within" = some (.ref t.gY)
 jD:jE K "_law_members" "_law_members" dQ t.jA t.jw
 oG:Binds K t.jw ["_law_hand_here","_law_most"] []
 oj:mg "_law_members" = some (.ref t.jA)
 kf:jE K "_law_some" "_law_some" gk t.oI t.ow
 oF:Binds K t.ow ["_law_hand_here","_law_whole"] []
 oi:mg "_law_some" = some (.ref t.oI)
 mK:jE K "_law_model" "_law_model" fF t.mH t.mz
 tS:Binds K t.mz ["_law_hand_here","_law_whole"] []
 tI:mg "_law_model" = some (.ref t.mH)
 gF:jE K "_law_tells" "_law_tells" fD t.mF t.mw
 iX:Binds K t.mw ["_law_model_here","_law_part"] []
 iV:mg "_law_tells" = some (.ref t.mF)
 tY:jE K "_law_moved" "_law_moved" fE t.mG t.my
 Dk:Binds K t.my ["_law_ask","_law_whole","_law_part"] []
 CG:mg "_law_moved" = some (.ref t.mG)
 yw:jE K "_law_end" "_law_end" gO t.rO t.rG
 J3:Binds K t.rG ["_law_model_here","_law_whole","_law_part"] []
 Ja:mg "_law_end" = some (.ref t.rO)
 aDZ:jE K "law" "law" iN t.UG t.L7
 aHh:Binds K t.L7 ["_law_script"] []
 aHf:mg "law" = some (.ref t.UG)
 Kl:mg "abs" = none
 Kk:mg "all" = none
 DR:mg "any" = none
 nH:mg "len" = none
 qA:mg "list" = none
 oZ:mg "range" = none
 lR:mg "reversed" = none
 Kj:mg "set" = none
 nG:mg "sorted" = none
 Ki:mg "sum" = none
 iT:mg "tuple" = none
 CJ:mg "TruceError" = some (.ref t.aR)
 Vq:XC K t.aR
 kB:PySem.W.keepIn K (.ref t.aR)=true
 kG:PySem.W.findIn K (.ref t.aR) "__init__" = some (some (.builtin "ValueError.__init__"))
 hV:PySem.W.readsIn K t.aR (.type "type")=true
 ia:PySem.W.findCls K (.ref t.aR) (.type "type") "__init__" = some (.val (.builtin "ValueError.__init__"))
 g9:PySem.W.specialIn K (.ref t.aR) "__getattribute__" = some (some (.builtin "type.__getattribute__"))
 zL:mg "NoPeace" = some (.ref t.aP)
 o5:XC K t.aP
 mj:PySem.W.keepIn K (.ref t.aP)=true
 rQ:jE K "__init__" "NoPeace.__init__" cF t.bA t.gb
 rJ:Binds K t.gb cQ []
 ml:PySem.W.findIn K (.ref t.aP) "__init__" = some (some (.ref t.bA))
 mn:PySem.W.typeIn K (.ref t.bA)=some (.type "function")
 lT:PySem.W.takerIn K t.aP "part" = some none
 qX:PySem.W.findIn K (.ref t.aP) "part" = some none
 aBP:mg "NoClash" = some (.ref t.bD)
 aBO:XC K t.bD
 rj:PySem.W.keepIn K (.ref t.bD)=true
 Kg:jE K "__init__" "NoClash.__init__" cG t.bM t.jx
 J4:Binds K t.jx dJ []
 rk:PySem.W.findIn K (.ref t.bD) "__init__" = some (some (.ref t.bM))
 rz:PySem.W.typeIn K (.ref t.bM)=some (.type "function")
 qR:PySem.W.takerIn K t.bD "part" = some none
 qY:PySem.W.findIn K (.ref t.bD) "part" = some none
 dY:PySem.W.subIn K (.ref t.aP) (.ref t.aP)=some true
 rg:PySem.W.kitOne K (.ref t.aP) (.type "ValueError")=some true
 rh:PySem.W.kitOne K (.ref t.bD) (.type "ValueError")=some true
 Jb:mg "Sounding" = some (.ref t.aA)
 aT:Cls K t.aA
 mU:iG K t.aA "ask"
 cS:iG K t.aA "askings"
 cw:iG K t.aA "known"
 cR:iG K t.aA "unknown"
 Fg:Mk K t.aA t.bG
 pO:jE K "__init__" "Sounding.__init__" cA t.bG t.fQ
 pL:Binds K t.fQ ["self","ask","parts"] []
 uT:jE K "tells" "Sounding.tells" cY t.bY t.gU
 lI:Binds K t.gU ["self","part"] []
 j5:Meth K t.aA "tells" t.bY
 uU:jE K "learn" "Sounding.learn" cZ t.bZ t.gW
 uL:Binds K t.gW ["self","part","peaceful"] []
 tH:Meth K t.aA "learn" t.bZ
local macro_rules | `(tactic| walk_at "r") => `(tactic| repeat (walk_at "rl"))
local macro_rules | `(tactic| walk_at "s") => `(tactic| exact ⟨rfl,rfl,rfl,by decide +kernel,rfl,by decide +kernel,by decide +kernel⟩)
theorem nR:aU nZ ["self","ask","parts"] (ag cA):=by walk_at "s"
theorem sZ:aU tF ["self","part"] (ag cY):=by walk_at "s"
theorem gB:aU tG ["self","part","peaceful"] (ag cZ):=by walk_at "s"
theorem pI:aU cQ cQ (ag cF):=by walk_at "s"
theorem GX:aU dJ dJ (ag cG):=by walk_at "s"
theorem eO:aU m9 ["tuples"] (ag bV):=by walk_at "s"
theorem Eg:aU EY ["one"] (ag gL):=by walk_at "s"
theorem Nr:aU N2 ["numbers"] (ag kW):=by walk_at "s"
theorem w8:aU Ir ["one","other"] (ag jc):=by walk_at "s"
theorem Eh:aU Fc ["family"] (ag gN):=by walk_at "s"
theorem nP:aU Fb ["family"] (ag gM):=by walk_at "s"
theorem jq:aU xr ["family"] (ag eK):=by walk_at "s"
theorem mR:aU vE ["part","family"] (ag dP):=by walk_at "s"
theorem jS:aU tD ["part","family"] (ag cW):=by walk_at "s"
theorem HX:aU Iq ["whole","part"] (ag jb):=by walk_at "s"
theorem jR:aU Ez ["whole"] (ag gK):=by walk_at "s"
theorem nQ:aU Sn ["whole","ask","part"] (ag o9):=by walk_at "s"
theorem kQ:aU N1 ["ask","part"] (ag kR):=by walk_at "s"
theorem jo:aU dC ["whole","ask"] (ag bL):=by walk_at "s"
theorem BW:aU Cw ["_law_script"] (ag gq):=by walk_at "s"
theorem BV:aU Cv ["_law_hand_here"] (ag gp):=by walk_at "s"
theorem lX:aU Cr ["_law_hand_here"] (ag gj):=by walk_at "s"
theorem fC:aU Cy ["_law_hand_here","_law_many"] (ag gu):=by walk_at "s"
theorem sY:aU tE ["_law_one","_law_other"] (ag cX):=by walk_at "s"
theorem cL:aU vF ["_law_hand_here","_law_most"] (ag dQ):=by walk_at "s"
theorem BR:aU Cu ["_law_hand_here","_law_whole"] (ag gk):=by walk_at "s"
theorem cI:aU yN ["_law_hand_here","_law_whole"] (ag fF):=by walk_at "s"
theorem yJ:aU yL ["_law_model_here","_law_part"] (ag fD):=by walk_at "s"
theorem yK:aU yM ["_law_ask","_law_whole","_law_part"] (ag fE):=by walk_at "s"
theorem dX:aU Fd ["_law_model_here","_law_whole","_law_part"] (ag gO):=by walk_at "s"
theorem fj:aU aAH ["_law_script"] (ag iN):=by walk_at "s"
theorem aDW:bootBuiltins "abs" = some (.builtin "abs"):=by decide +kernel
theorem aDV:bootBuiltins "all" = some (.builtin "all"):=by decide +kernel
theorem Zn:bootBuiltins "any" = some (.builtin "any"):=by decide +kernel
theorem vA:bootBuiltins "len" = some (.builtin "len"):=by decide +kernel
theorem Dj:bootBuiltins "list" = some (.type "list"):=by decide +kernel
theorem aBH:bootBuiltins "reversed" = some (.type "reversed"):=by decide +kernel
theorem aDU:bootBuiltins "set" = some (.type "set"):=by decide +kernel
theorem Gx:bootBuiltins "sorted" = some (.builtin "sorted"):=by decide +kernel
theorem aDT:bootBuiltins "sum" = some (.builtin "sum"):=by decide +kernel
theorem pE:bootBuiltins "tuple" = some (.type "tuple"):=by decide +kernel
local macro_rules | `(tactic| walk_at "rd") => `(tactic| walk_at "rc")
local macro_rules | `(tactic| walk_at "rl") => `(tactic| first | (refine eN fun R hR => ?_) | walk_at "ry" | (refine Nx.to (by assumption) _ _ ?_))
local macro_rules | `(tactic| walk_at "rc") => do
  let ids := ("L2.start tSeq zk Nf D' tB Qq tUn DY tC wZ dR aDs Zi aDt YC Rn T2 Qp Qo Ec zq zp Nc ZM HJ wW Qs Qm Rb rI rU rEq rNe QT Ed ipI Rp V' aAb V8 V7 KD KJ KH Ci Ib vR Ic Ie Ce Rk xh KS aAg xf wU Ro aAf Ru aAe Wa aAc V9 tSl Ea sP aAa tBM Qu vQ BZ xg Cd Ca uv V2 ZK Qw tOr Qr Qv ZL Eb tIf List.map_cons List.map_nil List.cons_append List.nil_append List.append_nil List.length_cons List.length_nil List.replicate List.getElem?_cons_zero List.getElem?_cons_succ List.set_cons_zero List.set_cons_succ Nat.reduceAdd Nat.reduceSub Nat.reduceLeDiff Option.some.injEq V.int.injEq V.ref.injEq V.str.injEq V.bl.injEq V.ty.injEq List.cons.injEq HO.lst.injEq HO.tup.injEq HO.dK.injEq exists_eq_left exists_eq_left' exists_and_left and_true true_and and_assoc exists_const reduceCtorEq ah vO decide_eq_true_eq List.length_map ite_true ite_false Bool.false_eq_true Bool.true_and Bool.and_true GD Mp Ml Mj Uy Ux Jq Jp Jo Jm Jl Um Ul Uk Uj JW JV JT JS JN cE Option.join_some Option.join_none wX Br FW S7 S6 KQ wV wR KR Rv KN BX aAd uv Rl Cg pj FX S8 S5 Bq Ql Int.zero_add Int.reduceMul Int.reduceAdd Int.reduceSub Int.reduceLT Int.reduceLE Int.reducePow Int.reduceToNat Int.reduceNeg gt_iff_lt ge_iff_le BG hv Vt VL Ko Kq Ends.unb HO.ext.injEq HO.xd.injEq YQ YD YB Rt Rr Rq En Rc Kz Ks Bx Qt Yu aBY Kn vP Yt aBX Ri Bu Bv Kr Bw Vr Bt Qn HN Rm".splitOn " ").toArray.map fun x => Lean.mkIdent x.toName
  `(tactic| simp only [$[$ids:ident],*])
local macro_rules | `(tactic| walk_at "ry") => do
  let ids := ("L2.start zk Nf D' tB Qq tUn DY tC wZ dR aDs Zi aDt YC Rn T2 Qp Qo Ec zq zp Nc ZM HJ wW Qs Qm Rb rI rU rEq rNe QT Ed ipI Rp V' aAb V8 V7 KD KJ KH Ci Ib vR Ic Ie Ce Rk xh KS aAg xf wU Ro aAf Ru aAe Wa aAc V9 tSl Ea sP aAa tBM Qu vQ BZ xg Cd Ca uv V2 ZK Qw tOr Qr Qv ZL Eb tIf List.map_cons List.map_nil List.cons_append List.nil_append List.append_nil List.length_cons List.length_nil List.replicate List.getElem?_cons_zero List.getElem?_cons_succ List.set_cons_zero List.set_cons_succ Nat.reduceAdd Nat.reduceSub Nat.reduceLeDiff Option.some.injEq V.int.injEq V.ref.injEq V.str.injEq V.bl.injEq V.ty.injEq List.cons.injEq HO.lst.injEq HO.tup.injEq HO.dK.injEq exists_eq_left exists_eq_left' exists_and_left and_true true_and and_assoc exists_const reduceCtorEq ah vO decide_eq_true_eq List.length_map ite_true ite_false Bool.false_eq_true Bool.true_and Bool.and_true GD Mp Ml Mj Uy Ux Jq Jp Jo Jm Jl Um Ul Uk Uj JW JV JT JS JN cE Option.join_some Option.join_none wX Br FW S7 S6 KQ wV wR KR Rv KN BX aAd uv Rl Cg pj FX S8 S5 Bq Ql Int.zero_add Int.reduceMul Int.reduceAdd Int.reduceSub Int.reduceLT Int.reduceLE Int.reducePow Int.reduceToNat Int.reduceNeg gt_iff_lt ge_iff_le BG hv Vt VL Ko Kq Ends.unb HO.ext.injEq HO.xd.injEq YQ YD YB Rt Rr Rq En Rc Kz Ks Bx Qt Yu aBY Kn vP Yt aBX Ri Bu Bv Kr Bw Vr Bt Qn HN Rm".splitOn " ").toArray.map fun x => Lean.mkIdent x.toName
  `(tactic| simp only [$[$ids:ident],*])
section
variable {P:Program}{w:World}{K:PySem.W.Frag}{mg:Str->Option Value}{base:Heap}{t:Adr}
theorem Et(T:Txt K mg t):cq P w K mg base eV 1 t.rL t.rD ["one"] zt:=by
 refine T.Kf.xl Eg (λvs H Q E h=>?_) (λcD A outer s H vs Q E hr h hc hf=>?_)
 ·obtain⟨a,rfl,_⟩:=h;rfl
 obtain⟨a,rfl,xs,ha,q⟩:=h
 refine⟨_,(by exact az (aV (fA (ae (cK pC (di hc) T.nH vA (ae (au hc 0) ai)) (ae (au hc 0) ai))))),?_⟩
 repeat (first | walk_at "rd" | simp only[ha])
 exact⟨by decide,q⟩
theorem WR(T:Txt K mg t):cq P w K mg base eV 4 t.fz t.fu ["tuples"] QG:=by
 have Kc:=Et (P:=P) (w:=w) (base:=base) T
 refine T.iD.xl eO (λvs H Q E h=>?_) (λcD A outer s H vs Q E hr h hc hf=>?_)
 ·obtain⟨a,rfl,_⟩:=h;rfl
 obtain⟨L,rfl,as,ss,hL,sat,W6,q⟩:=h
 have hu:=qd hr
 have U6:=hr.jn
 refine⟨_,(by apply aq;exact(aH hc eO.nd hf 1 (by decide +kernel) zf);apply aq;exact(dG ie rfl (fT (au hc 0)) (pG hc eO.nd hf 2 (by decide +kernel)) (by exact az (sG hu (au hc 1) (au hc 2) jk rfl)));exact az (aV (MJ Kc hr.mono (di hc) T.nG Gx (di hc) T.IV T.J1 (au hc 1)))),?_⟩
 repeat (walk_at "rd")
 intro p hp
 have sp:=aD hp (.dT [])
 have hpL:L≠p:=av hL hp
 refine⟨⟨_,bw (sp _ _ hL)⟩,?_⟩
 obtain⟨Pv,dz⟩:∃Pv:Nat->St->Hp->Prop,∀i σ' H',Pv i σ' H'↔∃(x:Option V) (aM:List (List Key×V)) (vs:List (List Int)),σ'=[some (.ref L),some (.ref p),x]/\H'=upd H p (.dT aM)/\aM.map (·.1)=vs.map (List.map Sum.inl)/\vs.Nodup/\∀z,z∈vs↔z∈ss.take i:=⟨_,λ_ _ _=>dZ⟩
 refine iz (xs:=List.map V.ref as) Pv ((dz _ _ _).mpr ⟨none,[],[],rfl,rfl,rfl,qq,λz=>by simp⟩) (λi σ' H1 _ pv=>?_) (λi x σ' H1 hx pv=>?_) (λσ' H1 pv=>?_)
 ·obtain⟨_,_,_,_,rfl,_⟩:=(dz _ _ _).mp pv
  rw[aj hpL];exact hL
 ·obtain⟨y,aM,vs,rfl,rfl,ek,nd,mem⟩:=(dz _ _ _).mp pv
  obtain⟨a,ea,rfl⟩:=jr hx
  have hi:i<as.length:=(dO.mp ea).1
  have zV:i<ss.length:=by have:=sat.1;omega
  have es:ss[i]?=some ss[i]:=bP zV
  have ha:=sat.2 i a _ ea es
  have hap:a≠p:=av ha hp
  have lk:aM.length<=63:=by
   have h1:=fZ List.length ek
   rw[aQ,aQ]at h1
   have h2:=eG nd λx hx=>List.mem_of_mem_take ((mem x).mp hx)
   have:=sat.1
   omega
  simp only[dR,xc,DY,tC,List.getElem?_cons_zero,List.getElem?_cons_succ,vY,exists_eq_left',List.set_cons_zero,List.set_cons_succ]
  refine⟨p,_,rfl,yx.t (k:=ss[i].map Sum.inl) ah (by rw[aj hap,n8];exact ha) (BK (by omega)),?_⟩
  rw[vO]
  have et:ss.take (i+1)=ss.take i++[ss[i]]:=by rw[jj,es];rfl
  by_cases hin:ss[i]∈vs
  ·refine(dz _ _ _).mpr ⟨_,_,vs,rfl,rfl,?_,nd,λz=>?_⟩
   ·rw[zP,aC (by rw[ek];exact wq hin)];exact ek
   ·rw[et,dq,<-mem z,df]
    exact⟨.inl,λh=>h.elim id λe=>by rw[e];exact hin⟩
  ·refine(dz _ _ _).mpr ⟨_,_,vs++[ss[i]],rfl,rfl,?_,?_,λz=>?_⟩
   ·rw[zP,aB (by rw[ek];intro z;obtain⟨v,hv,e⟩:=gd.mp z;exact hin (by rw[<-CP e];exact hv)),ek,fK];rfl
   ·rw[Aw]
    exact⟨nd,nq.mpr ⟨by simp,qq⟩,λx hx y hy=>by rw[df.mp hy];exact λe=>hin (by rw[<-e];exact hx)⟩
   ·rw[et,dq,dq,mem z]
 ·obtain⟨y,aM,vs,rfl,rfl,ek,nd,mem⟩:=(dz _ _ _).mp pv
  rw[aQ,sat.1,iK]at mem
  have lv:vs.length<64:=by
   have:=eG nd λx hx=>(mem x).mp hx
   have:=sat.1
   omega
  repeat (walk_at "rd")
  refine⟨p,rfl,aM,vs,ah,ek,lv,λD H' bs ts s1 hD hD' st pm pw=>?_⟩
  have sH:cp H (upd H p (.dT aM)):=λb u e=>by rw[aj (av e hp)];exact e
  exact q D H' bs ts (sH.trans s1) (sH.free hD) hD' st (pm.nodup_iff.mpr nd) (λx=>(pm.mem_iff).trans (mem x)) pw
theorem qV(T:Txt K mg t):cq P w K mg base eV 1 t.uO t.uG ["one","other"] ZX:=by
 refine T.lM.xl w8 (λvs H Q E h=>?_) (λcD A outer s H vs Q E hr h hc hf=>?_)
 ·obtain⟨a,b,rfl,_⟩:=h;rfl
 obtain⟨a,b,rfl,x,y,ha,hb,q⟩:=h
 have hu:=qd hr
 have U6:=hr.jn
 refine⟨_,(by apply aq;exact(dG ie rfl (dH (au hc 0)) (pG hc w8.nd hf 2 (by decide +kernel)) (by exact az (cg (aY zG (au hc 2) (au hc 1) (by with_unfolding_all rfl)) (by exact az (aV jk)) bt)));exact az (aV jk)),?_⟩
 repeat (walk_at "rd")
 refine⟨⟨_,bH ha⟩,?_⟩
 obtain⟨Pv,dz⟩:∃Pv:Nat->St->Hp->Prop,∀i σ' H',Pv i σ' H'↔∃z:Option V,σ'=[some (.ref a),some (.ref b),z]/\H'=H/\(x.take i).all (λm=>decide (m∈y))=true:=⟨_,λ_ _ _=>dZ⟩
 refine ft (xs:=List.map V.int x) Pv ((dz _ _ _).mpr ⟨none,rfl,rfl,rfl⟩) (λi σ' H1 _ pv=>?_) (λi z σ' H1 hz pv=>?_) (λσ' H1 pv=>?_)
 ·obtain⟨_,_,rfl,_⟩:=(dz _ _ _).mp pv
  exact ha
 ·obtain⟨z',rfl,rfl,al⟩:=(dz _ _ _).mp pv
  obtain⟨n,en,rfl⟩:=int_at hz
  repeat (first | walk_at "rd" | simp only[hb])
  refine⟨rfl,pA y,?_⟩
  rw[tL]
  by_cases hm:n∈y
  ·rw[aB (by simp[hm])]
   refine(dz _ _ _).mpr ⟨_,rfl,rfl,?_⟩
   rw[jj,en,List.all_append,al]
   simp[hm]
  ·rw[aC (by simp[hm])]
   have e:aF x y=false:=by
    unfold aF
    rw[List.all_eq_false]
    exact⟨n,ny en,by simp[hm]⟩
   rw[<-e]
   exact q
 ·obtain⟨z',rfl,rfl,al⟩:=(dz _ _ _).mp pv
  rw[aQ,iK]at al
  repeat (walk_at "rd")
  have e:aF x y=true:=al
  rw[<-e]
  exact q
theorem Cp(T:Txt K mg t):cq P w K mg base eV 2 t.jz t.jv ["part","family"] (zu false):=by
 have jg:=qV (P:=P) (w:=w) (base:=base) T
 refine T.oU.xl mR (λvs H Q E h=>?_) (λcD A outer s H vs Q E hr h hc hf=>?_)
 ·obtain⟨a,L,rfl,_⟩:=h;rfl
 obtain⟨a,L,rfl,x,bs,ts,ha,hL,st,q⟩:=h
 refine⟨_,(by apply aq;exact(dG ie rfl (fT (au hc 1)) (pG hc mR.nd hf 2 (by decide +kernel)) (by exact az (cg (du (aG jg hr.mono (di hc) T.px T.lM.kp T.pF .nil bj (ae (au hc 2) (ae (au hc 0) ai)))) (by exact az (aV jk)) bt)));exact az (aV jk)),?_⟩
 repeat (walk_at "rd")
 refine⟨⟨_,bw hL⟩,?_⟩
 obtain⟨Pv,dz⟩:∃Pv:Nat->St->Hp->Prop,∀i σ' H',Pv i σ' H'↔∃z:Option V,σ'=[some (.ref a),some (.ref L),z]/\H'=H/\(ts.take i).any (λt=>aF t x)=false:=⟨_,λ_ _ _=>dZ⟩
 refine iz (xs:=List.map V.ref bs) Pv ((dz _ _ _).mpr ⟨none,rfl,rfl,rfl⟩) (λi σ' H1 _ pv=>?_) (λi z σ' H1 hz pv=>?_) (λσ' H1 pv=>?_)
 ·obtain⟨_,_,rfl,_⟩:=(dz _ _ _).mp pv
  exact hL
 ·obtain⟨z',rfl,rfl,al⟩:=(dz _ _ _).mp pv
  obtain⟨b,eb,rfl⟩:=jr hz
  have hi:i<bs.length:=(dO.mp eb).1
  have zV:i<ts.length:=by have:=st.1;omega
  have et:ts[i]?=some ts[i]:=bP zV
  repeat (walk_at "rd")
  refine⟨b,a,rfl,_,x,st.2 i b _ eb et,ha,?_⟩
  repeat (walk_at "rd")
  by_cases hp:aF ts[i] x=true
  ·rw[aC hp]
   have e:ts.any (λt=>if false then aF x t else aF t x)=true:=ik.mpr ⟨ts[i],se zV,hp⟩
   rw[<-e]
   exact q
  ·rw[aB hp]
   refine(dz _ _ _).mpr ⟨_,rfl,rfl,?_⟩
   rw[jj,et,List.any_append,al]
   simp[hp]
 ·obtain⟨z',rfl,rfl,al⟩:=(dz _ _ _).mp pv
  rw[aQ,st.1,iK]at al
  repeat (walk_at "rd")
  have e:ts.any (λt=>if false then aF x t else aF t x)=false:=al
  rw[<-e]
  exact q
theorem Eu(T:Txt K mg t):cq P w K mg base eV 2 t.gX t.gS ["part","family"] (zu true):=by
 have jg:=qV (P:=P) (w:=w) (base:=base) T
 refine T.lL.xl jS (λvs H Q E h=>?_) (λcD A outer s H vs Q E hr h hc hf=>?_)
 ·obtain⟨a,L,rfl,_⟩:=h;rfl
 obtain⟨a,L,rfl,x,bs,ts,ha,hL,st,q⟩:=h
 refine⟨_,(by apply aq;exact(dG ie rfl (fT (au hc 1)) (pG hc jS.nd hf 2 (by decide +kernel)) (by exact az (cg (du (aG jg hr.mono (di hc) T.px T.lM.kp T.pF .nil bj (ae (au hc 0) (ae (au hc 2) ai)))) (by exact az (aV jk)) bt)));exact az (aV jk)),?_⟩
 repeat (walk_at "rd")
 refine⟨⟨_,bw hL⟩,?_⟩
 obtain⟨Pv,dz⟩:∃Pv:Nat->St->Hp->Prop,∀i σ' H',Pv i σ' H'↔∃z:Option V,σ'=[some (.ref a),some (.ref L),z]/\H'=H/\(ts.take i).any (λt=>aF x t)=false:=⟨_,λ_ _ _=>dZ⟩
 refine iz (xs:=List.map V.ref bs) Pv ((dz _ _ _).mpr ⟨none,rfl,rfl,rfl⟩) (λi σ' H1 _ pv=>?_) (λi z σ' H1 hz pv=>?_) (λσ' H1 pv=>?_)
 ·obtain⟨_,_,rfl,_⟩:=(dz _ _ _).mp pv
  exact hL
 ·obtain⟨z',rfl,rfl,al⟩:=(dz _ _ _).mp pv
  obtain⟨b,eb,rfl⟩:=jr hz
  have hi:i<bs.length:=(dO.mp eb).1
  have zV:i<ts.length:=by have:=st.1;omega
  have et:ts[i]?=some ts[i]:=bP zV
  repeat (walk_at "rd")
  refine⟨a,b,rfl,x,_,ha,st.2 i b _ eb et,?_⟩
  repeat (walk_at "rd")
  by_cases hp:aF x ts[i]=true
  ·rw[aC hp]
   have e:ts.any (λt=>if true then aF x t else aF t x)=true:=ik.mpr ⟨ts[i],se zV,hp⟩
   rw[<-e]
   exact q
  ·rw[aB hp]
   refine(dz _ _ _).mpr ⟨_,rfl,rfl,?_⟩
   rw[jj,et,List.any_append,al]
   simp[hp]
 ·obtain⟨z',rfl,rfl,al⟩:=(dz _ _ _).mp pv
  rw[aQ,st.1,iK]at al
  repeat (walk_at "rd")
  have e:ts.any (λt=>if true then aF x t else aF t x)=false:=al
  rw[<-e]
  exact q
theorem nX(T:Txt K mg t):cq P w K mg base eV 5 t.rN t.rF ["family"] QG:=by
 have oQ:=WR (P:=P) (w:=w) (base:=base) T
 refine T.jC.xl Eh (λvs H Q E h=>?_) (λcD A outer s H vs Q E hr h hc hf=>?_)
 ·obtain⟨a,rfl,_⟩:=h;rfl
 have h':=h
 obtain⟨L,rfl,_⟩:=h
 refine⟨_,(by exact az (aV (aG oQ hr.mono (di hc) T.og T.iD.kp T.oE .nil bj (ae (au hc 0) ai)))),?_⟩
 repeat (walk_at "rd")
 exact h'
local macro_rules | `(tactic| walk_at "rd") => `(tactic| walk_at "rc")
local macro_rules | `(tactic| walk_at "rl") => `(tactic| first | (refine eN fun R hR => ?_) | walk_at "ry" | (refine Nx.to (by assumption) _ _ ?_))
theorem La(T:Txt K mg t):Vj P w K mg base 1 t.uN t.uF ["whole","part"] ZV:=by
 refine T.uS.okH HX (λvs H Q E h=>?_) (λcD A outer s H vs Q E hr _ h hc hf=>?_)
 ·obtain⟨a,b,rfl,_⟩:=h;rfl
 obtain⟨a,b,rfl,x,y,ha,hb,lx,q⟩:=h
 refine⟨_,(by exact az (aV (dh gy (di hc) T.iT pE (ae (eJ hc ["member"] [1] rfl (by decide +kernel) (dH (au hc 0)) (λ_ hc=>sJ hc (by decide +kernel) 0 (by decide +kernel)) (λ_ hc=>ja (aY zG (au hc 0) (au hc 1) (by with_unfolding_all rfl))) (λ_ hc=>(au hc 0))) ai)))),?_⟩
 repeat (walk_at "rd")
 refine⟨⟨_,bH ha⟩,?_⟩
 obtain⟨Pc,pJ⟩:∃Pc:Addr->Nat->List V->Hp->Prop,∀Z i ys H',Pc Z i ys H'↔ys=List.map V.int (bO (x.take i) y)/\cp H H'/\H' Z=some (.lst ys):=⟨_,λ_ _ _ _=>dZ⟩
 refine oB (zs:=List.map V.int x) Pc (λZ hZ=>(pJ _ _ _ _).mpr ⟨rfl,aD hZ _,ah⟩) (λZ hZ i ys H' _ pv=>?_) (λZ hZ i z ys H' hz pv cb=>?_) (λZ hZ ys H' pv=>?_)
 ·obtain⟨_,s,_⟩:=(pJ _ _ _ _).mp pv
  exact s _ _ ha
 ·obtain⟨rfl,s1,xR⟩:=(pJ _ _ _ _).mp pv
  obtain⟨n,en,rfl⟩:=int_at hz
  have hi:i<x.length:=(dO.mp en).1
  have Lr:=s1 _ _ hb
  have ef:bO (x.take (i+1)) y=bO (x.take i) y++(if n∈y then [] else [n]):=by
   unfold bO
   rw[jj,en,Ay]
   by_cases hm:n∈y <;> simp[hm]
  walk_at "rc"
  repeat (first | walk_at "rd" | simp only[Lr])
  refine⟨rfl,pA y,?_⟩
  rw[tL]
  by_cases hm:n∈y
  ·rw[aB (by simp[hm])]
   refine(pJ _ _ _ _).mpr ⟨?_,s1,xR⟩
   rw[ef,aC hm,gh]
  ·rw[aC (by simp[hm])]
   have ll:(bO (x.take i) y).length<=900:=fJ (sy _ _) (by rw[jL];omega)
   refine⟨xR,cz (by omega),(pJ _ _ _ _).mpr ⟨?_,Nu s1 hZ,ah⟩⟩
   rw[ef,aB hm,fK]
   rfl
 ·obtain⟨rfl,s1,xR⟩:=(pJ _ _ _ _).mp pv
  rw[aQ,iK]at xR
  refine⟨Z,rfl,_,xR,λp hp=>q p _ (s1.trans (aD hp _)) (s1.free hp) ?_⟩
  exact ah
def QF:Sp:=λvs H Q _=>∃L,vs=[.ref L]/\∃ns:List Int,H L=some (.tup (List.map V.int ns))/\ns.length<64/\∀p ms H',cp H H'->H p=none->H' p=some (.tup (List.map V.int ms))->fG ms->(∀x,x∈ms↔x∈ns)->Q (.ref p) H'
theorem NT(T:Txt K mg t):cq P w K mg base eV 1 t.yk t.yb ["numbers"] QF:=by
 refine T.GQ.xl Nr (λvs H Q E h=>?_) (λcD A outer s H vs Q E hr h hc hf=>?_)
 ·obtain⟨L,rfl,_⟩:=h;rfl
 obtain⟨L,rfl,ns,hL,l64,q⟩:=h
 refine⟨_,(by exact az (aV (dh gy (di hc) T.iT pE (ae (cK (yd hr.hd) (di hc) T.nG Gx (ae (dh (JZ hr.hd) (di hc) T.Kj aDU (ae (au hc 0) ai)) ai)) ai)))),?_⟩
 repeat (first | walk_at "rd" | simp only[hL])
 refine⟨ns,rfl,by omega,λp hp=>⟨ns,rfl,l64,λss' mem up p1 ng l hl=>?_⟩⟩
 exact q l ss' _ (((aD hp _).trans (aD ng _)).trans (aD hl _)) (((aD hp _).trans (aD ng _)).free hl) ah up mem
def Vz:Sp:=λvs H Q _=>∃W,vs=[.ref W]/\∃x:List Int,H W=some (.tup (List.map V.int x))/\x.length<=5/\
 ∀D H' bs ts,cp H H'->H D=none->H' D=some (.lst (List.map V.ref bs))->aI H' bs ts->ts.Nodup->(∀t,t∈ts↔t∈fV x)->ts.Pairwise (λa b=>cu a b=true)->Q (.ref D) H'
theorem R9(T:Txt K mg t):cq P w K mg base eV 6 t.rK t.rC ["whole"] Vz:=by
 have g6:=nX (P:=P) (w:=w) (base:=base) T
 refine T.yu.xl jR (λvs H Q E h=>?_) (λcD A outer s H vs Q E hr h hc hf=>?_)
 ·obtain⟨a,rfl,_⟩:=h;rfl
 obtain⟨W,rfl,x,hW,lx,q⟩:=h
 refine⟨_,(by apply aq;exact(aH hc jR.nd hf 1 (by decide +kernel) (dI (ae (fA ai) ai)));apply aq;exact(dG ie rfl (dH (au hc 0)) (pG hc jR.nd hf 2 (by decide +kernel)) (by exact az (aH hc jR.nd hf 1 (by decide +kernel) (aZ R8 (au hc 1) (eJ hc ["part"] [2] rfl (by decide +kernel) (fT (au hc 1)) (λ_ hc=>sJ hc (by decide +kernel) 0 (by decide +kernel)) (λ_ _=>gi) (λ_ hc=>(aZ Es (au hc 0) (fA (ae (au hc 1) ai)))))))));exact az (aV (aG g6 hr.mono (di hc) T.mh T.jC.kp T.mE .nil bj (ae (au hc 1) ai)))),?_⟩
 repeat (walk_at "rd")
 refine⟨by decide,λp hp=>⟨by decide,λL0 hL0=>?_⟩⟩
 have s0:=(aD hp (.tup [])).trans (aD hL0 (.lst [V.ref p]))
 have Xg:upd (upd H p (.tup [])) L0 (.lst [V.ref p]) p=some (.tup []):=(aD hL0 _) _ _ ah
 have hl0:upd (upd H p (.tup [])) L0 (.lst [V.ref p]) L0=some (.lst [V.ref p]):=ah
 generalize upd (upd H p (.tup [])) L0 (.lst [V.ref p])=H0 at s0 Xg hl0 ⊢
 refine⟨⟨_,bH (s0 _ _ hW)⟩,?_⟩
 obtain⟨Pv,dz⟩:∃Pv:Nat->St->Hp->Prop,∀i σ' H',Pv i σ' H'↔∃(L:Addr) (z:Option V) (bs:List Addr),σ'=[some (.ref W),some (.ref L),z]/\cp H H'/\H' L=some (.lst (List.map V.ref bs))/\aI H' bs (fV (x.take i)):=⟨_,λ_ _ _=>dZ⟩
 refine ft (xs:=List.map V.int x) Pv ((dz _ _ _).mpr ⟨L0,none,[p],rfl,s0,hl0,rfl,λi b t h1 h2=>?_⟩) (λi σ' H1 _ pv=>?_) (λi z σ' H1 hz pv=>?_) (λσ' H1 pv=>?_)
 ·have h2':([[]]:List (List Int))[i]?=some t:=h2
  cases i with
  | zero=>cases h1;cases h2';exact Xg
  | succ n=>simp at h1
 ·obtain⟨_,_,_,_,s1,_⟩:=(dz _ _ _).mp pv
  exact s1 _ _ hW
 ·obtain⟨L,z',bs,rfl,s1,hL,sa⟩:=(dz _ _ _).mp pv
  obtain⟨m,em,rfl⟩:=int_at hz
  have hi:i<x.length:=(dO.mp em).1
  have et:x.take (i+1)=x.take i++[m]:=by rw[jj,em];rfl
  have lb:bs.length<=1024:=by
   rw[sa.1,o7,jL];exact RD (by omega)
  have ls:=sa.1
  repeat (walk_at "rd")
  refine⟨⟨_,bw hL⟩,?_⟩
  refine jy (zs:=List.map V.ref bs) (λj=>(fV (x.take i))[j]?.map (· ++ [m])) (λ_=>jH) jH.same jH.puts hL (by rw[aQ];omega) (λDD c H2 j z yes no hj s2 Ve Vd fq yA=>?_) (λD H2 vs s2 hD yV rl=>?_)
  ·obtain⟨b,eb,rfl⟩:=jr hj
   have hj1:j<bs.length:=(dO.mp eb).1
   have es:(fV (x.take i))[j]?=some ((fV (x.take i))[j]'(by omega)):=bP _
   have hb:=s2 _ _ (sa.2 j b _ eb es)
   have YS:=fq ((fV (x.take i))[j]'(by omega)++[m]) (by rw[es];rfl)
   have ly:=yF (se (l:=fV (x.take i)) (n:=j) (by omega))
   rw[jL]at ly
   generalize (fV (x.take i))[j]'(by omega)=y at hb YS ly
   walk_at "rc"
   repeat (walk_at "rd")
   refine⟨by decide,λp1 ng=>⟨_,(aD ng _) _ _ hb,by rw[aQ];exact ku (by omega),λp2 H3 s3 _ hp2=>YS _ _ ((aD ng _).trans s3) ⟨p2,rfl,by rw[hp2,fK];rfl⟩⟩⟩
  ·obtain⟨cs,rfl,sc⟩:=BP rl
   rw[aQ,ls,xZ (l:=fV (x.take i)) (g:=(· ++ [m])) λk hk=>by rw[bP hk];rfl]at sc
   have hL2:=s2 _ _ hL
   repeat (first | walk_at "rd" | simp only[hL2,yV])
   have lc:=sc.1
   rw[aQ]at lc
   refine⟨ku (by omega),λp1 ng=>(dz _ _ _).mpr ⟨p1,_,bs++cs,rfl,(s1.trans s2).trans (aD ng _),by rw[ah,fK],?_⟩⟩
   rw[et,HQ]
   exact((sa.mono λb xs e=>s2 _ _ e).app sc).mono λb xs e=>(aD ng _) _ _ e
 ·obtain⟨L,z',bs,rfl,s1,hL,sa⟩:=(dz _ _ _).mp pv
  rw[aQ,iK]at sa
  repeat (walk_at "rd")
  refine⟨L,rfl,bs,_,hL,sa,?_,λD H2 cs ts s2 hD yV sc nd mem pw=>q D H2 cs ts (s1.trans s2) (s1.free hD) yV sc nd mem pw⟩
  rw[sa.1,o7]
  have:2 ^ x.length<=2 ^ 5:=Bd (by decide) lx
  omega
local macro_rules | `(tactic| walk_at "rd") => `(tactic| walk_at "rc")
local macro_rules | `(tactic| walk_at "rl") => `(tactic| first | (refine eN fun R hR => ?_) | walk_at "ry" | (refine Nx.to (by assumption) _ _ ?_))
def Kt(g:List (List Int)->List Int->Prop):Sp:=λvs H Q _=>∃L,vs=[.ref L]/\∃as ss,H L=some (.lst (List.map V.ref as))/\aI H as ss/\as.length<=63/\(∀x∈ss,fG x)/\
 ∀D H' bs ts,cp H H'->H D=none->H' D=some (.lst (List.map V.ref bs))->aI H' bs ts->(∀x,x∈ts↔x∈ss/\g ss x)->ts.Pairwise (λa b=>cu a b=true)->Q (.ref D) H'
theorem Se(T:Txt K mg t):cq P w K mg base eV 6 t.rM t.rE ["family"] (Kt λss x=>∀y∈ss,aF y x=true->y=x):=by
 have g6:=nX (P:=P) (w:=w) (base:=base) T
 have yr:=Cp (P:=P) (w:=w) (base:=base) T
 refine T.yv.xl nP (λvs H Q E h=>?_) (λcD A outer s H vs Q E hr h hc hf=>?_)
 ·obtain⟨L,rfl,_⟩:=h;rfl
 obtain⟨L,rfl,as,ss,hL,sat,W6,rise,q⟩:=h
 refine⟨_,(by apply aq;exact(aH hc nP.nd hf 1 (by decide +kernel) (dI ai));apply aq;exact(dG ie rfl (fT (aG g6 hr.mono (di hc) T.mh T.jC.kp T.mE .nil bj (ae (au hc 0) ai))) (pG hc nP.nd hf 2 (by decide +kernel)) (by exact az (cg (lP (du (aG yr hr.mono (di hc) T.xt T.oU.kp T.yf .nil bj (ae (au hc 2) (ae (au hc 1) ai))))) (by exact az (cJ (lQ nC sA sD eL (au hc 1) (ae (au hc 2) ai)))) bt)));exact az (aV (au hc 1))),?_⟩
 repeat (walk_at "rd")
 refine⟨by decide,λR hR=>?_⟩
 have sR:=aD hR (.lst [])
 refine⟨L,rfl,as,ss,sR _ _ hL,sat.mono λb xs e=>sR _ _ e,W6,λD H1 bs ts s1 hD vv st nd mem pw=>?_⟩
 have Pp:H1 R=some (.lst []):=s1 _ _ ah
 have lt:ts.length<=63:=by
  have:=eG nd λx hx=>(mem x).mp hx
  have:=sat.1
  omega
 have hRD:R≠D:=av ah hD
 repeat (walk_at "rd")
 refine⟨⟨_,bw vv⟩,?_⟩
 obtain⟨Pv,dz⟩:∃Pv:Nat->St->Hp->Prop,∀i σ' H',Pv i σ' H'↔∃(x:Option V) (cs:List Addr) (vs:List (List Int)),σ'=[some (.ref L),some (.ref R),x]/\H'=upd H1 R (.lst (List.map V.ref cs))/\aI H1 cs vs/\vs.length<=i/\jt ts []=jt (ts.drop i) vs:=⟨_,λ_ _ _=>dZ⟩
 refine iz (xs:=List.map V.ref bs) Pv ((dz _ _ _).mpr ⟨none,[],[],rfl,?_,⟨rfl,λi b t e=>by simp at e⟩,bB _,rfl⟩) (λi σ' H2 _ pv=>?_) (λi z σ' H2 hz pv=>?_) (λσ' H2 pv=>?_)
 ·funext b
  by_cases e:b=R
  ·rw[e,ah,Pp];rfl
  ·rw[aj e]
 ·obtain⟨_,_,_,_,rfl,_⟩:=(dz _ _ _).mp pv
  rw[aj hRD.symm];exact vv
 ·obtain⟨y,cs,vs,rfl,rfl,sv,lv,ef⟩:=(dz _ _ _).mp pv
  obtain⟨b,eb,rfl⟩:=jr hz
  have hi:i<bs.length:=(dO.mp eb).1
  have zV:i<ts.length:=by have:=st.1;omega
  have et:ts[i]?=some ts[i]:=bP zV
  have hb:=st.2 i b _ eb et
  have k1:∀o c xs,H1 c=some (.tup xs)->upd H1 R o c=some (.tup xs):=λo c xs e=>by rw[aj (aN e Pp (by intro z;cases z))];exact e
  rw[Hs zV]at ef
  have XH:jt ts []=jt (ts.drop (i+1)) (if vs.any (λt=>aF t ts[i]) then vs else vs++[ts[i]]):=ef
  repeat (walk_at "rd")
  refine⟨b,R,rfl,_,cs,vs,k1 _ _ _ hb,ah,sv.mono (k1 _),?_⟩
  repeat (walk_at "rd")
  by_cases c:vs.any (λt=>aF t ts[i])=true
  ·rw[aB (by rw[c];simp)]
   rw[aC c]at XH
   exact(dz _ _ _).mpr ⟨_,cs,vs,rfl,rfl,sv,by omega,XH⟩
  ·rw[aC (by rw[Bc c];rfl)]
   rw[aB c]at XH
   refine⟨.inl ⟨rfl,_,bw ah⟩,by rw[sv.1];exact BK (by omega),?_⟩
   exact(dz _ _ _).mpr ⟨_,cs++[b],vs++[ts[i]],rfl,by rw[fK];rfl,sv.snoc hb,by rw[cP];simp;omega,XH⟩
 ·obtain⟨y,cs,vs,rfl,rfl,sv,lv,ef⟩:=(dz _ _ _).mp pv
  have ln:(List.map V.ref bs).length=ts.length:=by rw[aQ,st.1]
  rw[ln,List.drop_length]at ef
  have ev:vs=jt ts []:=ef.symm
  repeat (walk_at "rd")
  have rt:∀x∈ts,fG x:=λx hx=>rise x ((mem x).mp hx)
  obtain⟨l,el,sl⟩:=q0 ts []
  rw[qu]at el
  have k1:∀o c xs,H1 c=some (.tup xs)->upd H1 R o c=some (.tup xs):=λo c xs e=>by rw[aj (aN e Pp (by intro z;cases z))];exact e
  refine q R _ cs vs (λc u e=>?_) hR ah (sv.mono (k1 _)) (λx=>?_) (by rw[ev,el];exact pw.sublist sl)
  ·rw[aj (av e hR)];exact s1 _ _ (sR _ _ e)
  ·rw[ev]
   have:=xD ts [] [] (by simpa using rt) (by simpa using pw) (λx=>by simp) x
   rw[qu]at this
   rw[this]
   constructor
   ·rintro⟨h1,h2⟩
    exact⟨(mem x).mp h1,λy hy=>h2 y ((mem y).mpr hy)⟩
   ·rintro⟨h1,h2⟩
    exact⟨(mem x).mpr h1,λy hy=>h2 y ((mem y).mp hy)⟩
theorem Ex(T:Txt K mg t):cq P w K mg base eV 6 t.kJ t.kI ["family"] (Kt λss x=>∀y∈ss,aF x y=true->y=x):=by
 have g6:=nX (P:=P) (w:=w) (base:=base) T
 have uQ:=Eu (P:=P) (w:=w) (base:=base) T
 refine T.ql.xl jq (λvs H Q E h=>?_) (λcD A outer s H vs Q E hr h hc hf=>?_)
 ·obtain⟨L,rfl,_⟩:=h;rfl
 obtain⟨L,rfl,as,ss,hL,sat,W6,rise,q⟩:=h
 refine⟨_,(by apply aq;exact(aH hc jq.nd hf 1 (by decide +kernel) (dI ai));apply aq;exact(dG ie rfl (Vl (di hc) T.lR (ae (aG g6 hr.mono (di hc) T.mh T.jC.kp T.mE .nil bj (ae (au hc 0) ai)) ai)) (pG hc jq.nd hf 2 (by decide +kernel)) (by exact az (cg (lP (du (aG uQ hr.mono (di hc) T.ux T.lL.kp T.uK .nil bj (ae (au hc 2) (ae (au hc 1) ai))))) (by exact az (cJ (lQ nC sA sD eL (au hc 1) (ae (au hc 2) ai)))) bt)));exact az (aV (aG g6 hr.mono (di hc) T.mh T.jC.kp T.mE .nil bj (ae (au hc 1) ai)))),?_⟩
 repeat (walk_at "rd")
 refine⟨by decide,λR hR=>?_⟩
 have sR:=aD hR (.lst [])
 refine⟨L,rfl,as,ss,sR _ _ hL,sat.mono λb xs e=>sR _ _ e,W6,λD H1 bs ts s1 hD vv st nd mem pw=>?_⟩
 have Pp:H1 R=some (.lst []):=s1 _ _ ah
 have lt:ts.length<=63:=by
  have:=eG nd λx hx=>(mem x).mp hx
  have:=sat.1
  omega
 have hRD:R≠D:=av ah hD
 have str:=st.rev
 repeat (walk_at "rd")
 refine⟨_,bw vv,?_⟩
 obtain⟨Pv,dz⟩:∃Pv:Nat->St->Hp->Prop,∀i σ' H',Pv i σ' H'↔∃(x:Option V) (cs:List Addr) (vs:List (List Int)),σ'=[some (.ref L),some (.ref R),x]/\H'=upd H1 R (.lst (List.map V.ref cs))/\aI H1 cs vs/\vs.length<=i/\ju ts.reverse []=ju (ts.reverse.drop i) vs:=⟨_,λ_ _ _=>dZ⟩
 refine JG (xs:=List.map V.ref bs) Pv ((dz _ _ _).mpr ⟨none,[],[],rfl,?_,⟨rfl,λi b t e=>by simp at e⟩,bB _,rfl⟩) (λi σ' H2 _ pv=>?_) (λi z σ' H2 hz pv=>?_) (λσ' H2 pv=>?_)
 ·funext b
  by_cases e:b=R
  ·rw[e,ah,Pp];rfl
  ·rw[aj e]
 ·obtain⟨_,_,_,_,rfl,_⟩:=(dz _ _ _).mp pv
  rw[aj hRD.symm];exact vv
 ·obtain⟨y,cs,vs,rfl,rfl,sv,lv,ef⟩:=(dz _ _ _).mp pv
  rw[<-wj]at hz
  obtain⟨b,eb,rfl⟩:=jr hz
  have hi:i<bs.reverse.length:=(dO.mp eb).1
  have zV:i<ts.reverse.length:=by have:=str.1;omega
  have hi3:i<63:=by rw[ui]at zV;omega
  have et:ts.reverse[i]?=some ts.reverse[i]:=bP zV
  have hb:=str.2 i b _ eb et
  have k1:∀o c xs,H1 c=some (.tup xs)->upd H1 R o c=some (.tup xs):=λo c xs e=>by rw[aj (aN e Pp (by intro z;cases z))];exact e
  rw[Hs zV]at ef
  have XH:ju ts.reverse []=ju (ts.reverse.drop (i+1)) (if vs.any (λt=>aF ts.reverse[i] t) then vs else vs++[ts.reverse[i]]):=ef
  repeat (walk_at "rd")
  refine⟨b,R,rfl,_,cs,vs,k1 _ _ _ hb,ah,sv.mono (k1 _),?_⟩
  repeat (walk_at "rd")
  by_cases c:vs.any (λt=>aF ts.reverse[i] t)=true
  ·rw[aB (by rw[c];simp)]
   rw[aC c]at XH
   exact(dz _ _ _).mpr ⟨_,cs,vs,rfl,rfl,sv,by omega,XH⟩
  ·rw[aC (by rw[Bc c];rfl)]
   rw[aB c]at XH
   refine⟨.inl ⟨rfl,_,bw ah⟩,by rw[sv.1];exact BK (by omega),?_⟩
   exact(dz _ _ _).mpr ⟨_,cs++[b],vs++[ts.reverse[i]],rfl,by rw[fK];rfl,sv.snoc hb,by rw[cP];simp;omega,XH⟩
 ·obtain⟨y,cs,vs,rfl,rfl,sv,lv,ef⟩:=(dz _ _ _).mp pv
  have ln:(List.map V.ref bs).length=ts.reverse.length:=by rw[aQ,st.1,ui]
  rw[ln,List.drop_length]at ef
  have ev:vs=ju ts.reverse []:=ef.symm
  repeat (walk_at "rd")
  have rt:∀x∈ts,fG x:=λx hx=>rise x ((mem x).mp hx)
  obtain⟨l,el,sl⟩:=rA ts.reverse []
  rw[qu]at el
  have k1:∀o c xs,H1 c=some (.tup xs)->upd H1 R o c=some (.tup xs):=λo c xs e=>by rw[aj (aN e Pp (by intro z;cases z))];exact e
  have mv:∀x,x∈vs↔x∈ts/\∀y∈ts,aF x y=true->y=x:=λx=>by
   rw[ev]
   have:=xU ts.reverse [] [] (by simpa using rt) (by rw[qu,List.pairwise_reverse];exact pw) (λx=>by simp) (λy hy=>by simp at hy) x
   rw[qu]at this
   simpa using this
  have lv2:vs.length<=ts.length:=by rw[ev,el];have:=sl.length_le;rwa [ui]at this
  have sH:cp H (upd H1 R (.lst (List.map V.ref cs))):=λc u e=>by rw[aj (av e hR)];exact s1 _ _ (sR _ _ e)
  refine⟨R,rfl,cs,vs,ah,sv.mono (k1 _),by rw[sv.1];omega,λD2 H3 bs2 ts2 s3 yV GZ Pj nd2 aFt pw2=>q D2 H3 bs2 ts2 (sH.trans s3) (sH.free yV) GZ Pj (λx=>?_) pw2⟩
  rw[aFt x,mv x]
  constructor
  ·rintro⟨h1,h2⟩
   exact⟨(mem x).mp h1,λy hy=>h2 y ((mem y).mpr hy)⟩
  ·rintro⟨h1,h2⟩
   exact⟨(mem x).mpr h1,λy hy=>h2 y ((mem y).mp hy)⟩
local macro_rules | `(tactic| walk_at "rd") => `(tactic| walk_at "rc")
local macro_rules | `(tactic| walk_at "rc") => do
  let ids := ("L2.start tSeq zk Nf D' tB Qq tUn DY tC wZ dR T2 Qp Qo Ec zq zp Nc ZM HJ wW Qs Qm Rb rI rU rEq rNe QT Ed ipI Rp V' aAb V8 V7 KD KJ KH Ci Ib vR Ic Ie Ce Rk xh KS aAg xf wU Ro aAf Ru aAe Wa aAc V9 tSl Ea sP aAa tBM Qu vQ BZ xg Cd Ca uv V2 ZK Qw tOr Qr Qv ZL Eb tIf List.map_cons List.map_nil List.cons_append List.nil_append List.append_nil List.length_cons List.length_nil List.replicate List.getElem?_cons_zero List.getElem?_cons_succ List.set_cons_zero List.set_cons_succ Nat.reduceAdd Nat.reduceSub Nat.reduceLeDiff Option.some.injEq V.int.injEq V.ref.injEq V.str.injEq V.bl.injEq V.ty.injEq List.cons.injEq HO.lst.injEq HO.tup.injEq HO.dK.injEq exists_eq_left exists_eq_left' exists_and_left and_true true_and and_assoc exists_const reduceCtorEq ah vO decide_eq_true_eq List.length_map ite_true ite_false Bool.false_eq_true Bool.true_and Bool.and_true GD Mp Ml Mj Uy Ux Jq Jp Jo Jm Jl Um Ul Uk Uj JW JV JT JS JN cE Option.join_some Option.join_none wX Br FW S7 S6 KQ wV wR KR Rv KN BX aAd uv Rl Cg pj FX S8 S5 Bq Ql Int.zero_add Int.reduceMul Int.reduceAdd Int.reduceSub Int.reduceLT Int.reduceLE Int.reducePow Int.reduceToNat Int.reduceNeg gt_iff_lt ge_iff_le BG hv".splitOn " ").toArray.map fun x => Lean.mkIdent x.toName
  `(tactic| simp only [$[$ids:ident],*])
theorem Lb(T:Txt K mg t):cq P w K mg base eV 1 t.oJ t.oy ["_law_hand_here"] BG:=by
 refine T.iE.xl BV (λvs H Q E h=>?_) (λcD A outer s H vs Q E hr h hc hf=>?_)
 ·obtain⟨h,rfl,_⟩:=h;rfl
 obtain⟨h,rfl,l,a,b,c,d,e,hh,q⟩:=h
 refine⟨_,(by apply aq;exact(jN (aZ gP (aZ qU (bq fW (au hc 0) ao (λ_ _=>rfl)) ao) ao) (jO (au hc 0) ao qa));apply aq;exact(jN (aZ gP (aZ qU (bq fW (au hc 0) ao (λ_ _=>rfl)) ao) ao) (jO (au hc 0) ao qa));exact az (aV (aZ gQ (bq fW (au hc 0) ao (λ_ _=>rfl)) (bq fW (au hc 0) ao (λ_ _=>rfl))))),?_⟩
 unfold hv at *
 walk_at "rd"
 simp only[hh]
 walk_at "rd"
 exact q
theorem WQ(T:Txt K mg t):cq P w K mg base eV 2 t.oH t.ou ["_law_hand_here"] ZQ:=by
 have iC:=Lb (P:=P) (w:=w) (base:=base) T
 refine T.vC.xl lX (λvs H Q E h=>?_) (λcD A outer s H vs Q E hr h hc hf=>?_)
 ·obtain⟨h,rfl,_⟩:=h;rfl
 obtain⟨h,rfl,l,ns,o,hh,⟨a,b,c,d,e,rfl,ha⟩,hl,q⟩:=h
 refine⟨_,(by apply aq;exact(aH hc lX.nd hf 1 (by decide +kernel) ao);apply gA;exact(cg (aY R5 (bq fW (au hc 0) ao (λ_ _=>rfl)) (cK pD (di hc) T.nH vA (ae (bq fW (au hc 0) ao (λ_ _=>rfl)) ai)) (cj _)) (by exact az (aH hc lX.nd hf 1 (by decide +kernel) (cK Us (di hc) T.Kl aDW (ae (bq fW (bq fW (au hc 0) ao (λ_ _=>rfl)) (bq fW (au hc 0) ao (λ_ _=>rfl)) (λ_ _=>rfl)) ai)))) bt);apply aq;exact(DP (au hc 0) ao Zh ao S4 qa);apply gA;exact(cg (aY aCo (au hc 1) (aZ Ck ao ao) (cj _)) (by exact az (jN (au hc 1) (jO (au hc 0) ao qa))) (by exact az (jN ao (jO (au hc 0) ao qa))));apply aq;exact(jN (aZ gQ (aZ gP (aZ gQ (bq fW (au hc 0) ao (λ_ _=>rfl)) (aZ gP (au hc 1) ao)) ao) ao) (jO (au hc 0) ao qa));apply aq;exact(jN (aZ gQ (aZ gP (aZ gQ (aZ qU (bq fW (au hc 0) ao (λ_ _=>rfl)) ao) (aZ gP (au hc 1) ao)) ao) ao) (jO (au hc 0) ao qa));apply aq;exact(cJ (aG iC hr.mono (di hc) T.j6 T.iE.kp T.j8 .nil bj (ae (au hc 0) ai)));exact az (cJ (aG iC hr.mono (di hc) T.j6 T.iE.kp T.j8 .nil bj (ae (au hc 0) ai)))),?_⟩
 unfold hv at *
 walk_at "rd"
 refine⟨λσ' H'=>∃z,σ'=[some (.ref h),some (.int z)]/\H'=H,?_,?_⟩
 ·repeat (first | walk_at "rd" | simp only[hh,hl])
  split
  ·rename_i jF
   obtain⟨v,Xa⟩:=Uw ha jF
   rw[Xa]
   walk_at "rd"
   exact⟨_,rfl⟩
  ·exact⟨_,rfl⟩
 ·rintro σ' H' ⟨z,e1,e2⟩
  subst e1 e2
  repeat (first | walk_at "rd" | simp only[hh,hl])
  refine⟨λσ' yq=>∃b' c',σ'=[some (.ref h),some (.int z)]/\yq=upd H' h (.lst [.ref l,.int (a+1),.int b',.int c',.int d,.int e]),?_,?_⟩
  ·repeat (first | walk_at "rd" | simp only[hh,hl])
   split
   ·exact⟨_,_,rfl⟩
   ·exact⟨_,_,rfl⟩
  ·rintro σ' yq ⟨b',c',e1,e2⟩
   subst e1 e2
   repeat (first | walk_at "rd" | simp only[hh,hl])
   exact q _ ⟨_,_,_,_,_,rfl,by omega⟩
theorem vU(T:Txt K mg t):cq P w K mg base eV 3 t.oM t.oA ["_law_hand_here","_law_many"] QH:=by
 have iC:=Lb (P:=P) (w:=w) (base:=base) T
 have GK:=WQ (P:=P) (w:=w) (base:=base) T
 refine T.bz.xl fC (λvs H Q E h=>?_) (λcD A outer s H vs Q E hr h hc hf=>?_)
 ·obtain⟨h,m,rfl,_⟩:=h;rfl
 obtain⟨h,m,rfl,hm,hm2,l,ns,o,hh,⟨a,b,c,d,e,rfl,ha⟩,hl,q⟩:=h
 refine⟨_,(by apply gA;exact(cg (pV (oX (aY js (bq fW (au hc 0) ao (λ_ _=>rfl)) ao (cj _)) (kK (aY js (bq fW (au hc 0) ao (λ_ _=>rfl)) ao (cj _))))) (by exact az (cJ (aG GK hr.mono (di hc) T.Fj T.vC.kp T.Gy .nil bj (ae (au hc 0) ai)))) bt);apply aq;exact(cg (aY K8 (bq fW (au hc 0) ao (λ_ _=>rfl)) ao (cj _)) (by apply aq;exact(aH hc fC.nd hf 2 (by decide +kernel) (aZ gP (bq fW (au hc 0) ao (λ_ _=>rfl)) (au hc 1)));apply aq;exact(jN (aZ R7 (bq fW (au hc 0) ao (λ_ _=>rfl)) (au hc 1)) (jO (au hc 0) ao qa));exact az (aV (au hc 2))) bt);apply aq;exact(DP (au hc 0) ao Zh ao aAY qa);apply aq;exact(aH hc fC.nd hf 3 (by decide +kernel) (aG iC hr.mono (di hc) T.j6 T.iE.kp T.j8 .nil bj (ae (au hc 0) ai)));apply aq;exact(aH hc fC.nd hf 4 (by decide +kernel) ao);apply aq;exact(zc ie (aY R5 (au hc 4) (au hc 1) (cj _)) (by apply aq;exact(aH hc fC.nd hf 3 (by decide +kernel) (aZ gQ (aZ qU (au hc 3) ao) (aG iC hr.mono (di hc) T.j6 T.iE.kp T.j8 .nil bj (ae (au hc 0) ai))));exact az (aH hc fC.nd hf 4 (by decide +kernel) (aZ qU (au hc 4) ao))));exact az (aV (aZ gP (au hc 3) (au hc 1)))),?_⟩
 unfold hv at *
 walk_at "rd"
 refine⟨λσ' H'=>∃a b c d e,σ'=[some (.ref h),some (.int m),none,none,none]/\H'=upd H h (hv l a b c d e)/\0<=a,?_,?_⟩
 ·have same:H=upd H h (hv l a b c d e):=by
   funext x;unfold upd;split
   ·rename_i e;rw[e,hh];rfl
   ·rfl
  repeat (first | walk_at "rd" | simp only[hh,hl])
  by_cases hb:b=0
  ·by_cases hc:c=0
   ·simp only[hb,hc,kh]
    repeat (first | walk_at "rd" | simp only[hh,hl])
    refine⟨h,rfl,l,ns,_,hh,⟨a,b,c,d,e,by rw[hb,hc];rfl,ha⟩,hl,?_⟩
    rintro o' ⟨a',b',c',d',e',rfl,Y7⟩
    exact⟨a',b',c',d',e',rfl,Y7⟩
   ·simp only[hb,hc,kh,iH,sg]
    exact⟨a,b,c,d,e,same,ha⟩
  ·simp only[hb,iH,sg]
   exact⟨a,b,c,d,e,same,ha⟩
 ·rintro σ' H' ⟨a,b,c,d,e,e1,e2,ha⟩
  subst e1 e2
  repeat (first | walk_at "rd" | simp only[hh,hl])
  split
  ·rename_i hb
   refine⟨by omega,⟨by omega,hm2⟩,q _ _ (Int.emod_nonneg _ (by omega)) (Int.emod_lt_of_pos _ (by omega)) ⟨_,_,_,_,_,rfl,ha⟩⟩
  ·rename_i hb
   obtain⟨W,hW⟩:∃W:Nat->St->Hp->Prop,∀μ σ' H',W μ σ' H'↔∃v z a b c d e:Int,μ=(m-z).toNat/\σ'=[some (.ref h),some (.int m),none,some (.int v),some (.int z)]/\H'=upd H h (hv l a b c d e)/\0<=a/\1<=z:=⟨_,λ_ _ _=>dZ⟩
   refine⟨W,⟨_,(hW _ _ _).mpr ⟨_,_,_,_,_,_,_,rfl,rfl,rfl,ha,by omega⟩⟩,?_⟩
   intro μ σ' H' hw'
   obtain⟨v,z,a,b,c,d,e,rfl,e1,e2,ha,hz⟩:=(hW _ _ _).mp hw'
   subst e1 e2
   walk_at "rd"
   split
   ·rename_i jF
    obtain⟨N,hN⟩:∃N:St->Hp->Prop,∀σ' H',N σ' H'↔∃v z' a b c d e:Int,σ'=[some (.ref h),some (.int m),none,some (.int v),some (.int z')]/\H'=upd H h (hv l a b c d e)/\0<=a/\z'=z*4294967296:=⟨_,λ_ _=>dZ⟩
    refine⟨N,λσ' H' hn=>?_,?_⟩
    ·obtain⟨v,z',a,b,c,d,e,e1,e2,ha,e3⟩:=(hN _ _).mp hn
     exact⟨(m-z').toNat,by omega,(hW _ _ _).mpr ⟨v,z',a,b,c,d,e,rfl,e1,e2,ha,by omega⟩⟩
    ·repeat (first | walk_at "rd" | simp only[hh,hl])
     exact(hN _ _).mpr ⟨_,_,_,_,_,_,_,rfl,rfl,ha,rfl⟩
   ·refine⟨by omega,q _ _ (Int.emod_nonneg _ (by omega)) (Int.emod_lt_of_pos _ (by omega)) ⟨_,_,_,_,_,rfl,ha⟩⟩
theorem WT(T:Txt K mg t):cq P w K mg base eV 1 t.oK t.oz ["_law_script"] (Z0 K):=by
 refine T.vD.xl BW (λvs H Q E h=>?_) (λcD A outer s H vs Q E hr h hc hf=>?_)
 ·obtain⟨a,ns,rfl,_⟩:=h;rfl
 obtain⟨a,ns,rfl,hS,q⟩:=h
 refine⟨_,(by exact az (aV (dI (ae (dh mC (di hc) T.qA Dj (ae (um Kw (au hc 0) DQ (sI ao)) ai)) (ae ao (ae ao (ae ao (ae ao (ae ao ai))))))))),?_⟩
 walk_at "rd"
 refine⟨a,List.map V.int ns,rfl,hS,λp hp=>?_⟩
 rw[Gn]
 walk_at "rd"
 refine λl hl=>⟨by decide,λh hh=>?_⟩
 have s1:=aD hp (.lst (List.map V.int ((ns.drop (HT.dB ns.length 0 none)).take (HT.dB ns.length ns.length (some 63)-HT.dB ns.length 0 none))))
 have s2:=aD hl (.lst (List.map V.int ((ns.drop (HT.dB ns.length 0 none)).take (HT.dB ns.length ns.length (some 63)-HT.dB ns.length 0 none))))
 have s3:=aD hh (hv l 0 0 0 20011 40009)
 exact q h _ (s1.trans (s2.trans s3)) ((s1.trans s2).free hh) ⟨l,_,_,ah,⟨_,_,_,_,_,rfl,Int.le_refl 0⟩,s3 _ _ ah⟩
local macro_rules | `(tactic| walk_at "rd") => `(tactic| walk_at "rc")
local macro_rules | `(tactic| walk_at "rl") => `(tactic| first | (refine eN fun R hR => ?_) | walk_at "ry" | (refine Nx.to (by assumption) _ _ ?_))
def QC:Sp:=λvs H Q _=>∃a b,vs=[.ref a,.ref b]/\∃x y:List Int,H a=some (.tup (List.map V.int x))/\H b=some (.tup (List.map V.int y))/\x.length<=900/\∀H',cp H H'->Q (.bl (aF x y)) H'
theorem NQ(T:Txt K mg t):Vj P w K mg base 1 t.gY t.gT ["_law_one","_law_other"] QC:=by
 refine T.g8.okH sY (λvs H Q E h=>?_) (λcD A outer s H vs Q E hr _ h hc hf=>?_)
 ·obtain⟨a,b,rfl,_⟩:=h;rfl
 obtain⟨a,b,rfl,x,y,ha,hb,lx,q⟩:=h
 refine⟨_,(by exact az (aV (cK (O6 rfl) (di hc) T.Kk aDV (ae (eJ hc ["_law_member"] [1] rfl (by decide +kernel) (dH (au hc 0)) (λ_ hc=>sJ hc (by decide +kernel) 0 (by decide +kernel)) (λ_ _=>gi) (λ_ hc=>(sM R6 (au hc 0) (au hc 1) (by with_unfolding_all rfl)))) ai)))),?_⟩
 walk_at "r"
 refine⟨⟨_,bH ha⟩,?_⟩
 refine je (zs:=List.map V.int x) (λj=>x[j]?.map λm=>V.bl (decide (m∈y))) (λ_=>Ye) (λ_ _ _ _ _ _ r=>r) (λ_ _ _ _ _ _ _ r=>r) ha (by rw[aQ];omega) (λDD c H4 j z yes no hj s4 Ve Vd fq yA=>?_) (λD H4 vs s4 hD vt rl=>?_)
 ·obtain⟨m,em,rfl⟩:=int_at hj
  rw[em]at fq
  walk_at "rc"
  walk_at "r"
  refine⟨_,s4 _ _ hb,rfl,pA _,?_⟩
  rw[tL]
  exact fq _ rfl _ _ (λ_ _ e=>e) rfl
 have ev:=Bo rl
 rw[aQ,xZ (l:=x) (g:=λm=>V.bl (decide (m∈y))) λk hk=>by rw[bP hk];rfl]at ev
 subst ev
 refine⟨D,rfl,x.map λm=>decide (m∈y),by rw[vt,iI];rfl,?_⟩
 rw[List.all_map]
 exact q _ s4
def Nm:Sp:=λvs H Q _=>∃h most,vs=[.ref h,.int most]/\∃n:Nat,most=(n:Int)/\n<=12/\fS H h/\∀R ms H',Dr h H H'->H R=none->H' R=some (.tup (List.map V.int ms))->ms.length<=n->fG ms->Q (.ref R) H'
theorem DX{r a b c:Int}(r0:0<=r)(r1:r<3):∃z,yg [V.int a,V.int b,V.int c] r=some (.int z)/\(z=a\/z=b\/z=c):=by
 have h:r=0\/r=1\/r=2:=by omega
 rcases h with rfl | rfl | rfl
 ·exact⟨a,rfl,.inl rfl⟩
 ·exact⟨b,rfl,.inr (.inl rfl)⟩
 ·exact⟨c,rfl,.inr (.inr rfl)⟩
theorem Io(T:Txt K mg t):cq P w K mg base eV 4 t.jA t.jw ["_law_hand_here","_law_most"] Nm:=by
 have bh:=vU (P:=P) (w:=w) (base:=base) T
 refine T.jD.xl cL (λvs H Q E h=>?_) (λcD A outer s H vs Q E hr h hc hf=>?_)
 ·obtain⟨h,m,rfl,_⟩:=h;rfl
 obtain⟨h,_,rfl,n,rfl,hn,hd,q⟩:=h
 refine⟨_,(by apply aq;exact(aH hc cL.nd hf 2 (by decide +kernel) (bq fW (dI (ae ao (ae (aZ Ck ao ao) (ae (aZ Ck ao ao) ai)))) (aG bh hr.mono (di hc) T.bE T.bz.kp T.bF .nil bj (ae (au hc 0) (ae ao ai))) (λ_ _=>rfl)));apply aq;exact(aH hc cL.nd hf 3 (by decide +kernel) (bq fW (dI (ae ao (ae ao (ae (aZ Ck ao ao) ai)))) (aG bh hr.mono (di hc) T.bE T.bz.kp T.bF .nil bj (ae (au hc 0) (ae ao ai))) (λ_ _=>rfl)));apply aq;exact(aH hc cL.nd hf 4 (by decide +kernel) (aZ Il (aG bh hr.mono (di hc) T.bE T.bz.kp T.bF .nil bj (ae (au hc 0) (ae (aZ gQ (aZ qU ao (au hc 2)) ao) ai))) (au hc 2)));apply aq;exact(aH hc cL.nd hf 5 (by decide +kernel) (dI ai));apply aq;exact(dG ie rfl (qz (di hc) T.oZ (ae (aG bh hr.mono (di hc) T.bE T.bz.kp T.bF .nil bj (ae (au hc 0) (ae (aZ gQ (au hc 1) ao) ai))) ai)) (pG hc cL.nd hf 6 (by decide +kernel)) (by apply aq;exact(cJ (lQ nC sA sD eL (au hc 5) (ae (au hc 4) ai)));exact az (P1 hc cL.nd hf 4 (by decide +kernel) (aZ gQ ao (aG bh hr.mono (di hc) T.bE T.bz.kp T.bF .nil bj (ae (au hc 0) (ae (au hc 3) ai)))) S4)));exact az (aV (dh gy (di hc) T.iT pE (ae (au hc 5) ai)))),?_⟩
 repeat (walk_at "rd")
 refine⟨⟨by decide,by decide,by decide⟩,⟨by decide,by decide,by decide⟩,by decide,λp hp=>?_⟩
 have d0:=(Dr.refl (h:=h) (H:=H)).new (o:=.lst [V.int 3,V.int 1000000,V.int 1000000000000000000000000000000000000000000000000000000000000]) hp
 have hph:p≠h:=hd.ne hp
 refine dA hd d0 (by decide) (by decide) λr H1 r0 r1 d1 k1=>?_
 obtain⟨z,ez,hz⟩:=DX (a:=3) (b:=1000000) (c:=1000000000000000000000000000000000000000000000000000000000000) r0 r1
 refine⟨_,rfl,_,by rw[k1 p hph];exact ah,_,ez,⟨by decide,by decide,by decide⟩,by decide,λp2 hp2=>?_⟩
 have d2:=d1.new (o:=.lst [V.int 1,V.int 5,V.int 1000000000]) hp2
 have aFX:p2≠h:=(d1.eR hd).ne hp2
 refine dA hd d2 (by decide) (by decide) λr' H2 r0' r1' d3 k3=>?_
 obtain⟨st,es,hs⟩:=DX (a:=1) (b:=5) (c:=1000000000) r0' r1'
 have hz1:1<=z/\z<=1000000000000000000000000000000000000000000000000000000000000:=by omega
 have hs1:1<=st/\st<=1000000000:=by omega
 refine⟨_,rfl,_,by rw[k3 p2 aFX];exact ah,_,es,?_⟩
 repeat (walk_at "rd")
 refine⟨.inl (by decide),dA hd d3 (by omega) (by omega) λjf H3 a0 a1 d4 k4=>⟨_,rfl,by decide,λR hR3=>?_⟩⟩
 have hR:H R=none:=d4.free hd hR3
 have hRh:R≠h:=hd.ne hR
 refine dA hd (d4.new hR3) (by omega) (by omega) λnn H4 n0 n1 d5 k5=>?_
 have hR4:H4 R=some (.lst []):=(k5 R hRh).trans ah
 obtain⟨m,rfl⟩:∃m:Nat,nn=(m:Int):=⟨nn.toNat,by omega⟩
 refine⟨_,rfl,by omega,by omega,?_⟩
 obtain⟨Pv,dz⟩:∃Pv:Nat->St->Hp->Prop,∀i σ' H',Pv i σ' H'↔∃(v:Int) (y:Option V) (ms:List Int),σ'=[some (.ref h),some (.int (n:Int)),some (.int z),some (.int st),some (.int v),some (.ref R),y]/\Dr h H H'/\H' R=some (.lst (List.map V.int ms))/\ms.length=i/\fG ms/\∀m∈ms,m<v:=⟨_,λ_ _ _=>dZ⟩
 refine xX Pv ((dz _ _ _).mpr ⟨_,none,[],rfl,d5,hR4,rfl,List.Pairwise.nil,λk hk=>by cases hk⟩) (λi σ' H4 hi pv=>?_) (λσ' H4 pv=>?_)
 ·obtain⟨v,y,ms,rfl,d5,hR5,lm,rise,below⟩:=(dz _ _ _).mp pv
  rw[pR]at hi
  repeat (first | walk_at "rd" | simp only[hR5])
  refine⟨.inl ⟨rfl,_,bw hR5⟩,cz (by omega),?_⟩
  simp only[Vu,ipI]
  repeat (walk_at "rd")
  refine dA hd (d5.put hR) (by omega) (by omega) λr H6 r0 r1 d6 k6=>?_
  refine⟨_,rfl,(dz _ _ _).mpr ⟨_,_,ms++[v],rfl,d6,by rw[k6 R hRh,ah,fK];rfl,by rw[cP];simp;omega,?_,λm hm=>?_⟩⟩
  ·unfold fG
   rw[uk]
   exact⟨rise,by simp,λa ha b hb=>by rw[show b=v by simpa using hb];exact below a ha⟩
  ·rcases dq.mp hm with u | u
   ·have:=below m u;omega
   ·have:m=v:=by simpa using u
    omega
 ·obtain⟨v,y,ms,rfl,d5,hR5,lm,rise,below⟩:=(dz _ _ _).mp pv
  rw[pR]at lm
  repeat (first | walk_at "rd" | simp only[hR5])
  exact λp hp=>q p ms _ (d5.new hp) (d5.free hd hp) ah (by omega) rise
def ZR:Sp:=λvs H Q _=>∃h W,vs=[.ref h,.ref W]/\fS H h/\∃x:List Int,H W=some (.tup (List.map V.int x))/\x.length<=100/\∀R y H',Dr h H H'->H R=none->H' R=some (.tup (List.map V.int y))->y.Sublist x->Q (.ref R) H'
theorem K9(T:Txt K mg t):cq P w K mg base eV 4 t.oI t.ow ["_law_hand_here","_law_whole"] ZR:=by
 have bh:=vU (P:=P) (w:=w) (base:=base) T
 refine T.kf.xl BR (λvs H Q E h=>?_) (λcD A outer s H vs Q E hr h hc hf=>?_)
 ·obtain⟨h,m,rfl,_⟩:=h;rfl
 obtain⟨h,W,rfl,hd,x,hW,lx,q⟩:=h
 have Y9:=hd.fP hW
 refine⟨_,(by exact az (aV (dh gy (di hc) T.iT pE (ae (eJ hc ["_law_one"] [0] rfl (by decide +kernel) (dH (au hc 1)) (λ_ hc=>sJ hc (by decide +kernel) 0 (by decide +kernel)) (λ_ hc=>ja (aY js (aG bh hr.mono (di hc) T.bE T.bz.kp T.bF .nil bj (ae (au hc 1) (ae ao ai))) ao (cj _))) (λ_ hc=>(au hc 0))) ai)))),?_⟩
 repeat (walk_at "rd")
 refine⟨⟨_,bH hW⟩,?_⟩
 obtain⟨Pc,pJ⟩:∃Pc:Addr->Nat->List V->Hp->Prop,∀Z i ys H',Pc Z i ys H'↔∃y:List Int,ys=List.map V.int y/\Dr h H H'/\H' Z=some (.lst ys)/\y.Sublist (x.take i):=⟨_,λ_ _ _ _=>dZ⟩
 refine oB (zs:=List.map V.int x) Pc (λZ hZ=>(pJ _ _ _ _).mpr ⟨[],rfl,Dr.refl.new hZ,ah,List.nil_sublist _⟩) (λZ hZ i ys H' _ pv=>?_) (λZ hZ i z ys H' hz pv cb=>?_) (λZ hZ ys H' pv=>?_)
 ·obtain⟨_,_,d,_⟩:=(pJ _ _ _ _).mp pv
  exact d.keep _ _ Y9 hW
 ·obtain⟨y,rfl,d1,xR,sl⟩:=(pJ _ _ _ _).mp pv
  obtain⟨m,em,rfl⟩:=int_at hz
  have Y8:Z≠h:=hd.ne hZ
  have ly:=sl.length_le
  rw[jL]at ly
  walk_at "rc"
  repeat (walk_at "rd")
  refine dA hd d1 (by decide) (by decide) λr H2 r0 r1 d2 k2=>?_
  have hZ2:H2 Z=_:=(k2 Z Y8).trans xR
  have tk:x.take (i+1)=x.take i++[m]:=by rw[jj,em];rfl
  by_cases e:r=1
  ·subst e
   refine⟨rfl,?_⟩
   rw[aC rfl]
   refine⟨hZ2,cz (by omega),(pJ _ _ _ _).mpr ⟨y++[m],by rw[fK];rfl,d2.put hZ,ah,?_⟩⟩
   rw[tk];exact sl.append (qw _)
  ·refine⟨rfl,?_⟩
   rw[aB (by simpa using e)]
   refine(pJ _ _ _ _).mpr ⟨y,rfl,d2,hZ2,?_⟩
   rw[tk];exact sl.trans (List.sublist_append_left _ _)
 ·obtain⟨y,rfl,d1,xR,sl⟩:=(pJ _ _ _ _).mp pv
  rw[aQ,iK]at sl
  repeat (first | walk_at "rd" | simp only[xR])
  exact λp hp=>q p y _ (d1.new hp) (d1.free hd hp) ah sl
local macro_rules | `(tactic| walk_at "rd") => `(tactic| walk_at "rc")
local macro_rules | `(tactic| walk_at "rl") => `(tactic| first | (refine eN fun R hR => ?_) | walk_at "ry" | (refine Nx.to (by assumption) _ _ ?_))
def zZ(ks:List Int)(g:Int->V):List (Key×V):=ks.map λz=>(Sum.inl z,g z)
theorem CZ(ks:List Int)(g:Int->V)(m:Int):fU (zZ ks g) (Sum.inl m)=if m∈ks then some (g m) else none:=by
 induction ks with
 | nil=>rfl
 | cons k ks ih=>
  by_cases e:k=m
  ·subst e
   rw[aC dD]
   exact eD (p:=((Sum.inl k:Key),g k)) rfl
  ·have e2:fU (zZ (k::ks) g) (Sum.inl m)=fU (zZ ks g) (Sum.inl m):=eF (p:=((Sum.inl k:Key),g k)) (λz=>e (t5 z))
   rw[e2,ih]
   by_cases hm:m∈ks
   ·rw[aC hm,aC (dW _ hm)]
   ·rw[aB hm,aB (λz=>(bT.mp z).elim (λz=>e z.symm) hm)]
theorem aBQ{ks:List Int}{g g':Int->V}(h:∀z∈ks,g z=g' z):zZ ks g=zZ ks g':=v3 λz hz=>by rw[h z hz]
theorem XJ{ks:List Int}(g:Int->V){m:Int}(v:V)(h:m∈ks):putK (zZ ks g) (Sum.inl m) v=zZ ks (λz=>if z=m then v else g z):=by
 unfold putK
 rw[aC (by rw[kM,CZ,aC h];rfl)]
 unfold zZ
 rw[iI]
 refine v3 λz _=>?_
 by_cases e:z=m
 ·simp[e]
 ·simp[e]
theorem XM{ks:List Int}(g:Int->V){m:Int}(v:V)(h:m∉ks):putK (zZ ks g) (Sum.inl m) v=zZ (ks++[m]) (λz=>if z=m then v else g z):=by
 rw[Rw v (by rw[CZ,aB h])]
 unfold zZ
 rw[fK]
 refine congr (fZ _ (v3 λz hz=>?_)) ?_
 ·dsimp only
  rw[aB (show ¬z=m from λe=>h (by rw[<-e];exact hz))]
 ·simp
theorem aDy(ks:List Int)(g:Int->V):(zZ ks g).map (λkv=>kV kv.1)=ks.map V.int:=by
 unfold zZ
 rw[iI]
 rfl
theorem Lz(ks:List Int)(g:Int->V):(zZ ks g).length=ks.length:=aQ _
theorem tK{H:Hp}{vs:List V}{ds:List Int}(r:oO (λ(_:Hp) (v:V) (d:Int)=>v=V.int d) H vs ds):vs=List.map V.int ds:=by
 apply List.ext_getElem (by rw[aQ];exact r.1)
 intro i h1 h2
 rw[aQ]at h2
 rw[List.getElem_map]
 exact r.2 i _ _ (bP h1) (bP h2)
theorem Uh(xs:List V)(lo hi:Option Int):(jG xs lo hi).length<=xs.length:=by
 unfold jG
 rw[jL,wg]
 omega
inductive Md where
 | wt (g:Int->Int) (most:Int) | W' (ss:List (List Int)) | out (ss:List (List Int))
def jI(H:Hp)(p:Addr)(W:List Int):Md->Prop
 | .wt g most=>∃d ks,H p=some (.tup [.int 2,.ref d,.int most])/\H d=some (.dK (zZ ks λz=>.int (g z)))/\(∀m∈W,m∈ks)/\∀z,0<=g z
 | .W' ss=>∃l bs,H p=some (.tup [.int 0,.ref l,.int 0])/\H l=some (.lst (List.map V.ref bs))/\aI H bs ss/\ss.length<=900/\∀s∈ss,s.length<=100
 | .out ss=>∃l bs,H p=some (.tup [.int 1,.ref l,.int 0])/\H l=some (.lst (List.map V.ref bs))/\aI H bs ss/\ss.length<=900/\∀s∈ss,s.length<=100
theorem jI.same{H H':Hp}{p:Addr}{W:List Int}{md:Md}(s:cp H H')(m:jI H p W md):jI H' p W md:=by
 cases md with
 | wt g most=>obtain⟨d,ks,h1,h2,h3⟩:=m;exact⟨d,ks,s _ _ h1,s _ _ h2,h3⟩
 | W' ss=>obtain⟨l,bs,h1,h2,h3,h4⟩:=m;exact⟨l,bs,s _ _ h1,s _ _ h2,h3.mono λ_ _ e=>s _ _ e,h4⟩
 | out ss=>obtain⟨l,bs,h1,h2,h3,h4⟩:=m;exact⟨l,bs,s _ _ h1,s _ _ h2,h3.mono λ_ _ e=>s _ _ e,h4⟩
def Md.tells:Md->List Int->Bool
 | .wt g most,S=>decide ((S.map g).sum<=most)
 | .W' ss,S=>ss.any λs=>aF S s
 | .out ss,S=>!(ss.any λs=>aF s S)
def VD:Sp:=λvs H Q _=>∃h W,vs=[.ref h,.ref W]/\fS H h/\∃x:List Int,H W=some (.tup (List.map V.int x))/\x.length<=12/\x.Nodup/\∀R md H',Dr h H H'->H R=none->jI H' R x md->Q (.ref R) H'
theorem Sb(T:Txt K mg t):cq P w K mg base eV 5 t.mH t.mz ["_law_hand_here","_law_whole"] VD:=by
 have bh:=vU (P:=P) (w:=w) (base:=base) T
 have ke:=K9 (P:=P) (w:=w) (base:=base) T
 refine T.mK.xl cI (λvs H Q E h=>?_) (λcD A outer s H vs Q E hr h hc hf=>?_)
 ·obtain⟨h,m,rfl,_⟩:=h;rfl
 obtain⟨h,W,rfl,hd,x,hW,lx,nd,q⟩:=h
 have hu:=qd hr
 have U6:=hr.jn
 have Y9:=hd.fP hW
 refine⟨_,(by apply aq;exact(aH hc cI.nd hf 2 (by decide +kernel) (aG bh hr.mono (di hc) T.bE T.bz.kp T.bF .nil bj (ae (au hc 0) (ae ao ai))));apply aq;exact(cg (aY js (au hc 2) ao (cj _)) (by apply aq;exact(aH hc cI.nd hf 3 (by decide +kernel) MK);apply aq;exact(aH hc cI.nd hf 4 (by decide +kernel) (sM js (aG bh hr.mono (di hc) T.bE T.bz.kp T.bF .nil bj (ae (au hc 0) (ae ao ai))) ao (cj _)));apply aq;exact(dG ie rfl (dH (au hc 1)) (pG hc cI.nd hf 5 (by decide +kernel)) (by apply aq;exact(sG hu (au hc 3) (au hc 5) ao rfl);exact az (cg (lP (du (au hc 4))) (by exact az (sG hu (au hc 3) (au hc 5) (aG bh hr.mono (di hc) T.bE T.bz.kp T.bF .nil bj (ae (au hc 0) (ae ao ai))) rfl)) bt)));exact az (aV (fA (ae ao (ae (au hc 3) (ae (aZ Il (aG bh hr.mono (di hc) T.bE T.bz.kp T.bF .nil bj (ae (au hc 0) (ae (aZ gQ (aZ qU ao (cK pC (di hc) T.nH vA (ae (au hc 1) ai))) ao) ai))) ao) ai)))))) bt);apply aq;exact(aH hc cI.nd hf 6 (by decide +kernel) (bq fW (dI (ae ao (ae ao (ae ao (ae ao ai))))) (aG bh hr.mono (di hc) T.bE T.bz.kp T.bF .nil bj (ae (au hc 0) (ae ao ai))) (λ_ _=>rfl)));apply aq;exact(oY hc cI.nd 7 (by decide +kernel) ["_law_k"] [0,1] rfl (by decide +kernel) (qz (di hc) T.oZ (ae (aG bh hr.mono (di hc) T.bE T.bz.kp T.bF .nil bj (ae (au hc 0) (ae (au hc 6) ai))) ai)) (λ_ hc=>sJ hc (by decide +kernel) 0 (by decide +kernel)) (λ_ _=>gi) (λ_ hc=>(aG ke hr.mono (di hc) T.oi T.kf.kp T.oF .nil bj (ae (au hc 1) (ae (au hc 2) ai)))) (by rfl));apply gA;exact(cg (pV (oX (aY K8 (cK pC (di hc) T.nH vA (ae (au hc 1) ai)) ao (cj _)) (kK (aY js (aG bh hr.mono (di hc) T.bE T.bz.kp T.bF .nil bj (ae (au hc 0) (ae ao ai))) ao (cj _))))) (by apply aq;exact(aH hc cI.nd hf 8 (by decide +kernel) (aG bh hr.mono (di hc) T.bE T.bz.kp T.bF .nil bj (ae (au hc 0) (ae (cK pC (di hc) T.nH vA (ae (au hc 1) ai)) ai))));exact az (aH hc cI.nd hf 7 (by decide +kernel) (aZ R8 (au hc 7) (um aEd (dI (ae (dh gy (di hc) T.iT pE (ae (eJ hc ["_law_one"] [1,8] rfl (by decide +kernel) (dH (au hc 1)) (λ_ hc=>sJ hc (by decide +kernel) 0 (by decide +kernel)) (λ_ hc=>ja (aY YF (au hc 0) (bq xH (au hc 1) (au hc 2) (λ_ _=>rfl)) (cj _))) (λ_ hc=>(au hc 0))) ai)) (ae (um aB7 (au hc 1) (sI (au hc 8)) (sI (aZ gQ (au hc 8) ao))) ai))) DQ (sI (aZ gQ ao (aG bh hr.mono (di hc) T.bE T.bz.kp T.bF .nil bj (ae (au hc 0) (ae ao ai))))))))) bt);exact az (aV (fA (ae (au hc 2) (ae (au hc 7) (ae ao ai)))))),?_⟩
 walk_at "r"
 refine dA hd .refl (by decide) (by decide) λway H1 w0 w1 d1 k1=>?_
 have hW1:=d1.keep _ _ Y9 hW
 walk_at "r"
 by_cases e2:way=2
 ·subst e2
  walk_at "r"
  intro D hD
  have hD0:H D=none:=d1.free hd hD
  have hDh:D≠h:=hd.ne hD0
  have d2:Dr h H (upd H1 D (.dK [])):=d1.new hD
  have yV:upd H1 D (.dK []) D=some (.dK []):=ah
  generalize upd H1 D (.dK [])=H2 at d2 yV ⊢
  walk_at "r"
  refine dA hd d2 (by decide) (by decide) λal H3 a0 a1 d3 k3=>?_
  have GZ:=(k3 D hDh).trans yV
  walk_at "r"
  have hW3:=d3.keep _ _ Y9 hW
  generalize decide (al=1)=ab
  refine⟨⟨_,bH hW3⟩,?_⟩
  obtain⟨Pv,dz⟩:∃Pv:Nat->St->Hp->Prop,∀i σ' H',Pv i σ' H'↔∃(y:Option V) (g:Int->Int),σ'=[some (.ref h),some (.ref W),some (.int 2),some (.ref D),some (.bl ab),y,none,none,none]/\Dr h H H'/\H' D=some (.dK (zZ (x.take i) λz=>.int (g z)))/\∀z,0<=g z:=⟨_,λ_ _ _=>dZ⟩
  refine ft (xs:=List.map V.int x) Pv ((dz _ _ _).mpr ⟨none,λ_=>0,rfl,d3,GZ,λ_=>Int.le_refl _⟩) (λi σ' H' _ pv=>?_) (λi z σ' H4 hz pv=>?_) (λσ' H4 pv=>?_)
  ·obtain⟨_,_,_,d,_⟩:=(dz _ _ _).mp pv
   exact d.keep _ _ Y9 hW
  ·obtain⟨y,g,rfl,d4,vt,g0⟩:=(dz _ _ _).mp pv
   obtain⟨m,em,rfl⟩:=int_at hz
   have hi:i<x.length:=(dO.mp em).1
   have tk:x.take (i+1)=x.take i++[m]:=by rw[jj,em];rfl
   have nm:m∉x.take i:=λhm=>by
    obtain⟨j,hj,e⟩:=List.mem_take_iff_getElem.mp hm
    have:=(Au nd).mp (e.trans (dO.mp em).2.symm)
    omega
   repeat (first | walk_at "rl" | simp only[xc])
   refine⟨_,yx.k (k:=Sum.inl m) vt (cz (by rw[Lz,jL];omega)),?_⟩
   rw[XM _ _ nm,<-tk]
   have d5:Dr h H (upd H4 D (.dK (zZ (x.take (i+1)) λz=>if z=m then V.int 1 else .int (g z)))):=d4.put hD0
   have eg:(λz=>if z=m then V.int 1 else .int (g z))=λz=>V.int (if z=m then 1 else g z):=funext λz=>by split <;> rfl
   have Pr:upd H4 D (.dK (zZ (x.take (i+1)) λz=>if z=m then V.int 1 else .int (g z))) D=some (.dK (zZ (x.take (i+1)) λz=>.int (if z=m then 1 else g z))):=by rw[ah,eg]
   generalize upd H4 D (.dK (zZ (x.take (i+1)) λz=>if z=m then V.int 1 else .int (g z)))=H5 at d5 Pr ⊢
   walk_at "r"
   cases ab with
   | true=>
    rw[aB (by decide)]
    exact(dz _ _ _).mpr ⟨_,_,rfl,d5,Pr,λz=>by split <;> first | decide | exact g0 z⟩
   | false=>
    rw[aC (by decide)]
    simp only[xc]
    walk_at "r"
    refine dA hd d5 (by decide) (by decide) λv H6 v0 v1 d6 k6=>?_
    have Vf:=(k6 D hDh).trans Pr
    refine⟨_,yx.k (k:=Sum.inl m) Vf (cz (by rw[Lz,jL];omega)),?_⟩
    rw[XJ _ _ (by rw[tk];simp)]
    have eg2:(λz=>if z=m then V.int v else .int (if z=m then 1 else g z))=λz=>V.int (if z=m then v else if z=m then 1 else g z):=funext λz=>by split <;> rfl
    exact(dz _ _ _).mpr ⟨_,_,rfl,d6.put hD0,by rw[ah,eg2],λz=>by by_cases e:z=m <;> simp only[e,kh,iH] <;> first | exact v0 | exact g0 z⟩
  obtain⟨y,g,rfl,d4,vt,g0⟩:=(dz _ _ _).mp pv
  rw[aQ,iK]at vt
  have hW4:=d4.keep _ _ Y9 hW
  repeat (first | walk_at "rl" | simp only[hW4])
  refine dA hd d4 (by omega) (by omega) λv H5 v0 v1 d5 k5=>⟨_,rfl,by decide,λp hp=>?_⟩
  have Pr:=(k5 D hDh).trans vt
  exact q p (.wt g (v-1)) _ (d5.new hp) (d5.free hd hp) ⟨D,x,ah,by rw[aj (av Pr hp)];exact Pr,λm hm=>hm,g0⟩
 ·rw[aB (by simpa using e2)]
  walk_at "r"
  refine⟨by decide,λp hp=>?_⟩
  have d2:Dr h H (upd H1 p (.lst [V.int 6,V.int 6,V.int 6,V.int 21])):=d1.new hp
  have hph:p≠h:=(d1.eR hd).ne hp
  refine dA hd d2 (by decide) (by decide) λr H2 r0 r1 d3 k3=>?_
  obtain⟨z,ez,hz⟩:=Xz (a:=6) (b:=6) (c:=6) (d:=21) r0 r1
  refine⟨_,rfl,_,by rw[k3 p hph];exact ah,_,ez,?_⟩
  have hz1:6<=z/\z<=21:=by omega
  clear d2 k3 hz ez
  walk_at "r"
  refine dA hd d3 (by omega) (by omega) λnn H4 n0 n1 d4 k4=>?_
  obtain⟨n,rfl⟩:∃n:Nat,nn=(n:Int):=⟨nn.toNat,by omega⟩
  walk_at "r"
  refine⟨by omega,by omega,?_⟩
  obtain⟨Pc,pJ⟩:∃Pc:Addr->Nat->List V->Hp->Prop,∀Z i ys H',Pc Z i ys H'↔∃bs ss,ys=List.map V.ref bs/\Dr h H H'/\H' Z=some (.lst ys)/\aI H' bs ss/\ss.length=i/\∀s∈ss,s.length<=100:=⟨_,λ_ _ _ _=>dZ⟩
  refine Gr Pc (λZ hZ=>(pJ _ _ _ _).mpr ⟨[],[],rfl,d4.new hZ,ah,⟨rfl,λ_ _ _ z=>by cases z⟩,rfl,λ_ z=>(nomatch z)⟩) (λZ hZ i ys H' hi pv cb=>?_) (λZ hZ ys H' pv=>?_)
  ·obtain⟨bs,ss,rfl,d5,hZ5,sb,ls,Fo⟩:=(pJ _ _ _ _).mp pv
   have hZ0:=d4.free hd hZ
   have Y8:Z≠h:=hd.ne hZ0
   walk_at "rc"
   walk_at "r"
   refine⟨h,W,rfl,d5.eR hd,x,d5.keep _ _ Y9 hW,by omega,λR y H6 d6 hR hR6 sl=>?_⟩
   have Oj:=d5.eR hd
   have hZ6:=d6.keep _ _ Y8 hZ5
   have sb6:=Dr.sets Oj d6 sb
   have lb:=sb.1
   rw[pR]at hi
   refine⟨hZ6,cz (by omega),(pJ _ _ _ _).mpr ⟨bs++[R],ss++[y],by rw[fK];rfl,(d5.trans d6).put hZ0,ah,?_,by rw[cP,ls];rfl,λs hs=>?_⟩⟩
   ·have s1:aI H6 [R] [y]:=⟨rfl,λj c u h1 h2=>by
     match j,h1,h2 with
     | 0,h1,h2=>cases h1;cases h2;exact hR6
     | _+1,h1,_=>cases h1⟩
    exact(sb6.app s1).mono λc xs e=>by rw[aj (aN e hZ6 (by intro z;cases z))];exact e
   ·rcases dq.mp hs with z | z
    ·exact Fo s z
    ·rw[df.mp z];have:=sl.length_le;omega
  obtain⟨bs,ss,rfl,d5,hZ5,sb,ls,Fo⟩:=(pJ _ _ _ _).mp pv
  rw[pR]at ls
  have hZ0:=d4.free hd hZ
  clear pJ pv Pc d4 k4
  have hW5:=d5.keep _ _ Y9 hW
  repeat (first | walk_at "rl" | simp only[hW5])
  obtain⟨vX,yU⟩:∃vX:St->Hp->Prop,∀σ' H',vX σ' H'↔∃(L:Addr) (y:Option V) (bs:List Addr) (ss:List (List Int)),σ'=[some (.ref h),some (.ref W),some (.int way),none,none,none,some (.int z),some (.ref L),y]/\Dr h H H'/\H' L=some (.lst (List.map V.ref bs))/\aI H' bs ss/\ss.length<=40/\∀s∈ss,s.length<=100:=⟨_,λ_ _=>dZ⟩
  have nx0:∀H6,Dr h H H6->H6 Z=some (.lst (List.map V.ref bs))->aI H6 bs ss->vX [some (.ref h),some (.ref W),some (.int way),none,none,none,some (.int z),some (.ref Z),none] H6:=λH6 d6 h6 s6=>(yU _ _).mpr ⟨Z,_,bs,ss,rfl,d6,h6,s6,by omega,Fo⟩
  have fin:∀(l q2:Addr) (S1 S2:List Int) (r:Int) (L2:Addr) (y:Option V) (H2:Hp),Dr h H H2->H2 l=some (.tup (List.map V.int S1))->H2 q2=some (.tup (List.map V.int S2))->S1.length<=100->S2.length<=100->aI H2 bs ss->0<=r->r<2->
    H2 L2=some (.lst (List.map V.ref bs++jG [V.ref l,V.ref q2] none (some (1+r))))->vX [some (.ref h),some (.ref W),some (.int way),none,none,none,some (.int z),some (.ref L2),y] H2:=λl q2 S1 S2 r L2 y H2 d2 h1 h2 l1 l2 s2 r0 r1 hL=>by
   have hr:r=0\/r=1:=by omega
   rcases hr with rfl | rfl
   ·refine(yU _ _).mpr ⟨L2,y,bs++[l],ss++[S1],rfl,d2,by rw[hL,fK];rfl,s2.app ⟨rfl,λj c u e1 e2=>?_⟩,by rw[cP];simp;omega,λs hs=>?_⟩
    ·match j,e1,e2 with
     | 0,e1,e2=>cases e1;cases e2;exact h1
     | _+1,e1,_=>cases e1
    ·rcases dq.mp hs with k | k
     ·exact Fo s k
     ·rw[df.mp k];exact l1
   ·refine(yU _ _).mpr ⟨L2,y,bs++[l,q2],ss++[S1,S2],rfl,d2,by rw[hL,fK];rfl,s2.app ⟨rfl,λj c u e1 e2=>?_⟩,by rw[cP];simp;omega,λs hs=>?_⟩
    ·match j,e1,e2 with
     | 0,e1,e2=>cases e1;cases e2;exact h1
     | 1,e1,e2=>cases e1;cases e2;exact h2
     | _+2,e1,_=>cases e1
    ·rcases dq.mp hs with k | k
     ·exact Fo s k
     ·rcases bT.mp k with k | k
      ·rw[k];exact l1
      ·rw[df.mp k];exact l2
  refine⟨vX,?_,λσ' H6 hm=>?_⟩
  ·repeat (first | walk_at "rl" | simp only[hW5])
   by_cases e0:0<x.length
   ·rw[aC (by simpa using e0)]
    refine dA hd d5 (by decide) (by decide) λr6 H6 _ _ d6 k6=>?_
    have Y8:Z≠h:=hd.ne hZ0
    have hZ6:=(k6 Z Y8).trans hZ5
    have Oj:=d5.eR hd
    have kt:∀c xs,H' c=some (.tup xs)->H6 c=some (.tup xs):=λc xs e=>(k6 c (Oj.fP e)).trans e
    have sb6:=sb.mono kt
    have hW6:=kt _ _ hW5
    refine⟨rfl,?_⟩
    by_cases e6:r6=0
    ·subst e6
     rw[aC rfl]
     repeat (first | walk_at "rl" | simp only[hW6])
     refine dA hd d6 (by omega) (by omega) λat_ H7 a0 a1 d7 k7=>?_
     have hZ7:=(k7 Z Y8).trans hZ6
     have hd6:=d6.eR hd
     have kt7:∀c xs,H6 c=some (.tup xs)->H7 c=some (.tup xs):=λc xs e=>(k7 c (hd6.fP e)).trans e
     have sb7:=sb6.mono kt7
     have hW7:=kt7 _ _ hW6
     repeat (first | walk_at "rl" | simp only[hW7])
     obtain⟨a,rfl⟩:∃a:Nat,at_=(a:Int):=⟨at_.toNat,by omega⟩
     have ha:a<x.length:=by omega
     have eat:yg (List.map V.int x) (a:Int)=some (.int x[a]):=iY (by rw[cU,bP ha];rfl)
     refine⟨⟨_,bH hW7⟩,?_⟩
     refine je (zs:=List.map V.int x) (λk=>if (x[k]?.any λm=>decide (m≠x[a])) then x[k]? else none) (λ_ _ v d=>v=V.int d) (λ_ _ _ _ _ _ r=>r) (λ_ _ _ _ _ _ _ r=>r) hW7 (by rw[aQ];omega) (λDD c H8 j z yes no hj s8 Ve Vd fq yA=>?_) (λD H8 vs s8 hD hD8 rl=>?_)
     ·obtain⟨m,em,rfl⟩:=int_at hj
      rw[em]at fq yA
      have hW8:=s8 _ _ hW7
      walk_at "rc"
      repeat (first | walk_at "rl" | simp only[hW8,eat])
      by_cases hm:m=x[a]
      ·rw[aB (by simpa using hm)]
       exact yA (aB (by simpa using hm)) _ λ_ _ e=>e
      ·rw[aC (by simpa using hm)]
       exact fq _ (aC (by simpa using hm)) _ _ (λ_ _ e=>e) rfl
     have ev:=tK rl
     rw[aQ,pz (l:=x) (p:=λm=>decide (m≠x[a])) λk hk=>by rw[bP hk];rfl]at ev
     subst ev
     have lo:=sy (λm=>decide (m≠x[a])) x
     generalize (x.filter λm=>decide (m≠x[a]))=S1 at lo hD8
     have d8:=d7.on s8
     refine⟨D,rfl,_,hD8,λl hl=>?_⟩
     have s9:=aD hl (.tup (List.map V.int S1))
     have hl9:upd H8 l (.tup (List.map V.int S1)) l=_:=ah
     have d9:Dr h H (upd H8 l (.tup (List.map V.int S1))):=d8.new hl
     generalize upd H8 l (.tup (List.map V.int S1))=H9 at s9 hl9 d9 ⊢
     have t79:=s8.trans s9
     have hW9:=t79 _ _ hW7
     have hZ9:=t79 _ _ hZ7
     have sb9:aI H9 bs ss:=sb7.mono λ_ _ e=>t79 _ _ e
     refine⟨_,hW9,λ_=>⟨by decide,λp hp=>?_⟩,λ_ q2 hq2=>⟨by decide,λp hp=>?_⟩⟩
     ·have Ei:=aD hp (.lst [V.ref l,V.ref W])
      have d11:Dr h H (upd H9 p (.lst [V.ref l,V.ref W])):=d9.new hp
      have Td:upd H9 p (.lst [V.ref l,V.ref W]) p=_:=ah
      have hph:p≠h:=(d9.eR hd).ne hp
      generalize upd H9 p (.lst [V.ref l,V.ref W])=H11 at Ei d11 Td ⊢
      refine dA hd d11 (by decide) (by decide) λV3 Zt r0 r1 d12 k12=>⟨_,rfl,_,(k12 p hph).trans Td,λp3 Jx=>?_⟩
      have aBh:=d11.eR hd
      have Ji:∀c xs,H11 c=some (.tup xs)->Zt c=some (.tup xs):=λc xs e=>(k12 c (aBh.fP e)).trans e
      have s13:=aD Jx (.lst (jG [V.ref l,V.ref W] none (some (1+V3))))
      have aBn:=(k12 Z Y8).trans (Ei _ _ hZ9)
      have lb:=sb.1
      refine⟨_,s13 _ _ aBn,lU (by rw[aQ];have:=Uh [V.ref l,V.ref W] (none:Option Int) (some (1+V3));simp at this;omega),λp4 hp4=>?_⟩
      have Z':=s13.trans (aD hp4 (.lst (List.map V.ref bs++jG [V.ref l,V.ref W] none (some (1+V3)))))
      exact fin l W S1 x V3 p4 _ _ ((d12.new Jx).new hp4) (Z' _ _ (Ji _ _ (Ei _ _ hl9))) (Z' _ _ (Ji _ _ (Ei _ _ hW9))) (by omega) (by omega) (((sb9.mono λ_ _ e=>Ei _ _ e).mono Ji).mono λ_ _ e=>Z' _ _ e) r0 r1 ah
     ·have s10:=aD hq2 (.tup (jG (List.map V.int x) (some (a:Int)) (some ((a:Int)+1))))
      have aA5:upd H9 q2 (.tup (jG (List.map V.int x) (some (a:Int)) (some ((a:Int)+1)))) q2=some (.tup (List.map V.int ((x.drop (HT.dB x.length 0 (some (a:Int)))).take (HT.dB x.length x.length (some ((a:Int)+1))-HT.dB x.length 0 (some (a:Int)))))):=by rw[ah,Gn]
      have O0:Dr h H (upd H9 q2 (.tup (jG (List.map V.int x) (some (a:Int)) (some ((a:Int)+1))))):=d9.new hq2
      have l2:((x.drop (HT.dB x.length 0 (some (a:Int)))).take (HT.dB x.length x.length (some ((a:Int)+1))-HT.dB x.length 0 (some (a:Int)))).length<=100:=by rw[jL,wg];omega
      generalize ((x.drop (HT.dB x.length 0 (some (a:Int)))).take (HT.dB x.length x.length (some ((a:Int)+1))-HT.dB x.length 0 (some (a:Int))))=S2 at aA5 l2
      generalize upd H9 q2 (.tup (jG (List.map V.int x) (some (a:Int)) (some ((a:Int)+1))))=Pz at s10 aA5 O0 hp ⊢
      have Ei:=aD hp (.lst [V.ref l,V.ref q2])
      have d11:Dr h H (upd Pz p (.lst [V.ref l,V.ref q2])):=O0.new hp
      have Td:upd Pz p (.lst [V.ref l,V.ref q2]) p=_:=ah
      have hph:p≠h:=(O0.eR hd).ne hp
      generalize upd Pz p (.lst [V.ref l,V.ref q2])=H11 at Ei d11 Td ⊢
      have aEv:aI Pz bs ss:=sb9.mono λ_ _ e=>s10 _ _ e
      refine dA hd d11 (by decide) (by decide) λV3 Zt r0 r1 d12 k12=>⟨_,rfl,_,(k12 p hph).trans Td,λp3 Jx=>?_⟩
      have aBh:=d11.eR hd
      have Ji:∀c xs,H11 c=some (.tup xs)->Zt c=some (.tup xs):=λc xs e=>(k12 c (aBh.fP e)).trans e
      have s13:=aD Jx (.lst (jG [V.ref l,V.ref q2] none (some (1+V3))))
      have aBn:=(k12 Z Y8).trans (Ei _ _ (s10 _ _ hZ9))
      have lb:=sb.1
      refine⟨_,s13 _ _ aBn,lU (by rw[aQ];have:=Uh [V.ref l,V.ref q2] (none:Option Int) (some (1+V3));simp at this;omega),λp4 hp4=>?_⟩
      have Z':=s13.trans (aD hp4 (.lst (List.map V.ref bs++jG [V.ref l,V.ref q2] none (some (1+V3)))))
      exact fin l q2 S1 S2 V3 p4 _ _ ((d12.new Jx).new hp4) (Z' _ _ (Ji _ _ (Ei _ _ (s10 _ _ hl9)))) (Z' _ _ (Ji _ _ (Ei _ _ aA5))) (by omega) l2 (((aEv.mono λ_ _ e=>Ei _ _ e).mono Ji).mono λ_ _ e=>Z' _ _ e) r0 r1 ah
    ·rw[aB (by simpa using e6)]
     exact nx0 _ d6 hZ6 sb6
   ·rw[aB (by simpa using e0)]
    exact nx0 _ d5 hZ5 sb
  obtain⟨L,y,bs,ss,rfl,d6,hL6,sb6,l40,Fo⟩:=(yU _ _).mp hm
  clear fin nx0 yU hm vX
  walk_at "r"
  refine⟨by decide,λp hp=>?_⟩
  have s7:=aD hp (.tup [V.int way,V.ref L,V.int 0])
  have aFP:way=0\/way=1:=by omega
  have sb7:aI (upd H6 p (.tup [V.int way,V.ref L,V.int 0])) bs ss:=sb6.mono λ_ _ e=>s7 _ _ e
  rcases aFP with rfl | rfl
  ·exact q p (.W' ss) _ (d6.new hp) (d6.free hd hp) ⟨L,bs,ah,s7 _ _ hL6,sb7,by omega,Fo⟩
  ·exact q p (.out ss) _ (d6.new hp) (d6.free hd hp) ⟨L,bs,ah,s7 _ _ hL6,sb7,by omega,Fo⟩
local macro_rules | `(tactic| walk_at "rd") => `(tactic| walk_at "rc")
local macro_rules | `(tactic| walk_at "rl") => `(tactic| first | (refine eN fun R hR => ?_) | walk_at "ry" | (refine Nx.to (by assumption) _ _ ?_))
def Vx:Sp:=λvs H Q _=>∃m p,vs=[.ref m,.ref p]/\∃(md:Md) (W S:List Int),jI H m W md/\H p=some (.tup (List.map V.int S))/\S.length<=100/\(∀z∈S,z∈W)/\∀H',cp H H'->Q (.bl (md.tells S)) H'
theorem xk(T:Txt K mg t):Vj P w K mg base 2 t.mF t.mw ["_law_model_here","_law_part"] Vx:=by
 have lK:=NQ (P:=P) (w:=w) (base:=base) T
 refine T.gF.okH yJ (λvs H Q E h=>?_) (λcD A outer s H vs Q E hr _ h hc hf=>?_)
 ·obtain⟨m,p,rfl,_⟩:=h;rfl
 obtain⟨m,p,rfl,md,W,S,ma,hp,lS,sub,q⟩:=h
 have hu:=aAZ hr
 refine⟨_,(by apply aq;exact(cg (aY js (bq xH (au hc 0) ao (λ_ _=>rfl)) ao (cj _)) (by exact az (aV (sM aCn (cK (O5 rfl) (di hc) T.Ki aDT (ae (eJ hc ["_law_one"] [0] rfl (by decide +kernel) (dH (au hc 1)) (λ_ hc=>sJ hc (by decide +kernel) 0 (by decide +kernel)) (λ_ _=>gi) (λ_ hc=>(sL hu (bq xH (au hc 1) ao (λ_ _=>rfl)) (au hc 0) (λ_ _=>rfl)))) ai)) (bq xH (au hc 0) ao (λ_ _=>rfl)) (cj _)))) bt);apply aq;exact(cg (aY js (bq xH (au hc 0) ao (λ_ _=>rfl)) ao (cj _)) (by exact az (aV (cK (z7 rfl) (di hc) T.DR Zn (ae (eJ hc ["_law_one"] [1] rfl (by decide +kernel) (fT (bq xH (au hc 0) ao (λ_ _=>rfl))) (λ_ hc=>sJ hc (by decide +kernel) 0 (by decide +kernel)) (λ_ _=>gi) (λ_ hc=>(kL lK rfl hr.mono (di hc) T.lg T.g8.kp T.lH bj (ae (au hc 1) (ae (au hc 0) ai))))) ai)))) bt);exact az (aV (Vm (cK (z7 rfl) (di hc) T.DR Zn (ae (eJ hc ["_law_one"] [1] rfl (by decide +kernel) (fT (bq xH (au hc 0) ao (λ_ _=>rfl))) (λ_ hc=>sJ hc (by decide +kernel) 0 (by decide +kernel)) (λ_ _=>gi) (λ_ hc=>(kL lK rfl hr.mono (di hc) T.lg T.g8.kp T.lH bj (ae (au hc 0) (ae (au hc 1) ai))))) ai))))),?_⟩
 cases md with
 | wt g most=>
  obtain⟨d,ks,hm,hd,hk⟩:=ma
  repeat (first | walk_at "rl" | simp only[hm])
  refine⟨⟨_,bH hp⟩,?_⟩
  refine je (zs:=List.map V.int S) (λj=>S[j]?.map g) (λ_ _ v d=>v=V.int d) (λ_ _ _ _ _ _ r=>r) (λ_ _ _ _ _ _ _ r=>r) hp (by rw[aQ];omega) (λDD c H4 j z yes no hj s4 Ve Vd fq yA=>?_) (λD H4 vs s4 hD vt rl=>?_)
  ·obtain⟨n,en,rfl⟩:=int_at hj
   rw[en]at fq
   have hm4:=s4 _ _ hm
   walk_at "rc"
   repeat (first | walk_at "rl" | simp only[hm4,zm])
   refine⟨.int (g n),?_,fq _ rfl _ _ (λ_ _ e=>e) rfl⟩
   have:=tZ.k (k:=Sum.inl n) (s4 _ _ hd)
   rw[CZ,aC (hk.1 n (sub n (ny en)))]at this
   exact this
  have ev:=tK rl
  rw[aQ,xZ (l:=S) (g:=g) λk hk=>by rw[bP hk];rfl]at ev
  subst ev
  have hm4:=s4 _ _ hm
  repeat (first | walk_at "rl" | simp only[hm4])
  exact⟨_,vt,q _ s4⟩
 | W' ss=>
  obtain⟨l,bs,hm,hl,sb,l9,ls⟩:=ma
  repeat (first | walk_at "rl" | simp only[hm])
  refine⟨⟨_,bw hl⟩,?_⟩
  refine jy (zs:=List.map V.ref bs) (λj=>ss[j]?.map λs=>V.bl (aF S s)) (λ_=>Ye) (λ_ _ _ _ _ _ r=>r) (λ_ _ _ _ _ _ _ r=>r) hl (by rw[aQ,sb.1];omega) (λDD c H4 j z yes no hj s4 Ve Vd fq yA=>?_) (λD H4 vs s4 hD vt rl=>?_)
  ·obtain⟨b,eb,rfl⟩:=jr hj
   have hj1:j<bs.length:=(dO.mp eb).1
   have es:ss[j]?=some (ss[j]'(by have:=sb.1;omega)):=bP _
   have hb4:=s4 _ _ (sb.2 j b _ eb es)
   rw[es]at fq
   walk_at "rc"
   walk_at "r"
   exact⟨p,b,rfl,S,_,s4 _ _ hp,hb4,by omega,λH5 s5=>fq _ rfl _ _ s5 rfl⟩
  have ev:=Bo rl
  rw[aQ,sb.1,xZ (l:=ss) (g:=λs=>V.bl (aF S s)) λk hk=>by rw[bP hk];rfl]at ev
  subst ev
  refine⟨D,rfl,ss.map λs=>aF S s,by rw[vt,iI];rfl,?_⟩
  rw[Ag]
  exact q _ s4
 | out ss=>
  obtain⟨l,bs,hm,hl,sb,l9,ls⟩:=ma
  repeat (first | walk_at "rl" | simp only[hm])
  refine⟨⟨_,bw hl⟩,?_⟩
  refine jy (zs:=List.map V.ref bs) (λj=>ss[j]?.map λs=>V.bl (aF s S)) (λ_=>Ye) (λ_ _ _ _ _ _ r=>r) (λ_ _ _ _ _ _ _ r=>r) hl (by rw[aQ,sb.1];omega) (λDD c H4 j z yes no hj s4 Ve Vd fq yA=>?_) (λD H4 vs s4 hD vt rl=>?_)
  ·obtain⟨b,eb,rfl⟩:=jr hj
   have hj1:j<bs.length:=(dO.mp eb).1
   have es:ss[j]?=some (ss[j]'(by have:=sb.1;omega)):=bP _
   have hb4:=s4 _ _ (sb.2 j b _ eb es)
   rw[es]at fq
   walk_at "rc"
   walk_at "r"
   exact⟨b,p,rfl,_,S,hb4,s4 _ _ hp,by have:=ls _ (ny es);omega,λH5 s5=>fq _ rfl _ _ s5 rfl⟩
  have ev:=Bo rl
  rw[aQ,sb.1,xZ (l:=ss) (g:=λs=>V.bl (aF s S)) λk hk=>by rw[bP hk];rfl]at ev
  subst ev
  refine⟨D,rfl,ss.map λs=>aF s S,by rw[vt,iI];rfl,?_⟩
  rw[Ag]
  exact q _ s4
local macro_rules | `(tactic| walk_at "rd") => `(tactic| walk_at "rc")
local macro_rules | `(tactic| walk_at "rl") => `(tactic| first | (refine eN fun R hR => ?_) | walk_at "ry" | (refine Nx.to (by assumption) _ _ ?_))
def yn(Z:Addr->Prop)(H H':Hp):Prop:=∀b o,¬Z b->H b=some o->H' b=some o
theorem yn.trans{Z:Addr->Prop}{H H1 H2:Hp}(a:yn Z H H1)(b:yn Z H1 H2):yn Z H H2:=λc o hc e=>b c o hc (a c o hc e)
theorem yn.of{Z:Addr->Prop}{H H':Hp}(s:cp H H'):yn Z H H':=λb o _ e=>s b o e
structure y9(P:Program)(w:World)(K:PySem.W.Frag)(mg:Str->Option Value)(base:Heap)(k:Nat)(f:Addr){ι:Type}(Z:Addr->Prop)(D:ι->Hp->Prop)(nx:ι->List Int->ι)(lim:ι->Prop)(dom:List Int->Prop)(tells:List Int->Bool):Prop where
 run:∃sp,oW P w K mg base k f sp/\∀i H p S Q,D i H->lim i->H p=some (.tup (List.map V.int S))->dom S->(∀H',D (nx i S) H'->yn Z H H'->Q (.bl (tells S)) H')->sp [.ref p] H Q E0
 fn:∀i H,D i H->Yj H f
 st:∀i H H',D i H->cp H H'->D i H'
 nt:∀i H b xs,D i H->Z b->H b≠some (.tup xs)
theorem y9.tup{P:Program}{w:World}{K:PySem.W.Frag}{mg:Str->Option Value}{base:Heap}{k:Nat}{f:Addr}{ι:Type}{Z:Addr->Prop}{D:ι->Hp->Prop}{nx:ι->List Int->ι}{lim:ι->Prop}{dom:List Int->Prop}{tells:List Int->Bool}(a:y9 P w K mg base k f Z D nx lim dom tells){i:ι}{H H':Hp}(d:D i H)(kp:yn Z H H'){b:Addr}{xs:List V}(e:H b=some (.tup xs)):H' b=some (.tup xs):=
 kp b _ (λz=>a.nt i H b xs d z e) e
def dw(W c:List Int)(m:Int):List Int:=W.filter λz=>decide (z∈c\/z=m)
def fN(tells:List Int->Bool)(W ms c:List Int):List Int:=ms.foldl (λc m=>if tells (dw W c m)=true then dw W c m else c) c
theorem jd(W c:List Int)(m:Int):(dw W c m).Sublist W:=wo
theorem uD(tells:List Int->Bool)(W:List Int):∀(ms c:List Int),c.Sublist W->(fN tells W ms c).Sublist W
 | [],c,h=>h
 | m::ms,c,h=>by
  unfold fN
  rw[ig]
  refine uD tells W ms _ ?_
  by_cases e:tells (dw W c m)=true
  ·rw[aC e];exact jd W c m
  ·rw[aB e];exact h
theorem Sr{W c:List Int}{m:Int}(hW:fG W)(h:c.Sublist W)(hm:m∈c):dw W c m=c:=by
 refine pd (hW.sublist (jd W c m)) (hW.sublist h) λz=>?_
 unfold dw
 rw[fL,gI]
 exact⟨λ⟨_,a⟩=>a.elim id λe=>e ▸ hm,λa=>⟨h.subset a,.inl a⟩⟩
theorem mq{tells:List Int->Bool}{W S:List Int}(hW:fG W):∀(ms c:List Int),c.Sublist W->(∀z∈S,z∈c)->fN tells W (bO ms S) c=fN tells W ms c
 | [],c,_,_=>rfl
 | m::ms,c,h,hS=>by
  unfold bO
  rw[List.filter_cons]
  have sub:∀z∈S,z∈dw W c m:=λz hz=>fL.mpr ⟨h.subset (hS z hz),decide_eq_true (.inl (hS z hz))⟩
  by_cases e:m∈S
  ·rw[aB (by simpa using e)]
   have:=mq (tells:=tells) (S:=S) hW ms c h hS
   unfold bO at this
   rw[this]
   show fN tells W ms c=fN tells W ms (if tells (dw W c m)=true then dw W c m else c)
   rw[Sr hW h (hS m e)]
   simp
  ·rw[aC (by simpa using e)]
   show fN tells W (bO ms S) (if tells (dw W c m)=true then dw W c m else c)=fN tells W ms (if tells (dw W c m)=true then dw W c m else c)
   by_cases e2:tells (dw W c m)=true
   ·rw[aC e2];exact mq hW ms _ (jd W c m) sub
   ·rw[aB e2];exact mq hW ms c h hS
def iQ{ι:Type}(tells:List Int->Bool)(nx:ι->List Int->ι)(W ms:List Int)(c:List Int×ι):List Int×ι:=ms.foldl (λc m=>(if tells (dw W c.1 m)=true then dw W c.1 m else c.1,nx c.2 (dw W c.1 m))) c
theorem zX{ι:Type}(tells:List Int->Bool)(nx:ι->List Int->ι)(W:List Int):∀(ms:List Int) (c:List Int×ι),(iQ tells nx W ms c).1=fN tells W ms c.1
 | [],c=>rfl
 | m::ms,c=>by
  unfold iQ fN
  rw[ig,ig]
  exact zX tells nx W ms _
def Kv(P:Program)(w:World)(K:PySem.W.Frag)(mg:Str->Option Value)(base:Heap)(cN:Addr):Sp:=λvs H Q E=>∃U f p,vs=[.ref U,.ref f,.ref p]/\∃(ι:Type) (Z:Addr->Prop) (D:ι->Hp->Prop) (nx:ι->List Int->ι) (lim:ι->Prop) (dom:List Int->Prop) (tells:List Int->Bool) (n:ι) (W S:List Int),
 y9 P w K mg base 12 f Z D nx lim dom tells/\lim n/\(∀k,lim (iQ tells nx W ((bO W S).take k) (S,nx n S)).2)/\D n H/\H U=some (.tup (List.map V.int W))/\H p=some (.tup (List.map V.int S))/\fG W/\S.Sublist W/\W.length<=60/\(∀T,T.Sublist W->dom T)/\
 (tells S=false->∀dx H',D (nx n S) H'->yn Z H H'->H' dx=some (.xd [("part",.ref p)])->E (.ref cN) (some dx) H')/\
 (tells S=true->∀r H',D (iQ tells nx W (bO W S) (S,nx n S)).2 H'->yn Z H H'->H' r=some (.tup (List.map V.int (fN tells W W S)))->Q (.ref r) H')
theorem Ip(T:Txt K mg t):cq P w K mg base eV 1 t.bA t.gb cQ (BJ t.aP "part"):=by
 refine T.rQ.xl pI (λvs H Q E h=>?_) (λcD A outer s H vs Q E hr h hc hf=>?_)
 ·obtain⟨e,v,t,rfl,_⟩:=h;rfl
 obtain⟨e,v,t0,rfl,he,q⟩:=h
 refine⟨_,(by apply aq;exact(cJ (P8 T.hV T.ia T.g9 (di hc) T.CJ (ae (au hc 0) (ae jP ai))));exact az (P4 (au hc 0) (au hc 1) rfl)),?_⟩
 repeat (walk_at "rd")
 refine⟨t.aP,t0,he,T.o5,λt'=>⟨t.aP,t',rfl,T.o5,T.lT,λdx hd vp=>?_⟩⟩
 rw[aj vp]at hd
 exact q dx t' hd vp
theorem Ew(T:Txt K mg t):cq P w K mg base (DG P w) 14 t.Dn t.Dc ["whole","ask","part"] (Kv P w K mg base t.aP):=by
 have uP:=La (P:=P) (w:=w) (base:=base) T
 have U0:=NT (P:=P) (w:=w) (base:=base) T
 have Ph:=Ip (P:=P) (w:=w) (base:=base) T
 refine T.Du.okE nQ (λvs H Q E h=>?_) (λcD A outer s H vs Q E hr h hc hf L hpo=>?_)
 ·obtain⟨U,f,p,rfl,_⟩:=h;rfl
 obtain⟨U,f,p,rfl,ι,Z,D,nx,lim,dom,tells,n,W,S,ask,l0,ll,hD,hU,hp,rW,sS,lW,tM,qe,q⟩:=h
 have hu:=qd hr
 have U6:=hr.jn
 refine⟨_,(by apply aq;exact(cg (lP (du (zg (k:=12) hr.mono (au hc 1) (ae (au hc 2) ai)))) (by exact az (Hu (EH:=λ_=>E) T.o5 T.ml T.mn T.mj Ph T.rJ hr.mono (di hc) T.zL hr.hd L (au hc 2))) bt);apply aq;exact(aH hc nQ.nd hf 3 (by decide +kernel) (au hc 2));apply aq;exact(dG hpo rfl (dH (aG uP.ok hr.mono (di hc) T.zK T.uS.kp T.Ad .nil bj (ae (au hc 0) (ae (au hc 2) ai)))) (pG hc nQ.nd hf 4 (by decide +kernel)) (by apply aq;exact(aH hc nQ.nd hf 5 (by decide +kernel) (aG U0 hr.mono (di hc) T.Sw T.GQ.kp T.Uv .nil bj (ae (aZ Es (au hc 3) (fA (ae (au hc 4) ai))) ai)));exact az (cg (du (zg (k:=12) hr.mono (au hc 1) (ae (au hc 5) ai))) (by exact az (aH hc nQ.nd hf 3 (by decide +kernel) (au hc 5))) bt)));exact az (aV (au hc 3))),?_⟩
 walk_at "r"
 obtain⟨sp,G0,run⟩:=ask.run
 refine⟨ask.fn _ _ hD,ask.fn _ _ hD,sp,G0,run n H p S _ hD l0 hp (tM S sS) λH1 vv k1=>⟨_,rfl,?_⟩⟩
 have ng:=ask.tup hD k1 hp
 have hU1:=ask.tup hD k1 hU
 cases e0:tells S with
 | false=>
  rw[aC (by decide)]
  walk_at "r"
  intro dx Gd
  have s2:=aD Gd (.xd [("part",V.ref p)])
  exact qe e0 dx _ (ask.st _ _ _ vv s2) (k1.trans (yn.of s2)) ah
 | true=>
 rw[aB (by decide)]
 walk_at "r"
 refine⟨U,p,rfl,W,S,hU1,ng,by omega,λR H2 s2 hR Xu=>?_⟩
 walk_at "r"
 refine⟨⟨_,bH Xu⟩,?_⟩
 have lr:(bO W S).length<=W.length:=sy _ _
 have yV:=ask.st _ _ _ vv s2
 have k2:=k1.trans (yn.of s2)
 obtain⟨Pv,dz⟩:∃Pv:Nat->St->Hp->Prop,∀i σ' H',Pv i σ' H'↔∃(c:Addr) (x y:Option V),σ'=[some (.ref U),some (.ref f),some (.ref p),some (.ref c),x,y]/\D (iQ tells nx W ((bO W S).take i) (S,nx n S)).2 H'/\yn Z H H'/\(H' R=some (.tup (List.map V.int (bO W S))))/\H' c=some (.tup (List.map V.int (fN tells W ((bO W S).take i) S))):=⟨_,λ_ _ _=>dZ⟩
 refine ft (xs:=List.map V.int (bO W S)) Pv ((dz _ _ _).mpr ⟨p,none,none,rfl,yV,k2,Xu,s2 _ _ ng⟩) (λi σ' H' _ pv=>?_) (λi z σ' H3 hz pv=>?_) (λσ' H3 pv=>?_)
 ·obtain⟨c,_,_,_,_,_,hR',_⟩:=(dz _ _ _).mp pv
  exact hR'
 ·obtain⟨c,x,y,rfl,GZ,k3,hR3,Om⟩:=(dz _ _ _).mp pv
  obtain⟨m,em,rfl⟩:=int_at hz
  have hi:i<(bO W S).length:=(dO.mp em).1
  have hmW:m∈W:=(fL.mp (ny em)).1
  have step:fN tells W ((bO W S).take (i+1)) S=if tells (dw W (fN tells W ((bO W S).take i) S) m)=true then dw W (fN tells W ((bO W S).take i) S) m else fN tells W ((bO W S).take i) S:=by
   unfold fN
   rw[jj,em,qy]
   rfl
  have stepI:(iQ tells nx W ((bO W S).take (i+1)) (S,nx n S)).2=nx (iQ tells nx W ((bO W S).take i) (S,nx n S)).2 (dw W (fN tells W ((bO W S).take i) S) m):=by
   rw[<-zX tells nx W _ (S,nx n S)]
   unfold iQ
   rw[jj,em,qy]
   rfl
  have sub:=uD tells W ((bO W S).take i) S sS
  have li:=ll i
  generalize (iQ tells nx W ((bO W S).take i) (S,nx n S)).2=I at GZ stepI li
  generalize fN tells W ((bO W S).take i) S=C at Om step stepI sub
  have lC:=sub.length_le
  walk_at "r"
  refine⟨by decide,λp1 ng=>?_⟩
  have s4:=aD ng (.tup [V.int m])
  refine⟨_,s4 _ _ Om,by rw[aQ];exact cz (by omega),λp2 H5 s5 _ hp5=>?_⟩
  have s35:=s4.trans s5
  refine⟨p2,rfl,C++[m],by rw[hp5,fK];rfl,by rw[cP];simp;omega,λr ms H6 s6 _ hr6 rm mm=>?_⟩
  have Z7:=s35.trans s6
  have em2:ms=dw W C m:=pd rm (rW.sublist (jd W C m)) λz=>by
   rw[mm]
   unfold dw
   rw[fL,gI,dq,df]
   exact⟨λh=>⟨h.elim (λa=>sub.subset a) λe=>e ▸ hmW,h⟩,λh=>h.2⟩
  subst em2
  have Vf:=ask.st _ _ _ GZ Z7
  have k6:=k3.trans (yn.of Z7)
  walk_at "r"
  refine⟨ask.fn _ _ Vf,ask.fn _ _ Vf,sp,G0,run _ H6 r _ _ Vf li hr6 (tM _ (jd W C m)) λH7 hD7 k7=>⟨_,rfl,?_⟩⟩
  have hc7:=ask.tup Vf k7 (Z7 _ _ Om)
  have hr7:=ask.tup Vf k7 hr6
  have hR7:=ask.tup Vf k7 (Z7 _ _ hR3)
  have k67:=k6.trans k7
  cases e5:tells (dw W C m) with
  | true=>
   rw[aC rfl]
   exact(dz _ _ _).mpr ⟨r,_,_,rfl,by rw[stepI];exact hD7,k67,hR7,by rw[step,e5,aC rfl];exact hr7⟩
  | false=>
   rw[aB (by decide)]
   exact(dz _ _ _).mpr ⟨c,_,_,rfl,by rw[stepI];exact hD7,k67,hR7,by rw[step,e5,aB (by decide)];exact hc7⟩
 obtain⟨c,x,y,rfl,GZ,k3,hR3,Om⟩:=(dz _ _ _).mp pv
 rw[aQ,iK,mq rW W S sS λz hz=>hz]at Om
 rw[aQ,iK]at GZ
 walk_at "r"
 exact q e0 c H3 GZ k3 Om
local macro_rules | `(tactic| walk_at "rd") => `(tactic| walk_at "rc")
local macro_rules | `(tactic| walk_at "rl") => `(tactic| first | (refine eN fun R hR => ?_) | walk_at "ry" | (refine Nx.to (by assumption) _ _ ?_))
def cov(pe:Bool)(S T:List Int):Bool:=(pe&&aF T S)||(!pe&&aF S T)
theorem CP{S T:List Int}(h:S.map (Sum.inl:Int->Key)=T.map Sum.inl):S=T:=(Az λ_ _ e=>t5 e).mp h
def sfs(f l d u:Addr):List (Str×V):=[("ask",.ref f),("askings",.ref l),("known",.ref d),("unknown",.ref u)]
def Vy(C:Addr):Sp:=λvs H Q _=>∃x f u dx,vs=[.ref x,.ref f,.ref u]/\H x=some (.ins C dx [])/\
 ∀l d H',H l=none->H d=none->H' x=some (.ins C dx (sfs f l d u))->H' l=some (.lst [])->H' d=some (.dT [])->(∀b o,b≠x->H b=some o->H' b=some o)->Q .non H'
def VF(C:Addr):Sp:=λvs H Q _=>∃x p pe,vs=[.ref x,.ref p,.bl pe]/\∃dx f l d u,∃(S:List Int) (rR:List (List Int)) (us:List Addr) (aM:List (List Key×V)),
 H x=some (.ins C dx (sfs f l d u))/\H p=some (.tup (List.map V.int S))/\H u=some (.lst (List.map V.ref us))/\aI H us rR/\H d=some (.dT aM)/\aM.length+rR.length<=900/\
 ∀H' u' us' aAR,H u'=none->H' x=some (.ins C dx (sfs f l d u'))->H' u'=some (.lst (List.map V.ref us'))->aI H' us' (rR.filter λT=>!cov pe S T)->H' d=some (.dT aAR)->aAR.length+(rR.filter λT=>!cov pe S T).length<=aM.length+rR.length->
  (∀T,fU aAR (T.map Sum.inl)=if T∈rR/\cov pe S T=true then some (.bl pe) else fU aM (T.map Sum.inl))->(∀b o,b≠x->b≠d->H b=some o->H' b=some o)->Q .non H'
theorem Sg(T:Txt K mg t):cq P w K mg base eV 1 t.bG t.fQ ["self","ask","parts"] (Vy t.aA):=by
 refine T.pO.xl nR (λvs H Q E h=>?_) (λcD A outer s H vs Q E hr h hc hf=>?_)
 ·obtain⟨x,f,u,dx,rfl,_⟩:=h;rfl
 obtain⟨x,f,u,dx,rfl,hx,q⟩:=h
 refine⟨_,(by apply aq;exact(sE (au hc 0) (au hc 1) rfl);apply aq;exact(sE (au hc 0) (dI ai) rfl);apply aq;exact(sE (au hc 0) zf rfl);exact az (sE (au hc 0) (au hc 2) rfl)),?_⟩
 repeat (walk_at "rd")
 refine⟨t.aA,dx,[],hx,T.aT,T.mU,by decide,dc _,λl hl=>?_⟩
 have Xk:l≠x:=λe=>by rw[e,ah]at hl;cases hl
 refine⟨t.aA,dx,[("ask",.ref f)],by rw[aj Xk.symm,ah];rfl,T.aT,T.cS,(by show 1<1000;decide),λd hd=>?_⟩
 have Gd:d≠x:=λe=>by rw[e,ah]at hd;cases hd
 rw[aj Gd]at hd
 have Pn:d≠l:=λe=>by rw[e,ah]at hd;cases hd
 rw[aj Pn,aj Gd]at hd
 rw[aj Xk]at hl
 refine⟨t.aA,dx,[("ask",.ref f),("askings",.ref l)],by rw[aj Gd.symm,ah];rfl,T.aT,T.cw,(by show 2<1000;decide),t.aA,dx,[("ask",.ref f),("askings",.ref l),("known",.ref d)],rfl,T.aT,T.cR,(by show 3<1000;decide),?_⟩
 refine q l d _ hl hd (by rw[ah];rfl) (by rw[aj Xk,aj Pn.symm,aj Xk,ah]) (by rw[aj Gd,ah]) λb o hb e=>?_
 rw[aj hb,aj (av e hd),aj hb,aj (av e hl),aj hb]
 exact e
theorem Sf(T:Txt K mg t):cq P w K mg base eV 2 t.bZ t.gW ["self","part","peaceful"] (VF t.aA):=by
 have jg:=qV (P:=P) (w:=w) (base:=base) T
 refine T.uU.xl gB (λvs H Q E h=>?_) (λcD A outer s H vs Q E hr h hc hf=>?_)
 ·obtain⟨x,p,pe,rfl,_⟩:=h;rfl
 obtain⟨x,p,pe,rfl,dx,f,l,d,u,S,rR,us,aM,hx,hp,Xb,su,hd,lk,q⟩:=h
 have hu:=qd hr
 have U6:=hr.jn
 refine⟨_,(by apply aq;exact(aH hc gB.nd hf 3 (by decide +kernel) (dI ai));apply aq;exact(dG ie rfl (fT (fY (au hc 0) rfl)) (pG hc gB.nd hf 4 (by decide +kernel)) (by exact az (cg (pV (Bl (pV (oX (du (au hc 2)) (kK (du (aG jg hr.mono (di hc) T.px T.lM.kp T.pF .nil bj (ae (au hc 4) (ae (au hc 1) ai))))))) (vN (pV (oX (lP (du (au hc 2))) (kK (du (aG jg hr.mono (di hc) T.px T.lM.kp T.pF .nil bj (ae (au hc 1) (ae (au hc 4) ai)))))))))) (by exact az (sG hu (fY (au hc 0) rfl) (au hc 4) (au hc 2) rfl)) (by exact az (cJ (lQ nC sA sD eL (au hc 3) (ae (au hc 4) ai)))))));exact az (sE (au hc 0) (au hc 3) rfl)),?_⟩
 repeat (walk_at "rd")
 refine⟨dc _,λL hL=>?_⟩
 have s0:=aD hL (.lst [])
 have hx0:=s0 _ _ hx
 have Xg:=s0 _ _ hp
 have hu1:=s0 _ _ Xb
 have Lq:=s0 _ _ hd
 have su0:aI (upd H L (.lst [])) us rR:=su.mono λb xs e=>s0 _ _ e
 have hL0:upd H L (.lst []) L=some (.lst []):=ah
 have Gd:d≠x:=aN hd hx (by intro z;cases z)
 have hdL:d≠L:=av hd hL
 have hxL:x≠L:=av hx hL
 have huL:u≠L:=av Xb hL
 have hud:u≠d:=aN Xb hd (by intro z;cases z)
 generalize upd H L (.lst [])=H0 at s0 hx0 Xg hu1 Lq su0 hL0 ⊢
 refine⟨t.aA,dx,_,hx0,T.aT,T.cR,.ref u,rfl,u,rfl,⟨_,bw hu1⟩,?_⟩
 obtain⟨Pv,dz⟩:∃Pv:Nat->St->Hp->Prop,∀i σ' H',Pv i σ' H'↔∃(z:Option V) (cs:List Addr) (kv:List (List Key×V)),σ'=[some (.ref x),some (.ref p),some (.bl pe),some (.ref L),z]/\H' L=some (.lst (List.map V.ref cs))/\aI H' cs ((rR.take i).filter λT=>!cov pe S T)/\H' d=some (.dT kv)/\
  kv.length+((rR.take i).filter λT=>!cov pe S T).length<=aM.length+i/\(∀T,fU kv (T.map Sum.inl)=if T∈rR.take i/\cov pe S T=true then some (.bl pe) else fU aM (T.map Sum.inl))/\(∀b o,b≠d->b≠L->H0 b=some o->H' b=some o):=⟨_,λ_ _ _=>dZ⟩
 refine iz (xs:=List.map V.ref us) Pv ((dz _ _ _).mpr ⟨none,[],aM,rfl,hL0,⟨rfl,λi b t e=>by simp at e⟩,Lq,by simp,λT=>by simp,λb o _ _ e=>e⟩) (λi σ' H1 _ pv=>?_) (λi z σ' H1 hz pv=>?_) (λσ' H1 pv=>?_)
 ·obtain⟨_,_,_,_,_,_,_,_,_,k⟩:=(dz _ _ _).mp pv
  exact k _ _ hud huL hu1
 ·obtain⟨y,cs,kv,rfl,zW,sc,Tp,lkv,Xa,k⟩:=(dz _ _ _).mp pv
  obtain⟨b,eb,rfl⟩:=jr hz
  have hi:i<us.length:=(dO.mp eb).1
  have zV:i<rR.length:=by have:=su0.1;omega
  have et:rR[i]?=some rR[i]:=bP zV
  have hb0:=su0.2 i b _ eb et
  have tk:rR.take (i+1)=rR.take i++[rR[i]]:=by rw[jj,et];rfl
  have Lr:=k _ _ (aN hb0 Lq (by intro z;cases z)) (aN hb0 hL0 (by intro z;cases z)) hb0
  have ng:=k _ _ (aN Xg Lq (by intro z;cases z)) (aN Xg hL0 (by intro z;cases z)) Xg
  have S':=k _ _ Gd.symm hxL hx0
  generalize rR[i]=U at hb0 tk Lr et
  have lcs:=sc.1
  have lfl:((rR.take i).filter λT=>!cov pe S T).length<=900:=by
   have:=sy (λT=>!cov pe S T) (rR.take i)
   rw[jL]at this
   omega
  have yes:cov pe S U=true->Pv (i+1) [some (.ref x),some (.ref p),some (.bl pe),some (.ref L),some (.ref b)] (upd H1 d (.dT (putK kv (U.map Sum.inl) (.bl pe)))):=λc=>by
   have fl:((rR.take (i+1)).filter λT=>!cov pe S T)=(rR.take i).filter λT=>!cov pe S T:=by rw[tk,Ay];simp[c]
   refine(dz _ _ _).mpr ⟨_,cs,putK kv (U.map Sum.inl) (.bl pe),rfl,by rw[aj hdL.symm];exact zW,?_,ah,?_,λT=>?_,λb o h1 h2 e=>by rw[aj h1];exact k b o h1 h2 e⟩
   ·rw[fl]
    exact sc.mono λb xs e=>by rw[aj (aN e Tp (by intro z;cases z))];exact e
   ·rw[fl]
    have:=om kv (U.map Sum.inl) (.bl pe)
    omega
   ·rw[Qe,Xa,tk]
    by_cases e:T=U
    ·rw[aC (by rw[e]),aC ⟨by simp[e],by rw[e];exact c⟩]
    ·rw[aB λz=>e (CP z)]
     have:(T∈rR.take i++[U])=(T∈rR.take i):=by simp[e]
     simp only[this]
  have no:cov pe S U=false->Pv (i+1) [some (.ref x),some (.ref p),some (.bl pe),some (.ref L),some (.ref b)] (upd H1 L (.lst (List.map V.ref cs++[V.ref b]))):=λc=>by
   have fl:((rR.take (i+1)).filter λT=>!cov pe S T)=((rR.take i).filter λT=>!cov pe S T)++[U]:=by rw[tk,Ay];simp[c]
   refine(dz _ _ _).mpr ⟨_,cs++[b],kv,rfl,by rw[ah,fK];rfl,?_,by rw[aj hdL];exact Tp,?_,λT=>?_,λb o h1 h2 e=>by rw[aj h2];exact k b o h1 h2 e⟩
   ·rw[fl]
    exact(sc.snoc Lr).mono λb xs e=>by rw[aj (aN e zW (by intro z;cases z))];exact e
   ·rw[fl,cP,uZ]
    omega
   ·rw[Xa,tk]
    by_cases e:T=U
    ·have:¬(T∈rR.take i/\cov pe S T=true):=λz=>by rw[e,c]at z;cases z.2
     rw[aB this,aB λz=>by rw[e,c]at z;cases z.2]
    ·have:(T∈rR.take i++[U])=(T∈rR.take i):=by simp[e]
     simp only[this]
  cases pe with
  | true=>
   repeat (walk_at "rd")
   refine⟨b,p,rfl,U,S,Lr,ng,_,rfl,?_⟩
   have ec:cov true S U=aF U S:=by simp[cov]
   rw[<-ec]
   cases c:cov true S U with
   | true=>
    rw[aC rfl]
    simp only[xc]
    repeat (walk_at "rd")
    exact⟨t.aA,dx,_,S',T.aT,T.cw,.ref d,rfl,d,rfl,_,yx.t (k:=U.map Sum.inl) Tp (by rw[n8];exact Lr) (cz (by omega)),yes c⟩
   | false=>
    rw[aB (by decide)]
    repeat (walk_at "rd")
    exact⟨.inl ⟨rfl,_,bw zW⟩,_,zW,by rw[aQ];exact cz (by omega),no c⟩
  | false=>
   repeat (walk_at "rd")
   refine⟨p,b,rfl,S,U,ng,Lr,_,rfl,?_⟩
   have ec:cov false S U=aF S U:=by simp[cov]
   rw[<-ec]
   cases c:cov false S U with
   | true=>
    rw[aC rfl]
    simp only[xc]
    repeat (walk_at "rd")
    exact⟨t.aA,dx,_,S',T.aT,T.cw,.ref d,rfl,d,rfl,_,yx.t (k:=U.map Sum.inl) Tp (by rw[n8];exact Lr) (cz (by omega)),yes c⟩
   | false=>
    rw[aB (by decide)]
    repeat (walk_at "rd")
    exact⟨.inl ⟨rfl,_,bw zW⟩,_,zW,by rw[aQ];exact cz (by omega),no c⟩
 ·obtain⟨y,cs,kv,rfl,zW,sc,Tp,lkv,Xa,k⟩:=(dz _ _ _).mp pv
  have hlen:(List.map V.ref us).length=rR.length:=by rw[aQ,su0.1]
  rw[hlen,iK]at sc lkv
  rw[hlen,iK]at Xa
  have S':=k _ _ Gd.symm hxL hx0
  repeat (walk_at "rd")
  refine⟨t.aA,dx,_,S',T.aT,T.cR,(by show 4<1000;decide),?_⟩
  have nx:∀{b:Addr} {o:HO},H1 b=some o->b≠x->upd H1 x (.ins t.aA dx (nU (Str.ofString "unknown") (V.ref L) (sfs f l d u))) b=some o:=λe h=>by rw[aj h];exact e
  refine q _ L cs kv hL (by rw[ah];rfl) (nx zW hxL.symm) (sc.mono λb xs e=>nx e (aN e S' (by intro z;cases z))) (nx Tp Gd) lkv Xa λb o h1 h2 e=>nx (k b o h2 (av e hL) (s0 _ _ e)) h1
local macro_rules | `(tactic| walk_at "rd") => `(tactic| walk_at "rc")
local macro_rules | `(tactic| walk_at "rl") => `(tactic| first | (refine eN fun R hR => ?_) | walk_at "ry" | (refine Nx.to (by assumption) _ _ ?_))
def det(tells:List Int->Bool)(as:List (List Int))(T:List Int):Bool:=as.any λa=>cov (tells a) a T
def qW(tells:List Int->Bool)(as:List (List Int))(S:List Int):List (List Int):=if det tells as S=true then as else as++[S]
structure Yk(P:Program)(w:World)(K:PySem.W.Frag)(mg:Str->Option Value)(base:Heap)(k:Nat)(f:Addr){ι:Type}(Z own:Addr->Prop)(D:ι->Hp->Prop)(nx:ι->List Int->ι)(lim:ι->Prop)(dom:List Int->Prop)(tells:List Int->Bool):Prop where
 g:y9 P w K mg base k f Z D nx lim dom tells
 zo:∀b,Z b->own b
 od:∀i H b,D i H->own b->H b≠none
 os:∀i H H',D i H->(∀b o,(own b\/∃xs,o=.tup xs)->H b=some o->H' b=some o)->D i H'
def j9(own:Addr->Prop)(H:Hp)(C x f l d:Addr)(ps:List (List Int))(tells:List Int->Bool)(as:List (List Int)):Prop:=
 ∃(dx u:Addr) (bs us:List Addr) (aM:List (List Key×V)),H x=some (.ins C dx (sfs f l d u))/\H l=some (.lst (List.map V.ref bs))/\aI H bs as/\H d=some (.dT aM)/\(∀S∈ps,fU aM (S.map Sum.inl)=if det tells as S=true then some (.bl (tells S)) else none)/\
  H u=some (.lst (List.map V.ref us))/\aI H us (ps.filter λT=>!det tells as T)/\aM.length+(ps.filter λT=>!det tells as T).length<=ps.length/\u≠l/\¬own u/\as.Nodup/\∀s∈as,s∈ps
def ym(ps:List (List Int))(tells:List Int->Bool):Prop:=∀S∈ps,∀T∈ps,aF S T=true->tells T=true->tells S=true
theorem Fs(S:List Int):aF S S=true:=by unfold aF;simp
theorem Ui(b:Bool)(S:List Int):cov b S S=true:=by unfold cov;rw[Fs];cases b <;> rfl
theorem Gk(tells:List Int->Bool)(as:List (List Int))(S T:List Int):det tells (as++[S]) T=(det tells as T||cov (tells S) S T):=by unfold det;rw[List.any_append];simp
theorem tP{tells:List Int->Bool}{as:List (List Int)}{S:List Int}(h:S∈as):det tells as S=true:=ik.mpr ⟨S,h,Ui _ _⟩
theorem j9.keep{own:Addr->Prop}{H H':Hp}{C x f l d:Addr}{ps:List (List Int)}{tells:List Int->Bool}{as:List (List Int)}(h:j9 own H C x f l d ps tells as)(k:∀b o,(∀o',o≠cB o')->(∀tb,o≠.nL tb)->H b=some o->H' b=some o):j9 own H' C x f l d ps tells as:=by
 have p1:∀{xs:List V} (o':Obj),HO.lst xs≠cB o':=λ_ z=>by cases z
 have q1:∀{xs:List V} (tb:Array Value),HO.lst xs≠.nL tb:=λ_ z=>by cases z
 have q2:∀{xs:List V} (tb:Array Value),HO.tup xs≠.nL tb:=λ_ z=>by cases z
 have p2:∀{xs:List V} (o':Obj),HO.tup xs≠cB o':=λ_ z=>by cases z
 obtain⟨dx,u,bs,us,aM,h1,h2,h3,h4,h5,h6,h7,h8⟩:=h
 exact⟨dx,u,bs,us,aM,k _ _ (by intro o z;cases z) (by intro o z;cases z) h1,k _ _ p1 q1 h2,h3.mono λ_ _ e=>k _ _ p2 q2 e,k _ _ (by intro o z;cases z) (by intro o z;cases z) h4,h5,k _ _ p1 q1 h6,h7.mono λ_ _ e=>k _ _ p2 q2 e,h8⟩
theorem Zo{ps as:List (List Int)}(nd:as.Nodup)(h:∀s∈as,s∈ps):as.length<=ps.length:=eG nd h
def Ee(P:Program)(w:World)(K:PySem.W.Frag)(mg:Str->Option Value)(base:Heap)(C:Addr):Sp:=λvs H Q _=>∃x p,vs=[.ref x,.ref p]/\∃(ι:Type) (Z own:Addr->Prop) (D:ι->Hp->Prop) (nx:ι->List Int->ι) (lim:ι->Prop) (dom:List Int->Prop) (tells:List Int->Bool) (i0:ι) (f l d:Addr) (ps as:List (List Int)) (S:List Int),
 Yk P w K mg base 8 f Z own D nx lim dom tells/\D (as.foldl nx i0) H/\(∀ts:List (List Int),ts.length<=100->lim (ts.foldl nx i0))/\ym ps tells/\j9 own H C x f l d ps tells as/\H p=some (.tup (List.map V.int S))/\S∈ps/\ps.length<=100/\(∀s∈ps,dom s)/\¬own x/\¬own l/\¬own d/\
 ∀H',j9 own H' C x f l d ps tells (qW tells as S)->D ((qW tells as S).foldl nx i0) H'->(∀b o,¬Z b->b≠x->b≠l->b≠d->H b=some o->H' b=some o)->Q (.bl (tells S)) H'
theorem zH(T:Txt K mg t):cq P w K mg base eV 9 t.bY t.gU ["self","part"] (Ee P w K mg base t.aA):=by
 have uR:=Sf (P:=P) (w:=w) (base:=base) T
 refine T.uT.xl sZ (λvs H Q E h=>?_) (λcD A outer s H vs Q E hr h hc hf=>?_)
 ·obtain⟨x,p,rfl,_⟩:=h;rfl
 obtain⟨x,p,rfl,ι,Z,own,D,nx,lim,dom,tells,i0,f,l,d,ps,as,S,ask,hD,Ga,mono,snd,hp,hS,lps,tM,uw,Pk,nod,q⟩:=h
 have hu:=qd hr
 have U6:=hr.jn
 have Z1:=snd
 obtain⟨dx,u,bs,us,aM,hx,hl,sbs,hd,hkv,Xb,sus,lk,hul,nou,nd,sub⟩:=snd
 refine⟨_,(by apply gA;exact(cg (Vk (Hv hu (au hc 1) (fY (au hc 0) rfl))) (by apply aq;exact(cJ (lQ nC sA sD eL (fY (au hc 0) rfl) (ae (au hc 1) ai)));exact az (cJ (wy (au hc 0) T.aT T.tH uR hr.mono T.uL .nil bj (ae (au hc 1) (ae (MP (k:=8) hr.mono (au hc 0) (ae (au hc 1) ai)) ai))))) bt);exact az (aV (sL hu (fY (au hc 0) rfl) (au hc 1) (λ_ _=>rfl)))),?_⟩
 unfold Ng
 refine⟨λσ' H'=>σ'=[some (.ref x),some (.ref p)]/\j9 own H' t.aA x f l d ps tells (qW tells as S)/\D ((qW tells as S).foldl nx i0) H'/\(∀b o,¬Z b->b≠x->b≠l->b≠d->H b=some o->H' b=some o),?_,λσ' H' hN=>?_⟩
 ·repeat (first | walk_at "rl" | simp only[Bs])
  refine⟨t.aA,dx,_,hx,T.aT,T.cw,.ref d,rfl,d,rfl,_,tZ.t (k:=S.map Sum.inl) hd (by rw[n8];exact hp),?_⟩
  rw[hkv S hS]
  cases c:det tells as S with
  | true=>
   rw[aC rfl]
   simp only[Option.isSome_some,Bool.not_true]
   walk_at "r"
   rw[show qW tells as S=as from aC c]
   exact⟨Z1,hD,λb o _ _ _ _ e=>e⟩
  | false=>
   rw[show(if false=true then some (V.bl (tells S)) else none)=none from rfl]
   simp only[Option.isSome_none,Bool.not_false]
   walk_at "r"
   have lbs:=sbs.1
   have las:=Zo nd sub
   have Xk:l≠x:=aN hl hx (by intro z;cases z)
   have hld:l≠d:=aN hl hd (by intro z;cases z)
   have Gd:d≠x:=aN hd hx (by intro z;cases z)
   have hux:u≠x:=aN Xb hx (by intro z;cases z)
   have hud:u≠d:=aN Xb hd (by intro z;cases z)
   refine⟨t.aA,dx,_,hx,T.aT,T.cS,.ref l,rfl,.inl ⟨rfl,_,bw hl⟩,l,rfl,_,hl,by rw[aQ];exact cz (by omega),?_⟩
   have k1:∀b o,b≠l->H b=some o->upd H l (.lst (List.map V.ref bs++[V.ref p])) b=some o:=λb o h e=>by rw[aj h];exact e
   have Og:upd H l (.lst (List.map V.ref bs++[V.ref p])) l=some (.lst (List.map V.ref (bs++[p]))):=by rw[ah,fK];rfl
   generalize upd H l (.lst (List.map V.ref bs++[V.ref p]))=H1 at k1 Og ⊢
   have kt1:∀{b:Addr} {xs:List V},H b=some (.tup xs)->H1 b=some (.tup xs):=λe=>k1 _ _ (aN e hl (by intro z;cases z)) e
   have vv:D (as.foldl nx i0) H1:=ask.os _ _ _ hD λb o h e=>k1 b o (h.elim (λh z=>Pk (z ▸ h)) λ⟨xs,ho⟩=>aN e hl (by rw[ho];intro z;cases z)) e
   have S':=k1 _ _ Xk.symm hx
   have ng:=kt1 hp
   walk_at "r"
   obtain⟨sp,G0,run⟩:=ask.g.run
   refine⟨dx,_,S',rfl,t.aA,dx,_,S',T.aT,T.mU,f,rfl,ask.g.fn _ _ vv,ask.g.fn _ _ vv,sp,G0,run _ H1 p S _ vv (Ga as (by omega)) ng (tM S hS) λH2 yV k2=>?_⟩
   have nz:∀{b:Addr},¬own b->¬Z b:=λh z=>h (ask.zo _ z)
   have kt2:∀{b:Addr} {xs:List V},H b=some (.tup xs)->H2 b=some (.tup xs):=λe=>ask.g.tup vv k2 (kt1 e)
   have YT:=k2 _ _ (nz uw) S'
   have Y0:=k2 _ _ (nz Pk) Og
   have hd2:=k2 _ _ (nz nod) (k1 _ _ hld.symm hd)
   have hu2:=k2 _ _ (nz nou) (k1 _ _ hul Xb)
   have aD8:aI H2 us (ps.filter λT=>!det tells as T):=sus.mono λb xs e=>kt2 e
   refine⟨x,p,tells S,rfl,dx,f,l,d,u,S,_,us,aM,YT,kt2 hp,hu2,aD8,hd2,by omega,λH3 u3 us3 aCz hu3 S9 Vb Nh Y5 lk3 hv3 k3=>?_⟩
   have enx:qW tells as S=as++[S]:=aB (by rw[c];decide)
   have efl:((ps.filter λT=>!det tells as T).filter λT=>!cov (tells S) S T)=ps.filter λT=>!det tells (as++[S]) T:=by
    rw[List.filter_filter]
    congr 1
    funext T
    rw[Gk]
    cases det tells as T <;> cases cov (tells S) S T <;> rfl
   rw[efl]at Nh lk3
   have kt3:∀{b:Addr} {xs:List V},H2 b=some (.tup xs)->H3 b=some (.tup xs):=λe=>k3 _ _ (aN e YT (by intro z;cases z)) (aN e hd2 (by intro z;cases z)) e
   have aF3:=k3 _ _ Xk hld Y0
   rw[enx]
   refine⟨⟨dx,u3,bs++[p],us3,aCz,S9,aF3,(sbs.mono λb xs e=>kt3 (kt2 e)).snoc (kt3 (kt2 hp)),Y5,λT hT=>?_,Vb,Nh,by omega,(av Y0 hu3).symm,λz=>ask.od _ _ _ yV z hu3,?_,?_⟩,?_,λb o h1 h2 h3 h4 e=>k3 _ _ h2 h4 (k2 _ _ h1 (k1 _ _ h3 e))⟩
   ·rw[hv3,hkv T hT,Gk]
    by_cases e1:det tells as T=true
    ·have nin:¬(T∈(ps.filter λT=>!det tells as T)/\cov (tells S) S T=true):=λz=>by
      have:=(fL.mp z.1).2
      rw[e1]at this
      cases this
     rw[aB nin,aC e1,aC (by rw[e1];rfl)]
    ·have Ub:=Bc e1
     rw[Ub,Bool.false_or]
     by_cases e2:cov (tells S) S T=true
     ·rw[aC ⟨fL.mpr ⟨hT,by rw[Ub];rfl⟩,e2⟩,aC e2]
      congr 2
      unfold cov at e2
      cases eS:tells S with
      | true=>
       rw[eS]at e2
       simp at e2
       exact(mono T hT S hS e2 eS).symm
      | false=>
       rw[eS]at e2
       simp at e2
       cases eT:tells T with
       | true=>have:=mono S hS T hT e2 eT;rw[eS]at this;cases this
       | false=>rfl
     ·rw[aB λz=>e2 z.2,aB e2];rfl
   ·refine Aw.mpr ⟨nd,by simp,λa ha b hb z=>?_⟩
    rw[df]at hb
    rw[z,hb]at ha
    rw[tP ha]at c
    cases c
   ·intro s hs
    rcases dq.mp hs with z | z
    ·exact sub s z
    ·rw[df.mp z];exact hS
   ·rw[qy]
    exact ask.os _ _ _ yV λb o h e=>k3 b o (h.elim (λh z=>uw (z ▸ h)) λ⟨xs,ho⟩=>aN e YT (by rw[ho];intro z;cases z)) (h.elim (λh z=>nod (z ▸ h)) λ⟨xs,ho⟩=>aN e hd2 (by rw[ho];intro z;cases z)) e
 ·obtain⟨rfl,aB5,vv,k1⟩:=hN
  have aD9:=aB5
  obtain⟨dx1,u1,bs1,us1,aHq,S',Og,aHm,Tp,aF4,hu1,aHk,lk1,aHs,aHp,nd1,aHl⟩:=aB5
  have dS:det tells (qW tells as S) S=true:=by
   unfold qW
   by_cases c:det tells as S=true
   ·rw[aC c];exact c
   ·rw[aB c];exact tP (by simp)
  have ng:H' p=some (.tup (List.map V.int S)):=k1 p _ (λz=>ask.g.nt _ H p _ hD z hp) (aN hp hx (by intro z;cases z)) (aN hp hl (by intro z;cases z)) (aN hp hd (by intro z;cases z)) hp
  repeat (first | walk_at "rl" | simp only[zm])
  have e1:=aF4 S hS
  rw[aC dS]at e1
  exact⟨t.aA,dx1,_,S',T.aT,T.cw,.ref d,rfl,d,rfl,_,by rw[<-e1];exact tZ.t (k:=S.map Sum.inl) Tp (by rw[n8];exact ng),q H' aD9 vv k1⟩
local macro_rules | `(tactic| walk_at "rd") => `(tactic| walk_at "rc")
local macro_rules | `(tactic| walk_at "rl") => `(tactic| first | (refine eN fun R hR => ?_) | walk_at "ry" | (refine Nx.to (by assumption) _ _ ?_))
def aE:Expr:=match aK bL with
 | [_,.While _ [_,.If _ [.Expr (.Call _ [_,e,_] _ _) _] _ _] _ _,_,_,_]=>e
 | _=>.Name "" ⟨0,0,0,0⟩
def N7:Expr->Arguments
 | .Lambda a _ _ _=>a
 | _=>{ posonlyargs:=[],args:=[],vararg:=none,kwonlyargs:=[],kw_defaults:=[],kwarg:=none,defaults:=[] }
def N6:Expr->Expr
 | .Lambda _ b _ _=>b
 | e=>e
def Jh:Expr->Scope
 | .Lambda _ _ s _=>s
 | _=>{ kind:=.function,names:=[],isGenerator:=false,isCoroutine:=false }
def tJ:Expr->Pos
 | .Lambda _ _ _ p=>p
 | _=>⟨0,0,0,0⟩
def aB0(P:Program)(w:World)(K:PySem.W.Frag)(mg:Str->Option Value)(base:Heap)(C g c':Addr)(fo oc:Obj)(cl:List (Str×Addr))(x:Addr):Sp:=λvs H Q _=>∃p,vs=[.ref p]/\H g=some (cB fo)/\H c'=some (cB oc)/\∃Cs,dm Cs H/\CellsOk Cs cl ["sounding"] [.ref x]/\∃dx fs,aO Cs H x=some (.ins C dx fs)/\fs.lookup ("tells" : Str)=none/\
 Ee P w K mg base C [.ref x,.ref p] (aO Cs H) (λv H'=>cT Cs H'->Q v (eU Cs H')) E0
theorem X1(T:Txt K mg t){g c' x:Addr}{oc:Obj}{Bn:Array Value}{tq:Tok}{qual:Str}{cl:List (Str×Addr)}{pm ctv:Value}(uB:oc.data=.fields Bn)(hq:Bn[1]?=some (.str qual tq))
  (uA:∀x c,cl.lookup x=some c->x∈(["sounding"]:List Str)) (inj:∀x y c,cl.lookup x=some c->cl.lookup y=some c->x=y) :
  oW P w K mg base 12 g (aB0 P w K mg base t.aA g c' (PySem.W.kla_obj "<lambda>" qual (N7 aE) (N6 aE) (Jh aE) cl pm c' ctv) oc cl x):=by
 have g7:=zH (P:=P) (w:=w) (base:=base) T
 refine XZ (k:=11) (fo:=PySem.W.kla_obj "<lambda>" qual (N7 aE) (N6 aE) (Jh aE) cl pm c' ctv) (oc:=oc) (name:="<lambda>") (qual:=qual) (params:=N7 aE) (body:=N6 aE) (scope:=Jh aE) (cl:=cl) (pm:=pm) (ctv:=ctv) (ps:=["part"]) (fr:=["sounding"]) rfl uB hq rfl rfl rfl (by decide +kernel) (by decide +kernel) (by decide +kernel) (by decide +kernel) (λx hx=>?_) uA inj (λus hu=>?_) λvs H Q E h=>?_
 ·have:L2.freeOf (Jh aE)=(["sounding"]:List Str):=by decide +kernel
  rw[<-this]
  exact gd.mpr ⟨(x,.free),fL.mpr ⟨jM hx,rfl⟩,rfl⟩
 ·match us,hu with
  | [_],_=>rfl
 obtain⟨p,rfl,hf,vr,C,pin,yc,dx,fs,hx,Xl,q⟩:=h
 refine⟨C,[.ref x],rfl,hf,vr,pin,rfl,yc,λA outer s hr hc=>?_⟩
 refine⟨_,(wy (au hc 1) T.aT T.j5 g7 hr.mono T.lI .nil bj (ae (au hc 0) ai)),?_⟩
 walk_at "r"
 exact⟨_,_,hx,Xl,q⟩
theorem X9(T:Txt K mg t){g c' x f l d:Addr}{oc:Obj}{Bn:Array Value}{tq:Tok}{qual:Str}{cl:List (Str×Addr)}{pm ctv:Value}(uB:oc.data=.fields Bn)(hq:Bn[1]?=some (.str qual tq))
  (uA:∀x c,cl.lookup x=some c->x∈(["sounding"]:List Str)) (inj:∀x y c,cl.lookup x=some c->cl.lookup y=some c->x=y)
  {Cs:List (Addr×Obj)} (yc:CellsOk Cs cl ["sounding"] [.ref x]) {ι:Type} {Z own:Addr->Prop} {D:ι->Hp->Prop} {nx:ι->List Int->ι} {lim:ι->Prop} {dom:List Int->Prop} {tells:List Int->Bool} (ask:Yk P w K mg base 8 f Z own D nx lim dom tells)
  {i0:ι} (Ga:∀ts:List (List Int),ts.length<=100->lim (ts.foldl nx i0)) {ps:List (List Int)} (mono:ym ps tells) (lps:ps.length<=100) (tM:∀s∈ps,dom s) (uw:¬own x) (Pk:¬own l) (nod:¬own d) (nog:¬own g) (Sj:¬own c') (noC:∀b o,Cs.lookup b=some o->¬own b) :
  y9 P w K mg base 12 g (λb=>Z b\/b=x\/b=l\/b=d) (λas H=>H g=some (cB (PySem.W.kla_obj "<lambda>" qual (N7 aE) (N6 aE) (Jh aE) cl pm c' ctv))/\H c'=some (cB oc)/\dm Cs H/\j9 own H t.aA x f l d ps tells as/\D (as.foldl nx i0) H) (qW tells) (λ_=>True) (λS=>S∈ps) tells:=by
 refine⟨⟨_,X1 T (x:=x) (g:=g) (c':=c') (pm:=pm) (ctv:=ctv) uB hq uA inj,λas H p S Q hD _ hp hS q=>?_⟩,λas H hD=>⟨_,_,hD.1,rfl⟩,λas H H' hD s=>?_,λas H b xs hD hz e=>?_⟩
 ·obtain⟨h1,h2,h3,h4,h5⟩:=hD
  have out:∀{b:Addr} {o:HO},H b=some o->(∀o',o≠cB o')->aO Cs H b=some o:=λe n=>by rw[aL (h3.out e n)];exact e
  have h4':j9 own (aO Cs H) t.aA x f l d ps tells as:=h4.keep λb o n _ e=>out e n
  have h5':D (as.foldl nx i0) (aO Cs H):=ask.os _ _ _ h5 λb o h e=>by
   rcases h with h | ⟨xs,rfl⟩
   ·cases z:Cs.lookup b with
    | none=>rw[aL z];exact e
    | some o'=>exact absurd h (noC b o' z)
   ·exact out e (by intro o z;cases z)
  have aGm:=h4'
  obtain⟨dx,u,_,_,_,hx,hl,_,hd,_⟩:=aGm
  have nz:∀{b:Addr},¬own b->¬Z b:=λh z=>h (ask.zo _ z)
  refine⟨p,rfl,h1,h2,Cs,h3,yc,dx,_,hx,rfl,x,p,rfl,ι,Z,own,D,nx,lim,dom,tells,i0,f,l,d,ps,as,S,ask,h5',Ga,mono,h4',out hp (by intro o z;cases z),hS,lps,tM,uw,Pk,nod,λH' s' d' k' po=>?_⟩
  have keep:∀b o,¬Z b->b≠x->b≠l->b≠d->H b=some o->eU Cs H' b=some o:=λb o n1 n2 n3 n4 e=>by
   cases z:Cs.lookup b with
   | some o'=>rw[iZ z,<-h3 b o' z];exact e
   | none=>rw[bJ z];exact k' b o n1 n2 n3 n4 (by rw[aL z];exact e)
  have ne:∀{b:Addr} {o':Obj},H b=some (cB o')->b≠x/\b≠l/\b≠d:=λ{b o'} e=>by
   have aAA:∀{a:Addr} {o:HO},aO Cs H a=some o->H a=some o:=λ{a o} e=>by
    cases z:Cs.lookup a with
    | none=>rw[aL z]at e;exact e
    | some o'=>rw[lD z]at e;cases e
   exact⟨aN e (aAA hx) (by intro z;cases z),aN e (aAA hl) (by intro z;cases z),aN e (aAA hd) (by intro z;cases z)⟩
  refine q _ ⟨keep _ _ (nz nog) (ne h1).1 (ne h1).2.1 (ne h1).2.2 h1,keep _ _ (nz Sj) (ne h2).1 (ne h2).2.1 (ne h2).2.2 h2,cT.added,?_,?_⟩ λb o n e=>keep b o (λz=>n (.inl z)) (λz=>n (.inr (.inl z))) (λz=>n (.inr (.inr (.inl z)))) (λz=>n (.inr (.inr (.inr z)))) e
  ·exact s'.keep λb o _ _ e=>by rw[bJ (po.out e)];exact e
  ·exact ask.g.st _ _ _ d' λb o e=>by rw[bJ (po.out e)];exact e
 ·obtain⟨h1,h2,h3,h4,h5⟩:=hD
  exact⟨s _ _ h1,s _ _ h2,λb o e=>s _ _ (h3 b o e),h4.keep λb o _ _ e=>s _ _ e,ask.g.st _ _ _ h5 s⟩
 ·obtain⟨h1,h2,h3,h4,h5⟩:=hD
  obtain⟨dx,u,_,_,_,hx,hl,_,hd,_⟩:=h4
  rcases hz with z | rfl | rfl | rfl
  ·exact ask.g.nt _ H b xs h5 z e
  ·rw[hx]at e;cases e
  ·rw[hl]at e;cases e
  ·rw[hd]at e;cases e
local macro_rules | `(tactic| walk_at "rd") => `(tactic| walk_at "rc")
local macro_rules | `(tactic| walk_at "rl") => `(tactic| first | (refine eN fun R hR => ?_) | walk_at "ry" | (refine Nx.to (by assumption) _ _ ?_))
theorem ko{x t:List Int}(h:t∈fV x):t.Sublist x:=by
 have:∀(x:List Int) (y:List Int) (ps:List (List Int)),(∀p∈ps,p.Sublist y)->∀t∈x.foldl nO ps,t.Sublist (y++x):=λx=>by
  induction x with
  | nil=>intro y ps h t ht;rw[gh];exact h t ht
  | cons k x ih=>
   intro y ps h t ht
   rw[ig]at ht
   have st:∀p∈nO ps k,p.Sublist (y++[k]):=λp hp=>by
    unfold nO at hp
    rcases dq.mp hp with hp | hp
    ·exact(h p hp).trans (List.sublist_append_left _ _)
    ·obtain⟨c,hc,rfl⟩:=gd.mp hp
     exact(h c hc).append (qw _)
   have:=ih (y++[k]) _ st t ht
   rwa [Av]at this
 exact this x [] [[]] (by simp) t h
theorem Nj{x t:List Int}:t∈fV x↔t.Sublist x:=by
 refine⟨ko,λh=>?_⟩
 have:∀(x:List Int) (ps:List (List Int)) (p s:List Int),p∈ps->s.Sublist x->p++s∈x.foldl nO ps:=λx=>by
  induction x with
  | nil=>intro ps p s hp hs;rw[List.sublist_nil.mp hs,gh];exact hp
  | cons k x ih=>
   intro ps p s hp hs
   rw[ig]
   cases hs with
   | cons _ h1=>exact ih _ p s (uj _ hp) h1
   | cons_cons _ h1=>
    rename_i s'
    have:=ih (nO ps k) (p++[k]) s' (nB _ (gd.mpr ⟨p,hp,rfl⟩)) h1
    rwa [Av]at this
 exact this x [[]] [] t (by simp) h
def turn(W:List Int)(tells:List Int->Bool)(as:List (List Int))(S:List Int):List (List Int):=
 if tells S=true then (iQ tells (qW tells) W (bO W S) (S,qW tells (qW tells as S) S)).2 else qW tells as S
inductive oN (ps:List (List Int)) (W:List Int) (tells:List Int->Bool):List (List Int)->Prop
 | nil:oN ps W tells []
 | step {as:List (List Int)} {S:List Int} {r:List (List Int)}:oN ps W tells as->(ps.filter λT=>!det tells as T)=S::r->oN ps W tells (turn W tells as S)
theorem Cq{tells:List Int->Bool}{as:List (List Int)}{S a:List Int}(h:a∈as):a∈qW tells as S:=by
 unfold qW
 by_cases c:det tells as S=true
 ·rw[aC c];exact h
 ·rw[aB c];exact uj _ h
theorem XQ(tells:List Int->Bool)(as:List (List Int))(S:List Int):det tells (qW tells as S) S=true:=by
 unfold qW
 by_cases c:det tells as S=true
 ·rw[aC c];exact c
 ·rw[aB c];exact tP (by simp)
theorem Gm{tells:List Int->Bool}{as as':List (List Int)}(h:∀a∈as,a∈as'){T:List Int}(hd:det tells as T=true):det tells as' T=true:=by
 obtain⟨a,ha,e⟩:=ik.mp hd
 exact ik.mpr ⟨a,h a ha,e⟩
theorem xT(tells:List Int->Bool)(W:List Int){a:List Int}:∀(ms:List Int) (c:List Int×List (List Int)),a∈c.2->a∈(iQ tells (qW tells) W ms c).2
 | [],c,h=>h
 | m::ms,c,h=>by
  unfold iQ
  rw[ig]
  exact xT tells W ms _ (Cq h)
theorem zj{W:List Int}{tells:List Int->Bool}{as:List (List Int)}{S a:List Int}(h:a∈qW tells as S):a∈turn W tells as S:=by
 unfold turn
 by_cases c:tells S=true
 ·rw[aC c];exact xT tells W _ _ (Cq h)
 ·rw[aB c];exact h
theorem M9{ps:List (List Int)}{W:List Int}{tells:List Int->Bool}{as:List (List Int)}{S:List Int}{r:List (List Int)}(h:(ps.filter λT=>!det tells as T)=S::r):(ps.filter λT=>!det tells (turn W tells as S) T).length<(ps.filter λT=>!det tells as T).length:=by
 have e:(ps.filter λT=>!det tells (turn W tells as S) T)=(ps.filter λT=>!det tells as T).filter λT=>!det tells (turn W tells as S) T:=by
  rw[List.filter_filter]
  refine List.filter_congr λT _=>?_
  cases d:det tells as T with
  | false=>simp
  | true=>rw[Gm (λa ha=>zj (Cq ha)) d];rfl
 rw[e,h,List.filter_cons,aB (by rw[Gm (λa ha=>zj ha) (XQ tells as S)];decide)]
 exact Nat.lt_succ_of_le (sy _ _)
def vB(own:Addr->Prop)(H:Hp)(pT:Addr)(qual:Str):Prop:=∃tb,H pT=some (.nL tb)/\TriplesOk tb.toList/\(codeAmong (tJ aE) tb.toList=none\/∃c' oc vs tq,codeAmong (tJ aE) tb.toList=some (.ref c')/\H c'=some (cB oc)/\oc.data=.fields vs/\vs[1]?=some (.str qual tq)/\¬own c')
def qS:Str:=(Str.ofString "sounded" ++ (".<locals>." : Str))++Str.ofString "<lambda>"
def Nk(P:Program)(w:World)(K:PySem.W.Frag)(mg:Str->Option Value)(base:Heap)(pT:Addr):Sp:=λvs H Q _=>∃U f,vs=[.ref U,.ref f]/\∃(ι:Type) (Z own:Addr->Prop) (D:ι->Hp->Prop) (nx:ι->List Int->ι) (lim:ι->Prop) (dom:List Int->Prop) (tells:List Int->Bool) (i0:ι) (W:List Int),
 Yk P w K mg base 8 f Z own D nx lim dom tells/\D i0 H/\(∀ts:List (List Int),ts.length<=100->lim (ts.foldl nx i0))/\H U=some (.tup (List.map V.int W))/\fG W/\W.length<=5/\(∀T,T.Sublist W->dom T)/\ym (fV W) tells/\vB own H pT qS/\¬own pT/\
 ∀r H' c p l cs qs bs clashes kx as ps,H' r=some (.tup [V.ref c,V.ref p,V.ref l])->H' c=some (.lst (List.map V.ref cs))->aI H' cs clashes->H' p=some (.lst (List.map V.ref qs))->aI H' qs kx->H' l=some (.lst (List.map V.ref bs))->aI H' bs as->
  D (as.foldl nx i0) H'->(∀b o,¬Z b->b≠pT->H b=some o->H' b=some o)->(∀x,x∈clashes↔x∈as.filter (λa=>!tells a)/\∀y∈as.filter (λa=>!tells a),aF y x=true->y=x)->(∀x,x∈kx↔x∈as.filter tells/\∀y∈as.filter tells,aF x y=true->y=x)->
  clashes.Pairwise (λa b=>cu a b=true)->kx.Pairwise (λa b=>cu a b=true)->ps.Pairwise (λa b=>cu a b=true)->(∀T,T∈ps↔T∈fV W)->oN ps W tells as->(∀T∈ps,det tells as T=true)->as.Nodup->(∀a∈as,a∈ps)->vB own H' pT qS->c≠p->c≠l->p≠l->¬own c->¬own p->¬own l->Q (.ref r) H'
theorem Im(T:Txt K mg t){c pT:Addr}(j7:t.lE.code=.ref c)(hC:PySem.W.CodeHd base c pT)(hB:BMain mg base):cq P w K mg base eV 16 t.dn t.lE ["whole","ask"] (Nk P w K mg base pT):=by
 have Kb:=R9 (P:=P) (w:=w) (base:=base) T
 have pN:=Sg (P:=P) (w:=w) (base:=base) T
 have g7:=zH (P:=P) (w:=w) (base:=base) T
 have Dq:=Ew (P:=P) (w:=w) (base:=base) T
 have Kd:=Se (P:=P) (w:=w) (base:=base) T
 have y7:=Ex (P:=P) (w:=w) (base:=base) T
 refine T.Ae.aCq jo (λvs H Q E h=>?_) (λcD A outer s H vs Q E hcv hr h hc hf=>?_)
 ·obtain⟨a,f,rfl,_⟩:=h;rfl
 have vq:=hcv.symm.trans j7
 obtain⟨U,f,rfl,ι,Z,own,D,nx,lim,dom,tells,i0,W,ask,hD,Ga,hU,rise,lW,tM,mono,aBW,aAF,q⟩:=h
 have eqS:qS=(dF eV P w K mg base dC (Str.ofString "sounded") (ag bL) t.dn cD A outer s H E).env.qual++Str.ofString "<lambda>":=rfl
 rw[eqS]at aBW q
 clear eqS
 obtain⟨tb,YX,htb,aBj⟩:=aBW
 have hu:=qd hr
 have U6:=hr.jn
 refine⟨_,(by apply aq;exact(aH hc jo.nd hf 2 (by decide +kernel) (P7 T.Fg pN hr.mono (di hc) T.Jb T.pL .nil bj (ae (au hc 1) (ae (aG Kb hr.mono (di hc) T.IK T.yu.kp T.J0 .nil bj (ae (au hc 0) ai)) ai))));apply aq;exact(zc ie (aY K8 (cK pD (di hc) T.nH vA (ae (fY (au hc 2) rfl) ai)) ao (cj _)) (by apply aq;exact(aH hc jo.nd hf 3 (by decide +kernel) (bq fW (fY (au hc 2) rfl) ao (λ_ _=>rfl)));exact az (cg (du (wy (au hc 2) T.aT T.j5 g7 hr.mono T.lI .nil bj (ae (au hc 3) ai))) (by exact az (cJ (uo (xs:=[(2,"sounding")]) (cells:=cellsFrom (s.heap.objs.size+1) (ag bL).names []) (EH:=λ_=>E0) rfl Dq hr.mono (di hc) T.Lf T.Du.kp T.Mi Jg hf (Js hc (by decide +kernel)) (ae (au hc 0) (ae (P6 (fr:=["sounding"]) hc vq hC hB rfl (by decide +kernel) (by decide +kernel) rfl) (ae (au hc 3) ai)))))) bt)));apply aq;exact(oY hc jo.nd 4 (by decide +kernel) ["part"] [2] rfl (by decide +kernel) (fT (fY (au hc 2) rfl)) (λ_ hc=>sJ hc (by decide +kernel) 0 (by decide +kernel)) (λ_ hc=>ja (lP (du (sL hu (fY (au hc 1) rfl) (au hc 0) (λ_ _=>rfl))))) (λ_ hc=>(au hc 0)) (by rfl));apply aq;exact(oY hc jo.nd 5 (by decide +kernel) ["part"] [2] rfl (by decide +kernel) (fT (fY (au hc 2) rfl)) (λ_ hc=>sJ hc (by decide +kernel) 0 (by decide +kernel)) (λ_ hc=>ja (du (sL hu (fY (au hc 1) rfl) (au hc 0) (λ_ _=>rfl)))) (λ_ hc=>(au hc 0)) (by rfl));exact az (aV (fA (ae (aG Kd hr.mono (di hc) T.IW T.yv.kp T.J2 .nil bj (ae (au hc 4) ai)) (ae (aG y7 hr.mono (di hc) T.yO T.ql.kp T.y0 .nil bj (ae (au hc 5) ai)) (ae (fY (au hc 2) rfl) ai)))))),?_⟩
 walk_at "r"
 refine⟨U,rfl,W,hU,by omega,λu H1 us ps s1 hu1 hu2 sus nd Xe pw=>?_⟩
 have lps:ps.length<=32:=by
  have h1:=eG nd λt ht=>(Xe t).mp ht
  rw[o7]at h1
  have h2:2 ^ W.length<=2 ^ 5:=Bd (by decide) lW
  omega
 refine λx dx hx Gd vp=>⟨x,f,u,dx,rfl,ah,λl d H2 hl hd YT Y0 hd2 k2=>⟨rfl,?_⟩⟩
 have Xk:l≠x:=λe=>by rw[e,ah]at hl;cases hl
 have aF6:d≠x:=λe=>by rw[e,ah]at hd;cases hd
 rw[aj Xk]at hl
 rw[aj aF6]at hd
 have Og:H1 l=none:=by
  by_cases e:l=dx
  ·rw[e];exact Gd
  ·rw[aj e]at hl;exact hl
 have Tp:H1 d=none:=by
  by_cases e:d=dx
  ·rw[e];exact Gd
  ·rw[aj e]at hd;exact hd
 have s2:cp H1 H2:=λb o e=>k2 b o (av e hx) (by rw[aj (av e hx),aj (av e Gd)];exact e)
 have s02:=s1.trans s2
 have vv:=ask.g.st _ _ _ hD s1
 have N0:∀{b:Addr},H1 b=none->¬own b:=λe z=>ask.od _ _ _ vv z e
 have nou:¬own u:=λz=>ask.od _ _ _ hD z hu1
 have uw:=N0 hx
 have Pk:=N0 Og
 have nod:=N0 Tp
 have YG:ym ps tells:=λS hS T' hT'=>mono S ((Xe S).mp hS) T' ((Xe T').mp hT')
 have Ju:∀{S:List Int},S∈ps↔S.Sublist W:=λ{S}=>by rw[Xe];exact Nj
 have Y4:∀s∈ps,dom s:=λs hs=>tM s (Ju.mp hs)
 have Z1:j9 own H2 t.aA x f l d ps tells []:=by
  refine⟨dx,u,[],us,[],YT,Y0,⟨rfl,λi b t e=>by simp at e⟩,hd2,λS _=>rfl,s2 _ _ hu2,?_,?_,av hu2 Og,nou,qq,λs hs=>(nomatch hs)⟩
  ·have:(ps.filter λT=>!det tells [] T)=ps:=List.filter_eq_self.mpr λT _=>rfl
   rw[this];exact sus.mono λb xs e=>s2 _ _ e
  ·exact fJ (by simpa using sy _ _) (bB _)
 clear k2
 walk_at "r"
 refine⟨λm σ' H'=>∃z as,σ'=[some (.ref U),some (.ref f),some (.ref x),z,none,none]/\m=(ps.filter λT=>!det tells as T).length/\j9 own H' t.aA x f l d ps tells as/\D (as.foldl nx i0) H'/\oN ps W tells as/\(∀b o,¬Z b->b≠pT->H b=some o->H' b=some o)/\vB own H' pT ((dF eV P w K mg base dC (Str.ofString "sounded") (ag bL) t.dn cD A outer s H E).env.qual++Str.ofString "<lambda>"),⟨_,none,[],rfl,rfl,Z1,ask.g.st _ _ _ hD s02,.nil,λb o _ _ e=>s02 _ _ e,tb,s02 _ _ YX,htb,aBj.imp id λ⟨c',oc,vs,tq,a1,a2,a3,a4,a5⟩=>⟨c',oc,vs,tq,a1,s02 _ _ a2,a3,a4,a5⟩⟩,?_⟩
 rintro m σ' H3 ⟨z,as,rfl,rfl,snd,GZ,tu,k3,tab⟩
 have aEa:=snd
 obtain⟨Zk,u3,yB,us3,aCz,S9,Vb,VJ,Y5,aCV,hu3,Nh,lk3,aHr,aHo,nd3,Qz⟩:=aEa
 walk_at "r"
 refine⟨t.aA,Zk,_,S9,T.aT,T.cR,.ref u3,rfl,u3,rfl,_,hu3,?_⟩
 have lus:(List.map V.ref us3).length=(ps.filter λT=>!det tells as T).length:=by rw[aQ,Nh.1]
 by_cases e0:0<((List.map V.ref us3).length:Int)
 ·rw[aC e0]
  obtain⟨S,r,eSr⟩:∃S r,(ps.filter λT=>!det tells as T)=S::r:=by
   cases e:(ps.filter λT=>!det tells as T) with
   | nil=>rw[lus,e]at e0;exact absurd e0 (by decide)
   | cons S r=>exact⟨S,r,rfl⟩
  refine⟨λσ' H'=>∃z,σ'=[some (.ref U),some (.ref f),some (.ref x),z,none,none]/\j9 own H' t.aA x f l d ps tells (turn W tells as S)/\D ((turn W tells as S).foldl nx i0) H'/\(∀b o,¬Z b->b≠pT->H b=some o->H' b=some o)/\vB own H' pT ((dF eV P w K mg base dC (Str.ofString "sounded") (ag bL) t.dn cD A outer s H E).env.qual++Str.ofString "<lambda>"),?_,?_⟩
  ·rintro σ' H' ⟨z,rfl,h1,h2,h3,h4⟩
   exact⟨_,M9 eSr,z,rfl,_,rfl,h1,h2,.step tu eSr,h3,h4⟩
  have aDd:S∈ps.filter λT=>!det tells as T:=by rw[eSr];exact dD
  have hS:S∈ps:=(fL.mp aDd).1
  have hSd:det tells as S=false:=by have:=(fL.mp aDd).2;simpa using this
  have sS:=Ju.mp hS
  obtain⟨p0,us4,rfl⟩:∃p0 us4,us3=p0::us4:=by
   cases us3 with
   | nil=>exact absurd e0 (by decide)
   | cons p0 us4=>exact⟨p0,us4,rfl⟩
  have Jx:H3 p0=some (.tup (List.map V.int S)):=by
   rw[eSr]at Nh
   exact Nh.2 0 p0 S rfl rfl
  walk_at "r"
  refine⟨t.aA,Zk,_,S9,T.aT,T.cR,.ref u3,rfl,u3,rfl,_,hu3,.ref p0,(by rw[fc,GD]),?_⟩
  walk_at "r"
  refine⟨Zk,_,S9,rfl,x,p0,rfl,ι,Z,own,D,nx,lim,dom,tells,i0,f,l,d,ps,as,S,ask,GZ,Ga,YG,snd,Jx,hS,by omega,Y4,uw,Pk,nod,λH4 aB4 vt k4=>⟨_,rfl,?_⟩⟩
  have nz:∀{b:Addr},¬own b->¬Z b:=λh z=>h (ask.zo _ z)
  have old:∀{b:Addr} {o:HO},H b=some o->b≠x/\b≠l/\b≠d:=λe=>⟨av (s1 _ _ e) hx,av (s1 _ _ e) Og,av (s1 _ _ e) Tp⟩
  have k34:∀b o,¬Z b->b≠pT->H b=some o->H4 b=some o:=λb o n1 n2 e=>k4 b o n1 (old e).1 (old e).2.1 (old e).2.2 (k3 b o n1 n2 e)
  have hUT:U≠pT:=aN hU YX (by intro z;cases z)
  have hU4:H4 U=some (.tup (List.map V.int W)):=k34 U _ (λz=>ask.g.nt _ H U _ hD z hU) hUT hU
  have hp4:H4 p0=some (.tup (List.map V.int S)):=k4 p0 _ (λz=>ask.g.nt _ H3 p0 _ GZ z Jx) (aN Jx S9 (by intro z;cases z)) (aN Jx Vb (by intro z;cases z)) (aN Jx Y5 (by intro z;cases z)) Jx
  have ZJ:vB own H4 pT ((dF eV P w K mg base dC (Str.ofString "sounded") (ag bL) t.dn cD A outer s H E).env.qual++Str.ofString "<lambda>"):=by
   obtain⟨tb',h1,h2,h3⟩:=tab
   refine⟨tb',k4 _ _ (nz aAF) (old YX).1 (old YX).2.1 (old YX).2.2 h1,h2,h3.imp id ?_⟩
   rintro⟨c',oc,vs,tq,a1,a2,a3,a4,a5⟩
   exact⟨c',oc,vs,tq,a1,k4 _ _ (nz a5) (aN a2 S9 (by intro z;cases z)) (aN a2 Vb (by intro z;cases z)) (aN a2 Y5 (by intro z;cases z)) a2,a3,a4,a5⟩
  cases eS:tells S with
  | false=>
   rw[aB (by decide)]
   have et:turn W tells as S=qW tells as S:=aB (by rw[eS];decide)
   exact⟨by rw[et];exact aB4,by rw[et];exact vt,k34,ZJ⟩
  | true=>
  rw[aC rfl]
  have use:∀(H5:Hp) (g c':Addr) (cl:List (Str×Addr)) (oc:Obj) (vs:Array Value) (tq:Tok) (pm ctv:Value),Mx (cellsFrom (s.heap.objs.size+1) (ag bL).names []) cl [Str.ofString "sounding"]->H5 g=some (cB (PySem.W.kla_obj "<lambda>" ((dF eV P w K mg base dC (Str.ofString "sounded") (ag bL) t.dn cD A outer s H E).env.qual++Str.ofString "<lambda>") (N7 aE) (N6 aE) (Jh aE) cl pm c' ctv))->H5 c'=some (cB oc)->oc.data=.fields vs->vs[1]?=some (.str ((dF eV P w K mg base dC (Str.ofString "sounded") (ag bL) t.dn cD A outer s H E).env.qual++Str.ofString "<lambda>") tq)->¬own g->¬own c'->(∀b o,b≠pT->H4 b=some o->H5 b=some o)->(∃tb,H5 pT=some (.nL tb)/\TriplesOk tb.toList/\codeAmong (tJ aE) tb.toList=some (.ref c'))->
    ∀(C:List (Addr×Obj)),CellsAre (cellsFrom (s.heap.objs.size+1) (ag bL).names []) [some (V.ref U),some (V.ref f),some (V.ref x),some (V.ref p0),none,none] [(2,Str.ofString "sounding")] C->cT C H5->∀(Q':VK) (E':XK),(∀v H',j9 own (aO C H') t.aA x f l d ps tells (turn W tells as S)/\D ((turn W tells as S).foldl nx i0) (aO C H')/\(∀b o,¬Z b->b≠pT->H b=some o->aO C H' b=some o)/\vB own (aO C H') pT ((dF eV P w K mg base dC (Str.ofString "sounded") (ag bL) t.dn cD A outer s H E).env.qual++Str.ofString "<lambda>")->Q' v H')->Kv P w K mg base t.aP [.ref U,.ref g,.ref p0] (eU C H5) Q' E':=λH5 g c' cl oc vs tq pm ctv la hg vr uB Ta nog Sj k5 aFR C ca po Q' E' q'=>by
   obtain⟨tb4,Xc,_,_⟩:=ZJ
   have kt5:∀{b:Addr} {xs:List V},H4 b=some (.tup xs)->H5 b=some (.tup xs):=λe=>k5 _ _ (aN e Xc (by intro z;cases z)) e
   have aB3:j9 own H5 t.aA x f l d ps tells (qW tells as S):=aB4.keep λb o _ n e=>k5 b o (aN e Xc (n tb4)) e
   have Pr:D ((qW tells as S).foldl nx i0) H5:=ask.os _ _ _ vt λb o h e=>k5 b o (h.elim (λh z=>aAF (z ▸ h)) λ⟨xs,ho⟩=>aN e Xc (by rw[ho];intro z;cases z)) e
   have noC:∀b o,C.lookup b=some o->¬own b:=λb o e z=>ask.od _ _ _ Pr z (po b o e)
   have yc:CellsOk C cl ["sounding"] [.ref x]:=λi y hy=>by
    match i,hy with
    | 0,hy=>
     cases hy
     obtain⟨c0,l1,l2⟩:=la.1 _ (df.mpr rfl)
     obtain⟨c1,o,u,v,a1,a2,a3,a4,a5⟩:=ca _ (df.mpr rfl)
     have a1':List.lookup (Str.ofString "sounding") (cellsFrom (s.heap.objs.size+1) (ag bL).names [])=some c1:=a1
     rw[a1']at l1
     cases l1
     cases a4
     exact⟨c0,o,u,_,l2,a2,a3,rfl,a5⟩
   have ak:=X9 (P:=P) (w:=w) (base:=base) T (g:=g) (c':=c') (x:=x) (f:=f) (l:=l) (d:=d) (pm:=pm) (ctv:=ctv) uB Ta la.2.1 la.2.2 yc ask Ga YG (by omega) Y4 uw Pk nod nog Sj noC
   have sC:cp H5 (eU C H5):=uM po
   have hD':(eU C H5) g=some (cB (PySem.W.kla_obj "<lambda>" ((dF eV P w K mg base dC (Str.ofString "sounded") (ag bL) t.dn cD A outer s H E).env.qual++Str.ofString "<lambda>") (N7 aE) (N6 aE) (Jh aE) cl pm c' ctv))/\(eU C H5) c'=some (cB oc)/\dm C (eU C H5)/\j9 own (eU C H5) t.aA x f l d ps tells (qW tells as S)/\D ((qW tells as S).foldl nx i0) (eU C H5):=⟨sC _ _ hg,sC _ _ vr,cT.added,aB3.keep λb o _ _ e=>sC _ _ e,ask.g.st _ _ _ Pr sC⟩
   refine⟨U,g,p0,rfl,_,_,_,_,_,_,tells,qW tells as S,W,S,ak,trivial,λ_=>trivial,hD',sC _ _ (kt5 hU4),sC _ _ (kt5 hp4),rise,sS,by omega,λT hT=>Ju.mpr hT,λz=>absurd (z.symm.trans eS) (by decide),λ_ r H6 Vf k6 _=>q' _ _ ?_⟩
   obtain⟨g1,g2,g3,g4,g5⟩:=Vf
   have et:turn W tells as S=(iQ tells (qW tells) W (bO W S) (S,qW tells (qW tells as S) S)).2:=aC eS
   have out:∀{b:Addr} {o:HO},H6 b=some o->(∀o',o≠cB o')->aO C H6 b=some o:=λe n=>by rw[aL (g3.out e n)];exact e
   have keep:∀{b:Addr} {o:HO},¬Z b->b≠x->b≠l->b≠d->H5 b=some o->aO C H6 b=some o:=λ{b o} n1 n2 n3 n4 e=>by
    rw[aL (po.out e)]
    exact k6 b o (λz=>z.elim n1 λz=>z.elim n2 λz=>z.elim n3 n4) (sC _ _ e)
   rw[et]
   refine⟨g4.keep λb o n _ e=>out e n,ask.os _ _ _ g5 λb o h e=>?_,λb o n1 n2 e=>keep n1 (old e).1 (old e).2.1 (old e).2.2 (k5 b o n2 (k34 b o n1 n2 e)),?_⟩
   ·rcases h with h | ⟨xs,rfl⟩
    ·cases z:C.lookup b with
     | none=>rw[aL z];exact e
     | some o'=>exact absurd h (noC b o' z)
    ·exact out e (by intro o z;cases z)
   ·obtain⟨tb5,t1,t2,t3⟩:=aFR
    have aB2:=aB3
    obtain⟨dx5,u5,_,_,_,hx5,hl5,_,Oj,_⟩:=aB2
    exact⟨tb5,keep (nz aAF) (old YX).1 (old YX).2.1 (old YX).2.2 t1,t2,.inr ⟨c',oc,vs,tq,t3,keep (nz Sj) (aN vr hx5 (by intro z;cases z)) (aN vr hl5 (by intro z;cases z)) (aN vr Oj (by intro z;cases z)) vr,uB,Ta,Sj⟩⟩
  walk_at "r"
  have vals:∀q∈[(2,Str.ofString "sounding")],∃v,([some (V.ref U),some (V.ref f),some (V.ref x),some (V.ref p0),none,none]:St)[q.1]?=some (some v):=λq hq=>by
   rw[df.mp hq];exact⟨_,rfl⟩
  have aBV:=ZJ
  obtain⟨tb4,Xc,tr4,aC5⟩:=aBV
  refine⟨tb4,Xc,tr4,?_⟩
  rcases aC5 with hn | ⟨c',oc,vs,tq,YW,vr,uB,Ta,Sj⟩
  ·refine .inl ⟨hn,λcl g c' oc vs tq ctv la hg vr hgc uB Ta=>⟨vals,λC ca po=>?_⟩⟩
   have hgT:g≠pT:=λz=>by rw[z,Xc]at hg;cases hg
   have hcT:c'≠pT:=λz=>by rw[z,Xc]at vr;cases vr
   refine use _ g c' cl oc vs tq _ ctv la ah ?_ uB Ta (λz=>ask.od _ _ _ vt z hg) (λz=>ask.od _ _ _ vt z vr) (λb o n e=>?_) ⟨tb4 ++ #[rawInt (tJ aE).line,rawInt (tJ aE).col,.ref c'],?_,?_,?_⟩ C ca po _ _ λv H' h=>h
   ·rw[aj hgc.symm,ah]
   ·rw[aj (av e hg),aj (av e vr),aj n]
    exact e
   ·rw[aj hgT.symm,aj hcT.symm,ah]
    rfl
   ·rw[Hc]
    exact TriplesOk_snoc _ _ _ _ tr4
   ·rw[Hc]
    exact codeAmong_snoc _ tr4 hn
  ·refine .inr ⟨c',YW,λcl g ctv la hg=>⟨vals,λC ca po=>?_⟩⟩
   have hgT:g≠pT:=λz=>by rw[z,Xc]at hg;cases hg
   refine use _ g c' cl oc vs tq _ ctv la ah (by rw[aj (av vr hg)];exact vr) uB Ta (λz=>ask.od _ _ _ vt z hg) Sj (λb o n e=>by rw[aj (av e hg)];exact e) ⟨tb4,by rw[aj hgT.symm];exact Xc,tr4,YW⟩ C ca po _ _ λv H' h=>h
 ·rw[aB e0]
  have un:(ps.filter λT=>!det tells as T)=[]:=by
   have:(ps.filter λT=>!det tells as T).length=0:=by rw[<-lus];omega
   exact PB this
  have Dm:∀T'∈ps,det tells as T'=true:=λT' hT'=>by
   have:=List.filter_eq_nil_iff.mp un T' hT'
   simpa using this
  have las:=Zo nd3 Qz
  have lbs:=VJ.1
  walk_at "r"
  refine⟨t.aA,Zk,_,S9,T.aT,T.cS,.ref l,rfl,l,rfl,⟨_,bw Vb⟩,?_⟩
  refine jy (zs:=List.map V.ref yB) (λj=>if (as[j]?.any λa=>!tells a) then as[j]? else none) (λ_=>jH) jH.same jH.puts Vb (by rw[aQ];omega) (λDD c H4 j z' yes no hj s4 Ve Vd fq yA=>?_) (λD1 H4 vs s4 vv aGl rl=>?_)
  ·obtain⟨b,eb,rfl⟩:=jr hj
   have hj1:j<yB.length:=(dO.mp eb).1
   have es:as[j]?=some (as[j]'(by omega)):=bP _
   have hb:=s4 _ _ (VJ.2 j b _ eb es)
   have ha:as[j]'(by omega)∈as:=se _
   rw[es]at fq yA
   generalize as[j]'(by omega)=y at hb fq yA ha
   have ev:=aCV y (Qz y ha)
   rw[aC (tP ha)]at ev
   repeat (first | walk_at "rl" | simp only[zm])
   refine⟨t.aA,Zk,_,s4 _ _ S9,T.aT,T.cw,.ref d,rfl,d,rfl,_,by rw[<-ev];exact tZ.t (k:=y.map Sum.inl) (s4 _ _ Y5) (by rw[n8];exact hb),_,rfl,?_⟩
   cases ey:tells y with
   | true=>exact yA (by simp[ey]) _ λ_ _ e=>e
   | false=>exact fq y (by simp[ey]) _ _ (λ_ _ e=>e) ⟨b,rfl,hb⟩
  obtain⟨cs,rfl,scs⟩:=BP rl
  rw[aQ,lbs,pz (l:=as) (p:=λa=>!tells a) λi hi=>by rw[bP hi];rfl]at scs
  have hx4:=s4 _ _ S9
  have hl4:=s4 _ _ Vb
  walk_at "r"
  refine⟨t.aA,Zk,_,hx4,T.aT,T.cS,.ref l,rfl,l,rfl,⟨_,bw hl4⟩,?_⟩
  refine jy (zs:=List.map V.ref yB) (λj=>if (as[j]?.any tells) then as[j]? else none) (λ_=>jH) jH.same jH.puts hl4 (by rw[aQ];omega) (λDD c H5 j z' yes no hj s5 Ve Vd fq yA=>?_) (λD2 H5 vs s5 yV aGj rl2=>?_)
  ·obtain⟨b,eb,rfl⟩:=jr hj
   have hj1:j<yB.length:=(dO.mp eb).1
   have es:as[j]?=some (as[j]'(by omega)):=bP _
   have hb:=s5 _ _ (s4 _ _ (VJ.2 j b _ eb es))
   have ha:as[j]'(by omega)∈as:=se _
   rw[es]at fq yA
   generalize as[j]'(by omega)=y at hb fq yA ha
   have ev:=aCV y (Qz y ha)
   rw[aC (tP ha)]at ev
   repeat (first | walk_at "rl" | simp only[zm])
   refine⟨t.aA,Zk,_,s5 _ _ hx4,T.aT,T.cw,.ref d,rfl,d,rfl,_,by rw[<-ev];exact tZ.t (k:=y.map Sum.inl) (s5 _ _ (s4 _ _ Y5)) (by rw[n8];exact hb),_,rfl,?_⟩
   cases ey:tells y with
   | false=>exact yA (by simp[ey]) _ λ_ _ e=>e
   | true=>exact fq y (by simp[ey]) _ _ (λ_ _ e=>e) ⟨b,rfl,hb⟩
  obtain⟨qs,rfl,sqs⟩:=BP rl2
  rw[aQ,lbs,pz (l:=as) (p:=tells) λi hi=>by rw[bP hi];rfl]at sqs
  have Q0:∀a∈as,fG a:=λa ha=>rise.sublist (Ju.mp (Qz a ha))
  have lf1:=sy (λa=>!tells a) as
  have lf2:=sy tells as
  have lc1:=scs.1
  have lq1:=sqs.1
  walk_at "r"
  refine⟨D1,rfl,cs,_,s5 _ _ aGl,scs.mono λb xs e=>s5 _ _ e,by omega,λa ha=>Q0 a (fL.mp ha).1,λR1 H6 cs6 clashes s6 Pp aBq sc6 aFs pw6=>?_⟩
  refine⟨D2,rfl,qs,_,s6 _ _ aGj,sqs.mono λb xs e=>s6 _ _ e,by omega,λa ha=>Q0 a (fL.mp ha).1,λR2 H7 cs7 kx s7 Xu aGe sc7 aFr pw7=>?_⟩
  have s57:=s6.trans s7
  have s37:=(s4.trans s5).trans s57
  refine⟨t.aA,Zk,_,s37 _ _ S9,T.aT,T.cS,.ref l,rfl,by decide,λr hr7=>?_⟩
  have s8:=aD hr7 (.tup [V.ref R1,V.ref R2,V.ref l])
  have s38:=s37.trans s8
  have aD6:vB own (upd H7 r (.tup [V.ref R1,V.ref R2,V.ref l])) pT ((dF eV P w K mg base dC (Str.ofString "sounded") (ag bL) t.dn cD A outer s H E).env.qual++Str.ofString "<lambda>"):=by
   obtain⟨tb',h1,h2,h3⟩:=tab
   exact⟨tb',s38 _ _ h1,h2,h3.imp id λ⟨c',oc,vs,tq,a1,a2,a3,a4,a5⟩=>⟨c',oc,vs,tq,a1,s38 _ _ a2,a3,a4,a5⟩⟩
  exact q r _ R1 R2 l cs6 cs7 yB clashes kx as ps ah (s8 _ _ (s7 _ _ aBq)) (sc6.mono λb xs e=>s8 _ _ (s7 _ _ e)) (s8 _ _ aGe) (sc7.mono λb xs e=>s8 _ _ e) (s38 _ _ Vb) (VJ.mono λb xs e=>s38 _ _ e) (ask.g.st _ _ _ GZ s38) (λb o n1 n2 e=>s38 _ _ (k3 b o n1 n2 e)) aFs aFr pw6 pw7 pw Xe tu Dm nd3 Qz aD6 (λz=>by rw[z]at aBq;rw[aBq]at Xu;cases Xu) (λz=>by rw[z]at Pp;rw[(s4.trans s5) _ _ Vb]at Pp;cases Pp) (λz=>by rw[z]at Xu;rw[((s4.trans s5).trans s6) _ _ Vb]at Xu;cases Xu) (λz=>ask.od _ _ _ (ask.g.st _ _ _ GZ (s4.trans s5)) z Pp) (λz=>ask.od _ _ _ (ask.g.st _ _ _ GZ ((s4.trans s5).trans s6)) z Xu) Pk
local macro_rules | `(tactic| walk_at "rd") => `(tactic| walk_at "rc")
local macro_rules | `(tactic| walk_at "rl") => `(tactic| first | (refine eN fun R hR => ?_) | walk_at "ry" | (refine Nx.to (by assumption) _ _ ?_))
def e8(tells:List Int->Bool)(ms c:List Int):List Int:=ms.foldl (λc m=>if tells (bO c [m])=true then c else bO c [m]) c
theorem ph(c y:List Int):(bO c y).Sublist c:=wo
theorem jQ(tells:List Int->Bool):∀(ms c:List Int),(e8 tells ms c).Sublist c
 | [],c=>qw _
 | m::ms,c=>by
  unfold e8
  rw[ig]
  refine(jQ tells ms _).trans ?_
  by_cases h:tells (bO c [m])=true
  ·rw[aC h];exact qw _
  ·rw[aB h];exact ph c [m]
def aDY(P:Program)(w:World)(K:PySem.W.Frag)(mg:Str->Option Value)(base:Heap)(k:Nat)(f:Addr){ι:Type}(Z:Addr->Prop)(D:ι->Hp->Prop)(nx:ι->List Int->ι)(lim:ι->Prop)(dom:List Int->Prop)(tells:List Int->Bool):Prop:=
 ∃sp,gH P w K mg base k f sp/\∀i H p S Q,D i H->lim i->H p=some (.tup (List.map V.int S))->dom S->(∀H',D (nx i S) H'->yn Z H H'->Q (.bl (tells S)) H')->sp [.ref p] H Q E0
def QD(P:Program)(w:World)(K:PySem.W.Frag)(mg:Str->Option Value)(base:Heap):Sp:=λvs H Q E=>∃f p,vs=[.ref f,.ref p]/\∃(ι:Type) (Z:Addr->Prop) (D:ι->Hp->Prop) (nx:ι->List Int->ι) (lim:ι->Prop) (dom:List Int->Prop) (tells:List Int->Bool) (lv:Nat->ι->Prop) (n:ι) (S:List Int),
 y9 P w K mg base 12 f Z D nx lim dom tells/\aDY P w K mg base 12 f Z D nx lim dom tells/\lv 0 n/\(∀k i T,lv k i->lv (k+1) (nx i T))/\(∀k i,k<=S.length->lv k i->lim i)/\D n H/\H p=some (.tup (List.map V.int S))/\S.length<=100/\(∀T,T.Sublist S->dom T)/\tells S=false/\
 ∀r i H',lv (S.length+1) i->D i H'->yn Z H H'->H' r=some (.tup (List.map V.int (e8 tells S S)))->Q (.ref r) H'
theorem NR(T:Txt K mg t):Vj P w K mg base 14 t.yj t.x9 ["ask","part"] (QD P w K mg base):=by
 have uP:=La (P:=P) (w:=w) (base:=base) T
 refine T.GP.okH kQ (λvs H Q E h=>?_) (λcD A outer s H vs Q E hr _ h hc hf=>?_)
 ·obtain⟨f,p,rfl,_⟩:=h;rfl
 obtain⟨f,p,rfl,ι,Z,D,nx,lim,dom,tells,lv,n,S,ask,⟨sp,G0,run⟩,l0,lS1,lS2,hD,hp,lS,tM,e0,q⟩:=h
 refine⟨_,(by apply aq;exact(cg (du (wz (k:=12) rfl hr.mono (au hc 0) (ae (au hc 1) ai))) (by exact az MF) bt);apply aq;exact(aH hc kQ.nd hf 2 (by decide +kernel) (au hc 1));apply aq;exact(dG ie rfl (dH (au hc 1)) (pG hc kQ.nd hf 3 (by decide +kernel)) (by apply aq;exact(aH hc kQ.nd hf 4 (by decide +kernel) (kL uP rfl hr.mono (di hc) T.zK T.uS.kp T.Ad bj (ae (au hc 2) (ae (fA (ae (au hc 3) ai)) ai))));exact az (cg (lP (du (wz (k:=12) rfl hr.mono (au hc 0) (ae (au hc 4) ai)))) (by exact az (aH hc kQ.nd hf 2 (by decide +kernel) (au hc 4))) bt)));exact az (aV (au hc 2))),?_⟩
 walk_at "r"
 refine⟨ask.fn _ _ hD,ask.fn _ _ hD,sp,G0,run n H p S _ hD (lS2 0 n (dc _) l0) hp (tM S (qw _)) λH1 vv k1=>?_⟩
 have ng:=ask.tup hD k1 hp
 rw[e0]
 walk_at "r"
 refine⟨⟨_,bH ng⟩,?_⟩
 obtain⟨Pv,dz⟩:∃Pv:Nat->St->Hp->Prop,∀i σ' H',Pv i σ' H'↔∃(c:Addr) (x y:Option V) (j:ι),σ'=[some (.ref f),some (.ref p),some (.ref c),x,y]/\lv (i+1) j/\D j H'/\yn Z H H'/\H' c=some (.tup (List.map V.int (e8 tells (S.take i) S))):=⟨_,λ_ _ _=>dZ⟩
 refine ft (xs:=List.map V.int S) Pv ((dz _ _ _).mpr ⟨p,none,none,_,rfl,lS1 0 n S l0,vv,k1,ng⟩) (λi σ' H' _ pv=>?_) (λi z σ' H2 hz pv=>?_) (λσ' H2 pv=>?_)
 ·obtain⟨c,_,_,_,_,_,yV,k2,_⟩:=(dz _ _ _).mp pv
  exact ask.tup hD k2 hp
 ·obtain⟨c,x,y,j,rfl,lj,yV,k2,Dx⟩:=(dz _ _ _).mp pv
  obtain⟨m,em,rfl⟩:=int_at hz
  have hi:i<S.length:=(dO.mp em).1
  have step:e8 tells (S.take (i+1)) S=if tells (bO (e8 tells (S.take i) S) [m])=true then e8 tells (S.take i) S else bO (e8 tells (S.take i) S) [m]:=by
   unfold e8
   rw[jj,em,qy]
   rfl
  have sub:=jQ tells (S.take i) S
  generalize e8 tells (S.take i) S=C at Dx step sub
  have lC:=sub.length_le
  walk_at "r"
  refine⟨by decide,λp1 ng=>?_⟩
  have s3:=aD ng (.tup [V.int m])
  have Jx:upd H2 p1 (.tup [V.int m]) p1=some (.tup (List.map V.int [m])):=ah
  generalize upd H2 p1 (.tup [V.int m])=H3 at s3 Jx ⊢
  refine⟨c,p1,rfl,C,[m],s3 _ _ Dx,Jx,by omega,λr H4 s4 hr4 er=>?_⟩
  have vt:=ask.st _ _ _ yV (s3.trans s4)
  have k4:=k2.trans (yn.of (s3.trans s4))
  walk_at "r"
  refine⟨ask.fn _ _ vt,ask.fn _ _ vt,sp,G0,run _ H4 r _ _ vt (lS2 _ _ hi lj) er (tM _ ((ph C [m]).trans sub)) λH5 Pr k5=>⟨_,rfl,?_⟩⟩
  have hc5:=ask.tup vt k5 ((s3.trans s4) _ _ Dx)
  have hr5:=ask.tup vt k5 er
  have k45:=k4.trans k5
  cases e5:tells (bO C [m]) with
  | true=>
   rw[aB (by decide)]
   exact(dz _ _ _).mpr ⟨c,_,_,_,rfl,lS1 _ _ _ lj,Pr,k45,by rw[step,e5,aC rfl];exact hc5⟩
  | false=>
   rw[aC (by decide)]
   exact(dz _ _ _).mpr ⟨r,_,_,_,rfl,lS1 _ _ _ lj,Pr,k45,by rw[step,e5,aB (by decide)];exact hr5⟩
 obtain⟨c,x,y,j,rfl,lj,yV,k2,Dx⟩:=(dz _ _ _).mp pv
 rw[aQ,iK]at Dx
 rw[aQ]at lj
 walk_at "r"
 exact q c j H2 lj yV k2 Dx
local macro_rules | `(tactic| walk_at "rd") => `(tactic| walk_at "rc")
local macro_rules | `(tactic| walk_at "rl") => `(tactic| first | (refine eN fun R hR => ?_) | walk_at "ry" | (refine Nx.to (by assumption) _ _ ?_))
theorem Gi{ι:Type}{tells:List Int->Bool}{nx:ι->List Int->ι}{W:List Int}{lv:Nat->ι->Prop}(st:∀k i T,lv k i->lv (k+1) (nx i T)):∀(ms:List Int) (c:List Int×ι) (k:Nat),lv k c.2->lv (k+ms.length) (iQ tells nx W ms c).2
 | [],c,k,h=>h
 | m::ms,c,k,h=>by
  have:=Gi (tells:=tells) (W:=W) st ms (if tells (dw W c.1 m)=true then dw W c.1 m else c.1,nx c.2 (dw W c.1 m)) (k+1) (st k _ _ h)
  rw[fh,show k+(ms.length+1)=k+1+ms.length by omega]
  exact this
theorem Ue{H:Hp}{a:Addr}{o:HO}(h:H a=none):x8 (upd H a o) a=H:=by
 funext b
 by_cases hb:b=a
 ·rw[hb,gR,h]
 ·rw[iW hb,aj hb]
def Le(tells:List Int->Bool)(S:List Int):Str:=if tells S=true then "grown" else "shrunk"
def mvS(tells:List Int->Bool)(W S:List Int):List Int:=if tells S=true then fN tells W W S else e8 tells S S
def VB(P:Program)(w:World)(K:PySem.W.Frag)(mg:Str->Option Value)(base:Heap):Sp:=λvs H Q _=>∃f U p,vs=[.ref f,.ref U,.ref p]/\∃(ι:Type) (Z:Addr->Prop) (D:ι->Hp->Prop) (nx:ι->List Int->ι) (lim:ι->Prop) (dom:List Int->Prop) (tells:List Int->Bool) (lv:Nat->ι->Prop) (n:ι) (W S:List Int),
 y9 P w K mg base 12 f Z D nx lim dom tells/\aDY P w K mg base 12 f Z D nx lim dom tells/\lv 0 n/\(∀k i T,lv k i->lv (k+1) (nx i T))/\(∀k i,k<=20->lv k i->lim i)/\D n H/\H U=some (.tup (List.map V.int W))/\H p=some (.tup (List.map V.int S))/\fG W/\S.Sublist W/\W.length<=5/\(∀T,T.Sublist W->dom T)/\
 ∀r q i H',D i H'->yn Z H H'->H' r=some (.tup [.str (Le tells S),.ref q])->H' q=some (.tup (List.map V.int (mvS tells W S)))->Q (.ref r) H'
theorem R'(T:Txt K mg t):cq P w K mg base eV 15 t.mG t.my ["_law_ask","_law_whole","_law_part"] (VB P w K mg base):=by
 have Dq:=Ew (P:=P) (w:=w) (base:=base) T
 have UW:=NR (P:=P) (w:=w) (base:=base) T
 refine T.tY.xl yK (λvs H Q E h=>?_) (λcD A outer s H vs Q E hr h hc hf=>?_)
 ·obtain⟨f,U,p,rfl,_⟩:=h;rfl
 obtain⟨f,U,p,rfl,ι,Z,D,nx,lim,dom,tells,lv,n,W,S,ask,rnH,l0,l1,l2,hD,hU,hp,rW,sS,lW,tM,q⟩:=h
 have hu:=qd hr
 have U6:=hr.jn
 have lS:=sS.length_le
 have lr:(bO W S).length<=W.length:=sy _ _
 refine⟨_,(by exact az (P5 rfl rfl T.o5.is (di hc) T.zL (λEH xe pn L hpo=>(λhc hf=>(by exact az (aV (fA (ae jP (ae (MT (EH:=EH) Dq hr.mono (di hc) T.Lf T.Du.kp T.Mi L (ae (au hc 1) (ae (au hc 0) (ae (au hc 2) ai)))) ai)))))) (hcT (xe:=xe) (pn:=pn) hc) (hfT (xe:=xe) (pn:=pn) hf)) (λe=>(λhc hf=>(by exact az (aV (fA (ae jP (ae (MN (a:=e) UW rfl (hr.Ni (by omega)) (di hc) T.Sv T.GP.kp T.Uu bj (ae (au hc 0) (ae (au hc 2) ai))) ai)))))) (hcS (e:=e) hc) (hfS (e:=e) hf)))),?_⟩
 walk_at "r"
 refine⟨λσ' C dx H'=>σ'=[some (.ref f),some (.ref U),some (.ref p)]/\C=.ref t.aP/\tells S=false/\D (nx n S) H'/\yn Z H H',?_,?_⟩
 ·walk_at "r"
  refine⟨U,f,p,rfl,ι,Z,D,nx,lim,dom,tells,n,W,S,ask,l2 0 n (by omega) l0,λk=>l2 (1+((bO W S).take k).length) _ (by rw[jL];omega) (Gi l1 _ _ 1 (l1 0 n S l0)),hD,hU,hp,rW,sS,by omega,tM,λe0 dx H1 vv k1 _=>⟨rfl,e0,vv,k1⟩,λe0 r H1 vv k1 hr1=>?_⟩
  refine⟨by decide,λq1 U8=>?_⟩
  have s2:=aD U8 (.tup [V.str (Str.ofString "grown"),V.ref r])
  refine q q1 r _ _ (ask.st _ _ _ vv s2) (k1.trans (yn.of s2)) ?_ (s2 _ _ ?_)
  ·rw[ah,Le,aC e0]
  ·rw[mvS,aC e0];exact hr1
 ·rintro σ' C dx H1 ⟨rfl,eC,e0,vv,k1⟩
  cases eC
  refine⟨T.dY,λe he=>?_⟩
  walk_at "r"
  refine⟨_,_,rfl,?_⟩
  rw[Ue he]
  refine⟨f,p,rfl,ι,Z,D,nx,lim,dom,tells,λk i=>lv (k+1) i,nx n S,S,ask,rnH,l1 0 n S l0,λk i T h=>l1 _ _ _ h,λk i hk h=>l2 _ _ (by omega) h,vv,ask.tup hD k1 hp,by omega,λT hT=>tM T (hT.trans sS),e0,λr i H2 li yV k2 hr2 ne=>⟨by decide,λq1 U8=>?_⟩⟩
  have s3:=aD ne (.ext (G4 e t.aP dx))
  have s4:=aD U8 (.tup [V.str (Str.ofString "shrunk"),V.ref r])
  refine q q1 r _ _ (ask.st _ _ _ yV (s3.trans s4)) ((k1.trans k2).trans (yn.of (s3.trans s4))) ?_ ((s3.trans s4) _ _ ?_)
  ·rw[ah,Le,aB (by rw[e0];decide)]
  ·rw[mvS,aB (by rw[e0];decide)];exact hr2
local macro_rules | `(tactic| walk_at "rd") => `(tactic| walk_at "rc")
local macro_rules | `(tactic| walk_at "rl") => `(tactic| first | (refine eN fun R hR => ?_) | walk_at "ry" | (refine Nx.to (by assumption) _ _ ?_))
theorem Z3{tells:List Int->Bool}{W S:List Int}(sS:S.Sublist W)(ms:List Int):(e8 tells ms S).Sublist W:=(jQ tells ms S).trans sS
theorem W3{W c:List Int}{m:Int}(rW:fG W)(h:c.Sublist W):W.filter (λz=>decide ((z∈c\/z=m)/\z≠m))=bO c [m]:=by
 refine pd (rW.sublist wo) (rW.sublist ((ph c [m]).trans h)) λz=>?_
 unfold bO
 rw[fL,fL,gI]
 constructor
 ·rintro⟨a,b | b,c⟩
  ·exact⟨b,by simpa using c⟩
  ·exact absurd b c
 ·rintro⟨a,b⟩
  have b':z≠m:=by simpa using b
  exact⟨h.subset a,.inl a,b'⟩
def aB1:Sp:=λvs H Q _=>∃M U p,vs=[.ref M,.ref U,.ref p]/\∃(md:Md) (W S:List Int),jI H M W md/\H U=some (.tup (List.map V.int W))/\H p=some (.tup (List.map V.int S))/\fG W/\S.Sublist W/\W.length<=5/\
 ∀r q H',cp H H'->H r=none->H' r=some (.tup [.str (Le md.tells S),.ref q])->H' q=some (.tup (List.map V.int (mvS md.tells W S)))->Q (.ref r) H'
def vJ(g:Bool)(W c:List Int)(m:Int):List Int:=if g=true then dw W c m else bO c [m]
def vI(g:Bool)(tells:List Int->Bool)(W ms c:List Int):List Int:=if g=true then fN tells W ms c else e8 tells ms c
theorem T9(g:Bool)(tells:List Int->Bool){W c:List Int}(ms:List Int)(h:c.Sublist W):(vI g tells W ms c).Sublist W:=by
 unfold vI
 split
 ·exact uD tells W ms c h
 ·exact(jQ tells ms c).trans h
theorem Ua(g:Bool){W c:List Int}(m:Int)(h:c.Sublist W):(vJ g W c m).Sublist W:=by
 unfold vJ
 split
 ·exact jd W c m
 ·exact(ph c [m]).trans h
theorem Oy(g:Bool)(tells:List Int->Bool)(W c ms:List Int)(m:Int):vI g tells W (ms++[m]) c=if tells (vJ g W (vI g tells W ms c) m)=g then vJ g W (vI g tells W ms c) m else vI g tells W ms c:=by
 cases g with
 | true=>simp only[vI,vJ,kh,fN,qy,ig,List.foldl_nil]
 | false=>
  simp only[vI,vJ,sg,iH,e8,qy,ig,List.foldl_nil]
  generalize List.foldl (λc m=>if tells (bO c [m])=true then c else bO c [m]) c ms=C
  cases tells (bO C [m]) <;> rfl
theorem XF{g:Bool}{W c:List Int}{m:Int}(rW:fG W)(h:c.Sublist W):W.filter (λz=>decide ((z∈c\/z=m)/\(z≠m\/g=true)))=vJ g W c m:=by
 cases g with
 | true=>
  show _=dw W c m
  unfold dw
  congr 1
  funext z
  simp
 | false=>
  show _=bO c [m]
  rw[<-W3 rW h]
  congr 1
  funext z
  simp
theorem aAD(T:Txt K mg t):cq P w K mg base eV 4 t.rO t.rG ["_law_model_here","_law_whole","_law_part"] aB1:=by
 have fH:=xk (P:=P) (w:=w) (base:=base) T
 refine T.yw.xl dX (λvs H Q E h=>?_) (λcD A outer s H vs Q E hr h hc hf=>?_)
 ·obtain⟨M,U,p,rfl,_⟩:=h;rfl
 obtain⟨M,U,p,rfl,md,W,S,ma,hU,hp,rW,sS,lW,q⟩:=h
 have hu:=qd hr
 have U6:=hr.jn
 have lS:=sS.length_le
 refine⟨_,(by apply aq;exact(aH hc dX.nd hf 3 (by decide +kernel) jP);apply gA;exact(cg (du (aG fH.ok hr.mono (di hc) T.iV T.gF.kp T.iX .nil bj (ae (au hc 0) (ae (au hc 2) ai)))) (by exact az (aH hc dX.nd hf 3 (by decide +kernel) jP)) bt);apply aq;exact(aH hc dX.nd hf 4 (by decide +kernel) (au hc 1));apply gA;exact(cg (aY js (au hc 3) jP (cj _)) (by exact az (aH hc dX.nd hf 4 (by decide +kernel) (au hc 2))) bt);apply aq;exact(dG ie rfl (dH (au hc 4)) (pG hc dX.nd hf 5 (by decide +kernel)) (by apply aq;exact(aH hc dX.nd hf 6 (by decide +kernel) (dh gy (di hc) T.iT pE (ae (eJ hc ["_law_one"] [2,5,3] rfl (by decide +kernel) (dH (au hc 1)) (λ_ hc=>sJ hc (by decide +kernel) 0 (by decide +kernel)) (λ_ hc=>ja (pV (oX (pV (Bl (aY R6 (au hc 0) (au hc 1) (by with_unfolding_all rfl)) (vN (aY js (au hc 0) (au hc 2) (cj _))))) (kK (pV (Bl (aY YF (au hc 0) (au hc 2) (cj _)) (vN (aY js (au hc 3) jP (cj _))))))))) (λ_ hc=>(au hc 0))) ai)));exact az (cg (aY js (aG fH.ok hr.mono (di hc) T.iV T.gF.kp T.iX .nil bj (ae (au hc 0) (ae (au hc 6) ai))) (sM js (au hc 3) jP (cj _)) (cj _)) (by exact az (aH hc dX.nd hf 2 (by decide +kernel) (au hc 6))) bt)));exact az (aV (fA (ae (au hc 3) (ae (au hc 2) ai))))),?_⟩
 walk_at "r"
 unfold Ng
 refine⟨λσ' H'=>σ'=[some (.ref M),some (.ref U),some (.ref p),some (.str (Le md.tells S)),none,none,none]/\cp H H',?_,λσ' H1 hh=>?_⟩
 ·walk_at "r"
  refine⟨M,p,rfl,md,W,S,ma,hp,by omega,λz hz=>sS.subset hz,λH1 s1=>?_⟩
  refine⟨_,rfl,?_⟩
  cases e:md.tells S with
  | true=>
   rw[aC rfl]
   exact⟨by rw[Le,aC e],s1⟩
  | false=>
   rw[aB (by decide)]
   exact⟨by rw[Le,aB (by rw[e];decide)],s1⟩
 obtain⟨rfl,s1⟩:=hh
 obtain⟨ms,hms⟩:∃ms:List Int,ms=if md.tells S=true then W else S:=⟨_,rfl⟩
 have msW:∀z∈ms,z∈W:=λz hz=>by
  rw[hms]at hz
  split at hz
  ·exact hz
  ·exact sS.subset hz
 have eqW:(Le md.tells S=Str.ofString "shrunk")=(md.tells S=false):=by
  unfold Le
  cases md.tells S <;> simp
  decide
 have eqG:(Le md.tells S=Str.ofString "grown")=(md.tells S=true):=by
  unfold Le
  cases md.tells S <;> simp
  decide
 walk_at "r"
 refine⟨λσ' H'=>(∃R:Addr,σ'=[some (.ref M),some (.ref U),some (.ref p),some (.str (Le md.tells S)),some (.ref R),none,none]/\H1 R=some (.tup (List.map V.int ms)))/\H'=H1,?_,λσ' H2 hh=>?_⟩
 ·simp only[eqW]
  cases e:md.tells S with
  | true=>
   rw[aB (by decide)]
   exact⟨⟨U,rfl,by rw[hms,aC e];exact s1 _ _ hU⟩,trivial⟩
  | false=>
   rw[aC rfl]
   exact⟨⟨p,rfl,by rw[hms,aB (by rw[e];decide)];exact s1 _ _ hp⟩,trivial⟩
 obtain⟨⟨R,rfl,hR⟩,rfl⟩:=hh
 walk_at "r"
 refine⟨⟨_,bH hR⟩,?_⟩
 have hU1:=s1 _ _ hU
 have ng:=s1 _ _ hp
 have ma1:=ma.same s1
 obtain⟨g,hg⟩:∃g,g=md.tells S:=⟨_,rfl⟩
 obtain⟨Pv,dz⟩:∃Pv:Nat->St->Hp->Prop,∀i σ' H',Pv i σ' H'↔∃(c:Addr) (x y:Option V),σ'=[some (.ref M),some (.ref U),some (.ref c),some (.str (Le md.tells S)),some (.ref R),x,y]/\cp H2 H'/\H' c=some (.tup (List.map V.int (vI g md.tells W (ms.take i) S))):=⟨_,λ_ _ _=>dZ⟩
 refine ft (xs:=List.map V.int ms) Pv ((dz _ _ _).mpr ⟨p,none,none,rfl,λ_ _ e=>e,?_⟩) (λi σ' H' _ pv=>?_) (λi z σ' H3 hz pv=>?_) (λσ' H3 pv=>?_)
 ·rw[ng]
  unfold vI
  cases g <;> rfl
 ·obtain⟨_,_,_,_,s2,_⟩:=(dz _ _ _).mp pv
  exact s2 _ _ hR
 ·obtain⟨c,x,y,rfl,s3,Om⟩:=(dz _ _ _).mp pv
  obtain⟨m,em,rfl⟩:=int_at hz
  have hmW:m∈W:=msW m (ny em)
  have sub:=T9 g md.tells (ms.take i) sS
  have step:=Oy g md.tells W S (ms.take i) m
  rw[show ms.take i++[m]=ms.take (i+1) by rw[jj,em];rfl]at step
  generalize vI g md.tells W (ms.take i) S=C at Om sub step
  have hU3:=s3 _ _ hU1
  walk_at "r"
  refine⟨⟨_,bH hU3⟩,?_⟩
  refine je (zs:=List.map V.int W) (λj=>if (W[j]?.any λz=>decide ((z∈C\/z=m)/\(z≠m\/g=true))) then W[j]? else none) (λ_ _ v d=>v=V.int d) (λ_ _ _ _ _ _ r=>r) (λ_ _ _ _ _ _ _ r=>r) hU3 (by rw[aQ];omega) (λDD cb H4 j z yes no hj s4 Ve Vd fq yA=>?_) (λD H4 vs s4 hD vt rl=>?_)
  ·obtain⟨n,en,rfl⟩:=int_at hj
   rw[en]at fq yA
   have hc4:=s4 _ _ Om
   walk_at "rc"
   repeat (first | walk_at "rl" | simp only[hc4])
   refine⟨rfl,pA _,?_⟩
   rw[tL]
   have Y:((n∈C\/n=m)/\(n≠m\/g=true))->yes (V.int n) H4:=λh=>fq n (by simp[h]) _ _ (λ_ _ e=>e) rfl
   have No:¬((n∈C\/n=m)/\(n≠m\/g=true))->no H4:=λh=>yA (by simp[h]) _ (λ_ _ e=>e)
   simp only[eqG,<-hg]
   by_cases h1:n∈C
   ·rw[aC (by simp[h1])]
    by_cases h2:n=m
    ·rw[aB (by simp[h2])]
     by_cases h3:g=true
     ·rw[aC h3];exact Y ⟨.inl h1,.inr h3⟩
     ·rw[aB h3];exact No λz=>z.2.elim (λy=>y h2) h3
    ·rw[aC (by simp[h2])];exact Y ⟨.inl h1,.inl h2⟩
   ·rw[aB (by simp[h1])]
    by_cases h2:n=m
    ·rw[aC h2,aB (by simp[h2])]
     by_cases h3:g=true
     ·rw[aC h3];exact Y ⟨.inr h2,.inr h3⟩
     ·rw[aB h3];exact No λz=>z.2.elim (λy=>y h2) h3
    ·rw[aB h2];exact No λz=>z.1.elim h1 h2
  have ev:=tK rl
  rw[aQ,pz (l:=W) (p:=λz=>decide ((z∈C\/z=m)/\(z≠m\/g=true))) λi hi=>by rw[bP hi];rfl,XF rW sub]at ev
  subst ev
  walk_at "r"
  refine⟨_,vt,λl hl=>?_⟩
  have s5:=s4.trans (aD hl (.tup (List.map V.int (vJ g W C m))))
  have hl5:upd H4 l (.tup (List.map V.int (vJ g W C m))) l=some (.tup (List.map V.int (vJ g W C m))):=ah
  generalize upd H4 l (.tup (List.map V.int (vJ g W C m)))=H5 at s5 hl5 ⊢
  have sF:=Ua g m sub
  have lF:=sF.length_le
  walk_at "r"
  refine⟨M,l,rfl,md,W,_,ma1.same (s3.trans s5),hl5,by omega,λz hz=>sF.subset hz,λH6 s6=>⟨rfl,?_⟩⟩
  have hl6:=s6 _ _ hl5
  have Z7:=(s3.trans s5).trans s6
  have dg:decide (Le md.tells S=Str.ofString "grown")=g:=by
   rw[hg]
   cases e:md.tells S <;> simp[eqG,e]
  rw[dg]
  by_cases e5:md.tells (vJ g W C m)=g
  ·rw[aC (by rw[e5])]
   exact(dz _ _ _).mpr ⟨l,_,_,rfl,Z7,by rw[step,aC e5];exact hl6⟩
  ·rw[aB (λz=>e5 (V.bl.inj z))]
   exact(dz _ _ _).mpr ⟨c,_,_,rfl,Z7,by rw[step,aB e5];exact(s5.trans s6) _ _ Om⟩
 ·obtain⟨c,x,y,rfl,s3,Om⟩:=(dz _ _ _).mp pv
  rw[aQ,iK]at Om
  walk_at "r"
  refine⟨by decide,λr hr3=>q r c _ ((s1.trans s3).trans (aD hr3 _)) ((s1.trans s3).free hr3) ah ((aD hr3 _) _ _ ?_)⟩
  rw[Om,hms,hg]
  unfold vI mvS
  cases md.tells S <;> rfl
local macro_rules | `(tactic| walk_at "rd") => `(tactic| walk_at "rc")
local macro_rules | `(tactic| walk_at "rl") => `(tactic| first | (refine eN fun R hR => ?_) | walk_at "ry" | (refine Nx.to (by assumption) _ _ ?_))
def Kp(N:Addr)(H H':Hp):Prop:=∀b o,b≠N->H b=some o->H' b=some o
def but(N:Addr)(H:Hp):Hp:=λb=>if b=N then none else H b
theorem uJ{N b:Addr}{H:Hp}(h:b≠N):but N H b=H b:=aB h
theorem Gv{N:Addr}{H:Hp}:cp (but N H) H:=λb o e=>by
 by_cases h:b=N
 ·rw[show but N H b=none from aC h]at e;cases e
 ·rw[uJ h]at e;exact e
theorem Kp.but{N:Addr}{H H':Hp}(k:Kp N H H'):cp (but N H) (but N H'):=λb o e=>by
 by_cases h:b=N
 ·rw[show My.but N H b=none from aC h]at e;cases e
 ·rw[uJ h]at e ⊢;exact k b o h e
theorem jI.move{H H':Hp}{p:Addr}{W:List Int}{md:Md}(k:∀b o,H b=some o->(∀ps,o≠.nL ps)->(∀o',o≠cB o')->H' b=some o)(m:jI H p W md):jI H' p W md:=by
 cases md with
 | wt g most=>obtain⟨d,ks,h1,h2,h3⟩:=m;exact⟨d,ks,k _ _ h1 (by intro o z;cases z) (by intro o z;cases z),k _ _ h2 (by intro o z;cases z) (by intro o z;cases z),h3⟩
 | W' ss=>obtain⟨l,bs,h1,h2,h3,h4⟩:=m;exact⟨l,bs,k _ _ h1 (by intro o z;cases z) (by intro o z;cases z),k _ _ h2 (by intro o z;cases z) (by intro o z;cases z),h3.mono λ_ _ e=>k _ _ e (by intro o z;cases z) (by intro o z;cases z),h4⟩
 | out ss=>obtain⟨l,bs,h1,h2,h3,h4⟩:=m;exact⟨l,bs,k _ _ h1 (by intro o z;cases z) (by intro o z;cases z),k _ _ h2 (by intro o z;cases z) (by intro o z;cases z),h3.mono λ_ _ e=>k _ _ e (by intro o z;cases z) (by intro o z;cases z),h4⟩
theorem xm{h b:Addr}{H:Hp}{bs:List Addr}(x:fS H h)(e:H b=some (.lst (List.map V.ref bs))):b≠h:=by
 obtain⟨l,ns,o,e1,⟨_,_,_,_,_,rfl,_⟩,_⟩:=x
 intro z
 rw[z,e1]at e
 cases bs with
 | nil=>cases e
 | cons c bs=>cases bs <;> cases e
theorem jI.dr{h N:Addr}{B H:Hp}{p:Addr}{W:List Int}{md:Md}(hd:fS B h)(hN:B N=none)(d:Dr h B H)(m:jI B p W md):jI (but N H) p W md:=by
 have k:∀{b:Addr} {o:HO},B b=some o->b≠h->but N H b=some o:=λ{b o} e nb=>by
  rw[uJ (av e hN)];exact d.keep _ _ nb e
 have nd:∀{b:Addr} {aM:List (Key×V)},B b=some (.dK aM)->b≠h:=λ{b aM} e z=>by
  obtain⟨l,ns,o,e1,⟨_,_,_,_,_,rfl,_⟩,_⟩:=hd
  rw[z,e1]at e;cases e
 cases md with
 | wt g most=>obtain⟨d',ks,h1,h2,h3⟩:=m;exact⟨d',ks,k h1 (hd.fP h1),k h2 (nd h2),h3⟩
 | W' ss=>obtain⟨l,bs,h1,h2,h3,h4⟩:=m;exact⟨l,bs,k h1 (hd.fP h1),k h2 (xm hd h2),h3.mono λ_ _ e=>k e (hd.fP e),h4⟩
 | out ss=>obtain⟨l,bs,h1,h2,h3,h4⟩:=m;exact⟨l,bs,k h1 (hd.fP h1),k h2 (xm hd h2),h3.mono λ_ _ e=>k e (hd.fP e),h4⟩
theorem Dr.kp{h N:Addr}{B H H':Hp}{C:List (Addr×Obj)}(d:Dr h B H)(hN:B N=none)(po:cT C H)(k:Kp N (eU C H) H'):Dr h B (aO C H'):=by
 have q:∀{b:Addr} {o:HO},H b=some o->b≠N->aO C H' b=some o:=λ{b o} e nb=>by
  have z:=po.out e
  rw[aL z];exact k b o nb (by rw[bJ z];exact e)
 refine⟨λb o hb e=>q (d.keep b o hb e) (av e hN),λl x=>?_⟩
 obtain⟨ns,oh,e1,e2,e3⟩:=d.hand l x
 obtain⟨ns0,o0,f1,_,f3⟩:=x
 exact⟨ns,oh,q e1 (av f1 hN),e2,q e3 (av f3 hN)⟩
def w5(f c':Addr)(fo oc:Obj)(cl:List (Str×Addr))(fr:List Str)(L N M0 M1 M:Addr):Sp:=λvs H Q _=>∃p,vs=[.ref p]/\H f=some (cB fo)/\H c'=some (cB oc)/\∃C,dm C H/\CellsOk C cl fr [.ref L,.ref N]/\H L=some (.lst [.ref M0,.ref M1])/\∃(md:Md) (W S:List Int) (bs:List Addr),L≠N/\jI (but N H) M W md/\H N=some (.lst (List.map V.ref bs))/\bs.length<1000/\H p=some (.tup (List.map V.int S))/\S.length<=100/\(∀z∈S,z∈W)/\
 ∀H',Kp N H H'->H' N=some (.lst (List.map V.ref (bs++[p])))->Q (.bl (md.tells S)) H'
theorem O4(T:Txt K mg t){f c' L N M0 M1:Addr}{oc:Obj}{Bn:Array Value}{tq:Tok}{qual:Str}{cl:List (Str×Addr)}{doc pm ctv:Value}(uB:oc.data=.fields Bn)(hq:Bn[1]?=some (.str qual tq))
  (uA:∀x c,cl.lookup x=some c->x∈bX) (inj:∀x y c,cl.lookup x=some c->cl.lookup y=some c->x=y) :
  gH P w K mg base 8 f (w5 f c' (PySem.W.fnMade "_law_first" qual (aS aX) (aK aX) (ag aX) cl doc pm c' ctv) oc cl bX L N M0 M1 M0):=by
 have fH:=xk (P:=P) (w:=w) (base:=base) T
 refine Mb (k:=7) (fo:=PySem.W.fnMade "_law_first" qual (aS aX) (aK aX) (ag aX) cl doc pm c' ctv) (oc:=oc) (name:="_law_first") (qual:=qual) (params:=aS aX) (body:=aK aX) (scope:=ag aX) (cl:=cl) (doc:=doc) (pm:=pm) (ctv:=ctv) (ps:=nV) (fr:=bX) rfl uB hq rfl rfl rfl (by decide +kernel) (by decide +kernel) (by decide +kernel) (by decide +kernel) (λx hx=>?_) uA inj (λus hu=>?_) λvs H Q E h=>?_
 ·have:freeOf (ag aX)=bX:=by decide +kernel
  rw[<-this]
  exact gd.mpr ⟨(x,.free),fL.mpr ⟨jM hx,rfl⟩,rfl⟩
 ·match us,hu with
  | [_],_=>rfl
 obtain⟨p,rfl,hf,vr,C,pin,yc,hL,md,W,S,bs,nLN,ma,hN,lb,hp,lS,sub,q⟩:=h
 refine⟨C,[.ref L,.ref N],rfl,hf,vr,pin,rfl,yc,λA outer s hr hc=>?_⟩
 refine⟨_,(by apply aq;exact(cJ (lQ nC sA sD eL (au hc 2) (ae (au hc 0) ai)));exact az (aV (kL fH rfl hr.mono (di hc) T.iV T.gF.kp T.iX bj (ae (bq fW (au hc 1) ao (λ_ _=>rfl)) (ae (au hc 0) ai))))),?_⟩
 walk_at "r"
 have out:∀{b:Addr} {o:HO},H b=some o->(∀o',o≠cB o')->aO C H b=some o:=λe n=>by rw[aL (pin.out e n)];exact e
 have hN':aO C H N=some (.lst (List.map V.ref bs)):=out hN (by intro o z;cases z)
 have YZ:aO C H p=some (.tup (List.map V.int S)):=out hp (by intro o z;cases z)
 refine⟨.inl ⟨rfl,_,bw hN'⟩,_,hN',by rw[aQ];exact cz (by omega),?_⟩
 have ma':jI (but N (aO C H)) M0 W md:=ma.move λb o e nt np=>by
  by_cases hb:b=N
  ·rw[show but N H b=none from aC hb]at e;cases e
  ·rw[uJ hb]at e ⊢;exact out e np
 have W7:Kp N (aO C H) (upd (aO C H) N (.lst (List.map V.ref bs++[V.ref p]))):=λb o hb e=>by rw[aj hb];exact e
 have hN1:upd (aO C H) N (.lst (List.map V.ref bs++[V.ref p])) N=some (.lst (List.map V.ref (bs++[p]))):=by rw[ah,fK];rfl
 have zW:upd (aO C H) N (.lst (List.map V.ref bs++[V.ref p])) L=some (.lst [.ref M0,.ref M1]):=by rw[aj nLN];exact out hL (by intro o z;cases z)
 have hpN:p≠N:=aN hp hN (by intro z;cases z)
 have ng:=W7 _ _ hpN YZ
 have ma1:=(ma'.same W7.but).same Gv
 generalize upd (aO C H) N (.lst (List.map V.ref bs++[V.ref p]))=H1 at W7 hN1 ng ma1 zW ⊢
 repeat (first | walk_at "rl" | simp only[zW])
 refine⟨M0,p,rfl,md,W,S,ma1,ng,lS,sub,λH2 s2=>q _ (λb o hb e=>?_) ?_⟩
 ·cases e1:C.lookup b with
  | some o'=>rw[pin b o' e1]at e;cases e;exact iZ e1
  | none=>rw[bJ e1];exact s2 _ _ (W7 b o hb (by rw[aL e1];exact e))
 ·rw[bJ (pin.out hN (by intro o z;cases z))];exact s2 _ _ hN1
theorem JX(T:Txt K mg t){f c' L N M0 M1:Addr}{oc:Obj}{Bn:Array Value}{tq:Tok}{qual:Str}{cl:List (Str×Addr)}{doc pm ctv:Value}(uB:oc.data=.fields Bn)(hq:Bn[1]?=some (.str qual tq))
  (uA:∀x c,cl.lookup x=some c->x∈bQ) (inj:∀x y c,cl.lookup x=some c->cl.lookup y=some c->x=y) :
  gH P w K mg base 8 f (w5 f c' (PySem.W.fnMade "_law_second" qual (aS aW) (aK aW) (ag aW) cl doc pm c' ctv) oc cl bQ L N M0 M1 M1):=by
 have fH:=xk (P:=P) (w:=w) (base:=base) T
 refine Mb (k:=7) (fo:=PySem.W.fnMade "_law_second" qual (aS aW) (aK aW) (ag aW) cl doc pm c' ctv) (oc:=oc) (name:="_law_second") (qual:=qual) (params:=aS aW) (body:=aK aW) (scope:=ag aW) (cl:=cl) (doc:=doc) (pm:=pm) (ctv:=ctv) (ps:=m8) (fr:=bQ) rfl uB hq rfl rfl rfl (by decide +kernel) (by decide +kernel) (by decide +kernel) (by decide +kernel) (λx hx=>?_) uA inj (λus hu=>?_) λvs H Q E h=>?_
 ·have:freeOf (ag aW)=bQ:=by decide +kernel
  rw[<-this]
  exact gd.mpr ⟨(x,.free),fL.mpr ⟨jM hx,rfl⟩,rfl⟩
 ·match us,hu with
  | [_],_=>rfl
 obtain⟨p,rfl,hf,vr,C,pin,yc,hL,md,W,S,bs,nLN,ma,hN,lb,hp,lS,sub,q⟩:=h
 refine⟨C,[.ref L,.ref N],rfl,hf,vr,pin,rfl,yc,λA outer s hr hc=>?_⟩
 refine⟨_,(by apply aq;exact(cJ (lQ nC sA sD eL (au hc 2) (ae (au hc 0) ai)));exact az (aV (kL fH rfl hr.mono (di hc) T.iV T.gF.kp T.iX bj (ae (bq fW (au hc 1) ao (λ_ _=>rfl)) (ae (au hc 0) ai))))),?_⟩
 walk_at "r"
 have out:∀{b:Addr} {o:HO},H b=some o->(∀o',o≠cB o')->aO C H b=some o:=λe n=>by rw[aL (pin.out e n)];exact e
 have hN':aO C H N=some (.lst (List.map V.ref bs)):=out hN (by intro o z;cases z)
 have YZ:aO C H p=some (.tup (List.map V.int S)):=out hp (by intro o z;cases z)
 refine⟨.inl ⟨rfl,_,bw hN'⟩,_,hN',by rw[aQ];exact cz (by omega),?_⟩
 have ma':jI (but N (aO C H)) M1 W md:=ma.move λb o e nt np=>by
  by_cases hb:b=N
  ·rw[show but N H b=none from aC hb]at e;cases e
  ·rw[uJ hb]at e ⊢;exact out e np
 have W7:Kp N (aO C H) (upd (aO C H) N (.lst (List.map V.ref bs++[V.ref p]))):=λb o hb e=>by rw[aj hb];exact e
 have hN1:upd (aO C H) N (.lst (List.map V.ref bs++[V.ref p])) N=some (.lst (List.map V.ref (bs++[p]))):=by rw[ah,fK];rfl
 have zW:upd (aO C H) N (.lst (List.map V.ref bs++[V.ref p])) L=some (.lst [.ref M0,.ref M1]):=by rw[aj nLN];exact out hL (by intro o z;cases z)
 have hpN:p≠N:=aN hp hN (by intro z;cases z)
 have ng:=W7 _ _ hpN YZ
 have ma1:=(ma'.same W7.but).same Gv
 generalize upd (aO C H) N (.lst (List.map V.ref bs++[V.ref p]))=H1 at W7 hN1 ng ma1 zW ⊢
 repeat (first | walk_at "rl" | simp only[zW])
 refine⟨M1,p,rfl,md,W,S,ma1,ng,lS,sub,λH2 s2=>q _ (λb o hb e=>?_) ?_⟩
 ·cases e1:C.lookup b with
  | some o'=>rw[pin b o' e1]at e;cases e;exact iZ e1
  | none=>rw[bJ e1];exact s2 _ _ (W7 b o hb (by rw[aL e1];exact e))
 ·rw[bJ (pin.out hN (by intro o z;cases z))];exact s2 _ _ hN1
def aBN(B:Hp)(C:List (Addr×Obj))(N:Addr)(ts:List (List Int))(H:Hp):Prop:=(∀b o,B b=some o->H b=some o)/\dm C H/\∃bs,H N=some (.lst (List.map V.ref bs))/\aI H bs ts
theorem GF{B:Hp}{f c' L N M0 M1 M:Addr}{fo oc:Obj}{cl:List (Str×Addr)}{fr:List Str}{C:List (Addr×Obj)}{x:List Int}{md:Md}(yc:CellsOk C cl fr [.ref L,.ref N])
  (hf:B f=some (cB fo)) (hc:B c'=some (cB oc)) (hL:B L=some (.lst [.ref M0,.ref M1])) (hm:jI B M x md) (hN:B N=none) :
  ∀ts H p S Q,aBN B C N ts H->ts.length<=300->H p=some (.tup (List.map V.int S))->S.Sublist x/\x.length<=5->(∀H',aBN B C N (ts++[S]) H'->yn (λb=>b=N) H H'->Q (.bl (md.tells S)) H')->w5 f c' fo oc cl fr L N M0 M1 M [.ref p] H Q E0:=λts H p S Q hD hn hp hS q=>by
 obtain⟨h1,h2,bs,h3,h4⟩:=hD
 have lb:=h4.1
 have lS:=hS.1.length_le
 have sB:cp B (but N H):=λb o e=>by rw[uJ (av e hN)];exact h1 b o e
 refine⟨p,rfl,h1 _ _ hf,h1 _ _ hc,C,h2,yc,h1 _ _ hL,md,x,S,bs,av hL hN,hm.same sB,h3,by omega,hp,by omega,λz hz=>hS.1.subset hz,λH' k hN'=>q H' ?_ λb o n e=>k b o n e⟩
 have ne:∀{b:Addr} {o:HO},H b=some o->o≠.lst (List.map V.ref bs)->H' b=some o:=λe n=>k _ _ (aN e h3 n) e
 exact⟨λb o e=>k b o (av e hN) (h1 b o e),λb o e=>ne (h2 b o e) (by intro z;cases z),bs++[p],hN',(h4.mono λ_ _ e=>ne e (by intro z;cases z)).snoc (ne hp (by intro z;cases z))⟩
theorem Ms{B:Hp}{f c' L N M0 M1 M:Addr}{fo oc:Obj}{fd:FuncData}{cl:List (Str×Addr)}{fr:List Str}{C:List (Addr×Obj)}{x:List Int}{md:Md}{k:Nat}(hfd:fo.data=.func fd)(G0:oW P w K mg base k f (w5 f c' fo oc cl fr L N M0 M1 M))(yc:CellsOk C cl fr [.ref L,.ref N])
  (hf:B f=some (cB fo)) (hc:B c'=some (cB oc)) (hL:B L=some (.lst [.ref M0,.ref M1])) (hm:jI B M x md) (hN:B N=none) :
  Yk P w K mg base k f (λb=>b=N) (λb=>b=N\/(∃o,B b=some o)\/∃o,C.lookup b=some o) (aBN B C N) (λts S=>ts++[S]) (λts=>ts.length<=300) (λS=>S.Sublist x/\x.length<=5) md.tells:=by
 refine⟨⟨⟨_,G0,GF yc hf hc hL hm hN⟩,λts H hD=>⟨fo,fd,hD.1 _ _ hf,hfd⟩,λts H H' hD s=>?_,λts H b xs hD hz e=>?_⟩,λb h=>.inl h,λts H b hD h=>?_,λts H H' hD k=>?_⟩
 ·obtain⟨h1,h2,bs,h3,h4⟩:=hD
  exact⟨λb o e=>s _ _ (h1 b o e),λb o e=>s _ _ (h2 b o e),bs,s _ _ h3,h4.mono λ_ _ e=>s _ _ e⟩
 ·obtain⟨h1,h2,bs,h3,h4⟩:=hD
  have hz':b=N:=hz
  rw[hz',h3]at e;cases e
 ·obtain⟨h1,h2,bs,h3,h4⟩:=hD
  rcases h with rfl | ⟨o,e⟩ | ⟨o,e⟩
  ·rw[h3];intro z;cases z
  ·rw[h1 b o e];intro z;cases z
  ·rw[h2 b o e];intro z;cases z
 ·obtain⟨h1,h2,bs,h3,h4⟩:=hD
  exact⟨λb o e=>k b o (.inl (.inr (.inl ⟨o,e⟩))) (h1 b o e),λb o e=>k b _ (.inl (.inr (.inr ⟨o,e⟩))) (h2 b o e),bs,k _ _ (.inl (.inl rfl)) h3,h4.mono λb xs e=>k b _ (.inr ⟨xs,rfl⟩) e⟩
local macro_rules | `(tactic| walk_at "rd") => `(tactic| walk_at "rc")
local macro_rules | `(tactic| walk_at "rl") => `(tactic| first | (refine eN fun R hR => ?_) | walk_at "ry" | (refine Nx.to (by assumption) _ _ ?_))
theorem Vv{g:Int->Int}(g0:∀z,0<=g z){S T:List Int}(h:S.Sublist T):(S.map g).sum<=(T.map g).sum:=by
 induction h with
 | slnil=>exact Int.le_refl _
 | cons a _ ih=>rw[fc,List.sum_cons];have:=g0 a;omega
 | cons_cons a _ ih=>rw[fc,fc,List.sum_cons,List.sum_cons];omega
theorem R4{S T:List Int}(rS:fG S)(rT:fG T)(h:aF S T=true):S.Sublist T:=by
 have e:T.filter (λz=>decide (z∈S))=S:=pd (rT.sublist wo) rS λz=>by
  rw[fL,gI]
  exact⟨λh=>h.2,λhz=>⟨cy.mp h z hz,hz⟩⟩
 rw[<-e];exact wo
theorem WY{H:Hp}{p:Addr}{x:List Int}{md:Md}(rx:fG x)(m:jI H p x md):ym (fV x) md.tells:=λS hS T hT hp ht=>by
 cases md with
 | wt g most=>
  obtain⟨d,ks,_,_,_,g0⟩:=m
  have:=Vv g0 (R4 (rx.sublist (ko hS)) (rx.sublist (ko hT)) hp)
  have ht':=of_decide_eq_true ht
  exact decide_eq_true (by omega)
 | W' ss=>
  obtain⟨s,hs,e⟩:=ik.mp ht
  exact ik.mpr ⟨s,hs,cy.mpr λz hz=>cy.mp e z (cy.mp hp z hz)⟩
 | out ss=>
  have ht':(!(ss.any λs=>aF s T))=true:=ht
  show(!(ss.any λs=>aF s S))=true
  cases e:ss.any λs=>aF s S with
  | false=>rfl
  | true=>
   obtain⟨s,hs,e⟩:=ik.mp e
   have e2:(ss.any λs=>aF s T)=true:=ik.mpr ⟨s,hs,cy.mpr λz hz=>cy.mp hp z (cy.mp e z hz)⟩
   rw[e2]at ht'
   cases ht'
theorem JH{A B:List (List Int)}(pa:A.Pairwise (λa b=>cu a b=true))(pb:B.Pairwise (λa b=>cu a b=true))(h:∀x,x∈A↔x∈B):A=B:=by
 induction A generalizing B with
 | nil=>
  cases B with
  | nil=>rfl
  | cons b B=>exact absurd ((h b).mpr dD) (by simp)
 | cons a A ih=>
  cases B with
  | nil=>exact absurd ((h a).mp dD) (by simp)
  | cons b B=>
   have p1:=wm.mp pa
   have p2:=wm.mp pb
   have e:a=b:=by
    rcases bT.mp ((h a).mp dD) with e | e
    ·exact e
    rcases bT.mp ((h b).mpr dD) with e' | e'
    ·exact e'.symm
    have:=QS (p1.1 b e') (p2.1 a e)
    rw[o8]at this;cases this
   subst e
   congr 1
   refine ih p1.2 p2.2 λx=>⟨λhx=>?_,λhx=>?_⟩
   ·rcases bT.mp ((h x).mp (dW _ hx)) with e | e
    ·rw[e]at hx
     have:=p1.1 a hx
     rw[o8]at this;cases this
    ·exact e
   ·rcases bT.mp ((h x).mpr (dW _ hx)) with e | e
    ·rw[e]at hx
     have:=p2.1 a hx
     rw[o8]at this;cases this
    ·exact e
inductive Reach (ps:List (List Int)) (W:List Int) (tells:List Int->Bool):List (List Int)->List (List Int)->Prop
 | refl (a:List (List Int)):Reach ps W tells a a
 | step {a b:List (List Int)} {S:List Int} {r:List (List Int)}:Reach ps W tells a b->(ps.filter λT=>!det tells b T)=S::r->Reach ps W tells a (turn W tells b S)
theorem Reach.first{ps:List (List Int)}{W:List Int}{tells:List Int->Bool}{a b:List (List Int)}(h:Reach ps W tells a b):a=b\/∃S r,(ps.filter λT=>!det tells a T)=S::r/\Reach ps W tells (turn W tells a S) b:=by
 induction h with
 | refl=>exact .inl rfl
 | step h1 e ih=>
  rcases ih with rfl | ⟨S,r,e1,h2⟩
  ·exact .inr ⟨_,_,e,.refl _⟩
  ·exact .inr ⟨S,r,e1,h2.step e⟩
theorem oN.reach{ps:List (List Int)}{W:List Int}{tells:List Int->Bool}{b:List (List Int)}(h:oN ps W tells b):Reach ps W tells [] b:=by
 induction h with
 | nil=>exact .refl _
 | step _ e ih=>exact ih.step e
theorem M7{ps:List (List Int)}{W:List Int}{tells:List Int->Bool}{a b:List (List Int)}(ha:oN ps W tells a)(hb:oN ps W tells b)(ea:∀T∈ps,det tells a T=true)(eb:∀T∈ps,det tells b T=true):a=b:=by
 have fin:∀{c:List (List Int)},(∀T∈ps,det tells c T=true)->(ps.filter λT=>!det tells c T)=[]:=λh=>List.filter_eq_nil_iff.mpr λT hT=>by rw[h T hT];decide
 have ord:Reach ps W tells a b\/Reach ps W tells b a:=by
  clear eb
  induction hb with
  | nil=>exact .inr ha.reach
  | step _ e ih=>
   rcases ih with h | h
   ·exact .inl (h.step e)
   ·rcases h.first with rfl | ⟨S,r,e1,h2⟩
    ·exact .inl (.step (.refl _) e)
    ·rw[e]at e1
     injection e1 with e1 _
     subst e1
     exact .inr h2
 rcases ord with h | h
 ·rcases h.first with e | ⟨S,r,e1,_⟩
  ·exact e
  ·rw[fin ea]at e1;cases e1
 ·rcases h.first with e | ⟨S,r,e1,_⟩
  ·exact e.symm
  ·rw[fin eb]at e1;cases e1
def NF(tells:List Int->Bool)(as:List (List Int)):Prop:=∀k (h:k<as.length),det tells (as.take k) as[k]=false
theorem Lc{tells:List Int->Bool}{as:List (List Int)}(h:NF tells as)(S:List Int):NF tells (qW tells as S):=by
 unfold qW
 by_cases c:det tells as S=true
 ·rw[aC c];exact h
 ·rw[aB c]
  intro k hk
  rw[cP,uZ]at hk
  by_cases e:k<as.length
  ·rw[List.take_append_of_le_length (by omega),List.getElem_append_left e]
   exact h k e
  ·have:k=as.length:=by omega
   subst this
   rw[List.take_left',List.getElem_concat_length rfl]
   ·exact Bc c
   ·rfl
theorem Ld{tells:List Int->Bool}{W:List Int}:∀(ms:List Int) (c:List Int×List (List Int)),NF tells c.2->NF tells (iQ tells (qW tells) W ms c).2
 | [],c,h=>h
 | m::ms,c,h=>by
  unfold iQ
  rw[ig]
  exact Ld ms _ (Lc h _)
theorem aCu{ps:List (List Int)}{W:List Int}{tells:List Int->Bool}{as:List (List Int)}(h:oN ps W tells as):NF tells as:=by
 induction h with
 | nil=>intro k hk;exact absurd hk (by simp)
 | step _ _ ih=>
  unfold turn
  split
  ·exact Ld _ _ (Lc (Lc ih _) _)
  ·exact Lc ih _
structure Res(x:List Int)(tells:List Int->Bool)(cl pe as:List (List Int)):Prop where
 mc:∀y,y∈cl↔y∈as.filter (λa=>!tells a)/\∀z∈as.filter (λa=>!tells a),aF z y=true->z=y
 mp:∀y,y∈pe↔y∈as.filter tells/\∀z∈as.filter tells,aF y z=true->z=y
 pc:cl.Pairwise (λa b=>cu a b=true)
 pp:pe.Pairwise (λa b=>cu a b=true)
 rn:∃ps:List (List Int),ps.Pairwise (λa b=>cu a b=true)/\(∀T,T∈ps↔T∈fV x)/\oN ps x tells as/\∀T∈ps,det tells as T=true
theorem Res.one{x:List Int}{tells:List Int->Bool}{cl pe as cl' pe' as':List (List Int)}(a:Res x tells cl pe as)(b:Res x tells cl' pe' as'):cl=cl'/\pe=pe'/\as=as':=by
 obtain⟨ps,a1,a2,a3,a4⟩:=a.rn
 obtain⟨ps',b1,b2,b3,b4⟩:=b.rn
 have e:ps=ps':=JH a1 b1 λt=>by rw[a2,b2]
 subst e
 have e2:as=as':=M7 a3 b3 a4 b4
 subst e2
 exact⟨JH a.pc b.pc λt=>by rw[a.mc,b.mc],JH a.pp b.pp λt=>by rw[a.mp,b.mp],rfl⟩
theorem jI.dr0{h:Addr}{B H:Hp}{p:Addr}{W:List Int}{md:Md}(hd:fS B h)(d:Dr h B H)(m:jI B p W md):jI H p W md:=by
 have k:∀{b:Addr} {o:HO},B b=some o->b≠h->H b=some o:=λ{b o} e nb=>d.keep _ _ nb e
 have nd:∀{b:Addr} {aM:List (Key×V)},B b=some (.dK aM)->b≠h:=λ{b aM} e z=>by
  obtain⟨l,ns,o,e1,⟨_,_,_,_,_,rfl,_⟩,_⟩:=hd
  rw[z,e1]at e;cases e
 cases md with
 | wt g most=>obtain⟨d',ks,h1,h2,h3⟩:=m;exact⟨d',ks,k h1 (hd.fP h1),k h2 (nd h2),h3⟩
 | W' ss=>obtain⟨l,bs,h1,h2,h3,h4⟩:=m;exact⟨l,bs,k h1 (hd.fP h1),k h2 (xm hd h2),h3.mono λ_ _ e=>k e (hd.fP e),h4⟩
 | out ss=>obtain⟨l,bs,h1,h2,h3,h4⟩:=m;exact⟨l,bs,k h1 (hd.fP h1),k h2 (xm hd h2),h3.mono λ_ _ e=>k e (hd.fP e),h4⟩
theorem y9.up{P:Program}{w:World}{K:PySem.W.Frag}{mg:Str->Option Value}{base:Heap}{j k:Nat}{f:Addr}{ι:Type}{Z:Addr->Prop}{D:ι->Hp->Prop}{nx:ι->List Int->ι}{lim:ι->Prop}{dom:List Int->Prop}{tells:List Int->Bool}(a:y9 P w K mg base j f Z D nx lim dom tells)(h:j<=k):y9 P w K mg base k f Z D nx lim dom tells:=
 ⟨let ⟨sp,c,r⟩:=a.run;⟨sp,c.mono h,r⟩,a.fn,a.st,a.nt⟩
theorem gH.mono{P:Program}{w:World}{K:PySem.W.Frag}{mg:Str->Option Value}{base:Heap}{j k:Nat}{f:Addr}{sp:Sp}(c:gH P w K mg base j f sp)(h:j<=k):gH P w K mg base k f sp:=
 λA outer s H us vs Q E hr=>c A outer s H us vs Q E (hr.mono h)
theorem xY{α:Type}(as:List α):∀i:List α,as.foldl (λts S=>ts++[S]) i=i++as:=by
 induction as with
 | nil=>intro i;rw[gh];rfl
 | cons a as ih=>intro i;rw[ig,ih,Av];rfl
theorem Zj{H:Hp}{p1 p2 p3:Addr}{b1 b2 b3:List Addr}{f1 f2 f3:List (List Int)}(h1:H p1=some (.lst (List.map V.ref b1)))(h2:H p2=some (.lst (List.map V.ref b2)))(h3:H p3=some (.lst (List.map V.ref b3)))(s1:aI H b1 f1)(s2:aI H b2 f2)(s3:aI H b3 f3):rP H [p1,p2,p3] [f1,f2,f3]:=by
 refine⟨rfl,λi p f e1 e2=>?_⟩
 match i,e1,e2 with
 | 0,e1,e2=>cases e1;cases e2;exact⟨_,h1,s1⟩
 | 1,e1,e2=>cases e1;cases e2;exact⟨_,h2,s2⟩
 | 2,e1,e2=>cases e1;cases e2;exact⟨_,h3,s3⟩
 | _+3,e1,_=>cases e1
def mJ(H:Hp)(r:Addr)(x:List Int)(tells:List Int->Bool):Prop:=∃(k1 k2 k3:Addr) (b1 b2 b3:List Addr) (cl pe as:List (List Int)),H r=some (.tup [.ref k1,.ref k2,.ref k3])/\H k1=some (.lst (List.map V.ref b1))/\H k2=some (.lst (List.map V.ref b2))/\H k3=some (.lst (List.map V.ref b3))/\aI H b1 cl/\aI H b2 pe/\aI H b3 as/\Res x tells cl pe as
theorem mJ.same{H H':Hp}{r:Addr}{x:List Int}{tells:List Int->Bool}(k:cp H H')(a:mJ H r x tells):mJ H' r x tells:=by
 obtain⟨k1,k2,k3,b1,b2,b3,cl,pe,as,h1,h2,h3,h4,s1,s2,s3,res⟩:=a
 exact⟨k1,k2,k3,b1,b2,b3,cl,pe,as,k _ _ h1,k _ _ h2,k _ _ h3,k _ _ h4,s1.mono λ_ _ e=>k _ _ e,s2.mono λ_ _ e=>k _ _ e,s3.mono λ_ _ e=>k _ _ e,res⟩
def bu(N KL pS:Addr)(H:Hp):Hp:=λb=>if b=N\/b=KL\/b=pS then none else H b
theorem Gw{N KL pS b:Addr}{H:Hp}(h1:b≠N)(h2:b≠KL)(h3:b≠pS):bu N KL pS H b=H b:=aB λz=>z.elim h1 λz=>z.elim h2 h3
theorem Dg{N KL pS b:Addr}{H:Hp}{o:HO}(h:bu N KL pS H b=some o):b≠N/\b≠KL/\b≠pS/\H b=some o:=by
 unfold bu at h
 by_cases z:b=N\/b=KL\/b=pS
 ·rw[aC z]at h;cases h
 ·rw[aB z]at h
  exact⟨λe=>z (.inl e),λe=>z (.inr (.inl e)),λe=>z (.inr (.inr e)),h⟩
theorem Dh{N KL pS:Addr}{H H':Hp}(k:∀b o,b≠N->b≠KL->b≠pS->H b=some o->H' b=some o):cp (bu N KL pS H) (bu N KL pS H'):=λb o e=>by
 obtain⟨h1,h2,h3,h⟩:=Dg e
 rw[Gw h1 h2 h3];exact k b o h1 h2 h3 h
local macro_rules | `(tactic| walk_at "rd") => `(tactic| walk_at "rc")
local macro_rules | `(tactic| walk_at "rl") => `(tactic| first | (refine eN fun R hR => ?_) | walk_at "ry" | (refine Nx.to (by assumption) _ _ ?_))
structure Sd(P:Program)(w:World)(K:PySem.W.Frag)(mg:Str->Option Value)(base:Heap)(B:Hp)(cells:List (Str×Addr))(LM N M0 M1 f W p M:Addr)(x S:List Int)(md:Md):Prop where
 fn:∃(c':Addr) (fo oc:Obj) (fd:FuncData) (cl:List (Str×Addr)),fo.data=.func fd/\gH P w K mg base 8 f (w5 f c' fo oc cl ["_law_models","_law_notes"] LM N M0 M1 M)/\B f=some (cB fo)/\B c'=some (cB oc)/\∀y∈(["_law_models","_law_notes"]:List Str),∃c,cells.lookup y=some c/\cl.lookup y=some c
 hW:B W=some (.tup (List.map V.int x))
 hp:B p=some (.tup (List.map V.int S))
 hm:jI B M x md
 rise:fG x
 lx:x.length<=5
 sub:S.Sublist x
theorem Sd.yc{P:Program}{w:World}{K:PySem.W.Frag}{mg:Str->Option Value}{base:Heap}{cells cl:List (Str×Addr)}{LM N:Addr}{C:List (Addr×Obj)}{σ:St}(vW:∀y∈(["_law_models","_law_notes"]:List Str),∃c,cells.lookup y=some c/\cl.lookup y=some c)(ca:CellsAre cells σ [(3,"_law_models"),(5,"_law_notes")] C)(h3:σ[3]?=some (some (.ref LM)))(h5:σ[5]?=some (some (.ref N))):CellsOk C cl ["_law_models","_law_notes"] [.ref LM,.ref N]:=λj y hj=>by
 have one:∀(k:Nat) (y:Str) (v:Addr),(k,y)∈[(3,("_law_models" : Str)),(5,"_law_notes")]->σ[k]?=some (some (.ref v))->y∈(["_law_models","_law_notes"]:List Str)->∃c o u v',cl.lookup y=some c/\C.lookup c=some o/\o.data=.cell (some u)/\some (V.ref v)=some v'/\RelV v' u:=λk y v hk hv hy=>by
  obtain⟨c1,o,u,v',h1,h2,h3,h4,h5⟩:=ca _ hk
  obtain⟨c2,g1,g2⟩:=vW y hy
  have:c1=c2:=dU (h1.symm.trans g1)
  subst this
  rw[hv]at h4
  cases h4
  exact⟨c1,o,u,_,g2,h2,h3,rfl,h5⟩
 match j,hj with
 | 0,hj=>cases hj;exact one 3 _ LM (by simp) h3 (by simp)
 | 1,hj=>cases hj;exact one 5 _ N (by simp) h5 (by simp)
 | _+2,hj=>cases hj
def Ku(K:PySem.W.Frag)(pT pS:Addr):Sp:=λvs H Q _=>∃(a:Addr) (ns:List Int),vs=[.ref a]/\qi K H a (List.map V.int ns)/\ns.length<=63/\H pT=some (.nL #[])/\H pS=some (.nL #[])/\pT≠pS/\∀H',Q (.bl true) H'
theorem aAC(T:Txt K mg t){c pT c1 pS:Addr}(j7:t.L7.code=.ref c)(hC:PySem.W.CodeHd base c pT)(aBi:t.lE.code=.ref c1)(hC1:PySem.W.CodeHd base c1 pS)(hB:BMain mg base):cq P w K mg base eV 20 t.UG t.L7 ["_law_script"] (Ku K pT pS):=by
 have bh:=vU (P:=P) (w:=w) (base:=base) T
 have GL:=WT (P:=P) (w:=w) (base:=base) T
 have oR:=Io (P:=P) (w:=w) (base:=base) T
 have ke:=K9 (P:=P) (w:=w) (base:=base) T
 have tX:=Sb (P:=P) (w:=w) (base:=base) T
 have Dt:=R' (P:=P) (w:=w) (base:=base) T
 have Ke:=aAD (P:=P) (w:=w) (base:=base) T
 have Pg:=Im (P:=P) (w:=w) (base:=base) T aBi hC1 hB
 refine T.aDZ.aCq fj (λvs H Q E h=>?_) (λcD A outer s H vs Q E hcv hr h hc hf=>?_)
 ·obtain⟨a,ns,rfl,_⟩:=h;rfl
 obtain⟨a,ns,rfl,hS,h63,hT,hTs,hTS,q⟩:=h
 have vq:cD=.ref c:=by rw[<-hcv];exact j7
 have hu:=qd hr
 have U6:=hr.jn
 refine⟨_,(by apply aq;exact(aH hc fj.nd hf 1 (by decide +kernel) (aG GL hr.mono (di hc) T.Fl T.vD.kp T.Gz .nil bj (ae (au hc 0) ai)));apply aq;exact(aH hc fj.nd hf 2 (by decide +kernel) (dI (ae (aG oR hr.mono (di hc) T.oj T.jD.kp T.oG .nil bj (ae (au hc 1) (ae ao ai))) (ae (aG oR hr.mono (di hc) T.oj T.jD.kp T.oG .nil bj (ae (au hc 1) (ae ao ai))) ai))));apply gA;exact(cg (aY js (aG bh hr.mono (di hc) T.bE T.bz.kp T.bF .nil bj (ae (au hc 1) (ae ao ai))) ao (cj _)) (by exact az (jN (bq fW (au hc 2) ao (λ_ _=>rfl)) (jO (au hc 2) ao qa))) bt);apply aq;exact(aH hc fj.nd hf 3 (by decide +kernel) (dI (ae (aG tX hr.mono (di hc) T.tI T.mK.kp T.tS .nil bj (ae (au hc 1) (ae (bq fW (au hc 2) ao (λ_ _=>rfl)) ai))) (ae (aG tX hr.mono (di hc) T.tI T.mK.kp T.tS .nil bj (ae (au hc 1) (ae (bq fW (au hc 2) ao (λ_ _=>rfl)) ai))) ai))));apply aq;exact(aH hc fj.nd hf 4 (by decide +kernel) (dI (ae (aG ke hr.mono (di hc) T.oi T.kf.kp T.oF .nil bj (ae (au hc 1) (ae (bq fW (au hc 2) ao (λ_ _=>rfl)) ai))) (ae (aG ke hr.mono (di hc) T.oi T.kf.kp T.oF .nil bj (ae (au hc 1) (ae (bq fW (au hc 2) ao (λ_ _=>rfl)) ai))) ai))));apply aq;exact(aH hc fj.nd hf 5 (by decide +kernel) (dI ai));apply aq;exact(DN (fr:=bX) hc fj.nd hf 6 (by decide +kernel) vq hC hB rfl (by decide +kernel) (by decide +kernel) rfl rfl rfl);apply aq;exact(DN (fr:=bQ) hc fj.nd hf 7 (by decide +kernel) vq hC hB rfl (by decide +kernel) (by decide +kernel) rfl rfl rfl);apply aq;exact(aH hc fj.nd hf 8 (by decide +kernel) (dI ai));apply aq;exact(dG ie rfl (qz (di hc) T.oZ (ae ao ai)) (pG hc fj.nd hf 9 (by decide +kernel)) (by apply aq;exact(aH hc fj.nd hf 10 (by decide +kernel) (au hc 6));apply gA;exact(cg (aY js (aZ gP (au hc 9) ao) ao (cj _)) (by exact az (aH hc fj.nd hf 10 (by decide +kernel) (au hc 7))) bt);apply aq;exact(aH hc fj.nd hf 11 (by decide +kernel) (bq fW (au hc 2) (aZ gP (au hc 9) ao) (λ_ _=>rfl)));apply aq;exact(cg (aY (Wz hr.units) (uo (xs:=[(3,"_law_models"),(5,"_law_notes")]) (cells:=cellsFrom (s.heap.objs.size+1) (ag iN).names []) (EH:=λ_=>E0) rfl Dt.toE hr.mono (di hc) T.CG T.tY.kp T.Dk Jg hf (Js hc (by decide +kernel)) (ae (au hc 10) (ae (au hc 11) (ae (bq fW (au hc 4) (aZ gP (au hc 9) ao) (λ_ _=>rfl)) ai)))) (aG Ke hr.mono (di hc) T.Ja T.yw.kp T.J3 .nil bj (ae (bq fW (au hc 3) (aZ gP (au hc 9) ao) (λ_ _=>rfl)) (ae (au hc 11) (ae (bq fW (au hc 4) (aZ gP (au hc 9) ao) (λ_ _=>rfl)) ai)))) (cj _)) (by exact az (aV jk)) bt);apply aq;exact(cJ (Kh nC PySem.F.slot_list_clear PySem.F.type_list_clear Ff (au hc 5) ));apply aq;exact(aH hc fj.nd hf 12 (by decide +kernel) (uo (xs:=[(3,"_law_models"),(5,"_law_notes")]) (cells:=cellsFrom (s.heap.objs.size+1) (ag iN).names []) (EH:=λ_=>E0) rfl Pg.toE hr.mono (di hc) T.N3 T.Ae.kp T.Pa Jg hf (Js hc (by decide +kernel)) (ae (au hc 11) (ae (au hc 10) ai))));apply aq;exact(cg (pV (Bl (aY (WK hu) (bq xH (au hc 12) ao (λ_ _=>rfl)) (au hc 5) (cj _)) (vN (pV (oX (aY K8 (au hc 9) ao (cj _)) (kK (aY (WD hr.units) (au hc 12) (bq fW (au hc 8) (aZ Il (au hc 9) ao) (λ_ _=>rfl)) (cj _)))))))) (by exact az (aV jk)) bt);apply aq;exact(cJ (lQ nC sA sD eL (au hc 8) (ae (fA (ae (dh mC (di hc) T.qA Dj (ae (bq xH (au hc 12) ao (λ_ _=>rfl)) ai)) (ae (dh mC (di hc) T.qA Dj (ae (bq xH (au hc 12) ao (λ_ _=>rfl)) ai)) (ae (dh mC (di hc) T.qA Dj (ae (bq xH (au hc 12) ao (λ_ _=>rfl)) ai)) ai)))) ai)));exact az (cg (aY R5 (au hc 9) ao (cj _)) (by apply aq;exact(oY hc fj.nd 13 (by decide +kernel) ["_law_family"] [] rfl (by decide +kernel) (dH (au hc 12)) (λ_ hc=>sJ hc (by decide +kernel) 0 (by decide +kernel)) (λ_ _=>gi) (λ_ hc=>(aZ gQ (cK pD (di hc) T.nH vA (ae (au hc 0) ai)) ao)) (by rfl));apply aq;exact(dG ie rfl (dH (au hc 12)) (pG hc fj.nd hf 14 (by decide +kernel)) (by exact az (cJ (lQ nC sA sD eL (au hc 14) (ae (fA (ae (au hc 9) ai)) ai)))));apply aq;exact(cg (aY (WL U6) (eJ hc ["_law_family"] [] rfl (by decide +kernel) (dH (au hc 12)) (λ_ hc=>sJ hc (by decide +kernel) 0 (by decide +kernel)) (λ_ _=>gi) (λ_ hc=>(cK pD (di hc) T.nH vA (ae (au hc 0) ai)))) (au hc 13) (cj _)) (by exact az (aV jk)) bt);exact az (dG ie rfl (dH (au hc 12)) (pG hc fj.nd hf 14 (by decide +kernel)) (by exact az (cJ (Kh nC PySem.F.slot_list_clear PySem.F.type_list_clear Ff (au hc 14) ))))) bt)));exact az (aV jk)),?_⟩
 walk_at "r"
 refine⟨a,ns,rfl,hS,λh H1 s1 h0 hd=>?_⟩
 have hTh:pT≠h:=av hT h0
 have hSh:pS≠h:=av hTs h0
 have hT1:=s1 _ _ hT
 have hS1:=s1 _ _ hTs
 clear hT hTs
 walk_at "r"
 refine⟨h,_,rfl,5,rfl,by decide,hd,λW0 x0 H2 d2 hW0 hW2 lx0 rx0=>?_⟩
 have hd2:=d2.eR hd
 refine⟨h,_,rfl,5,rfl,by decide,hd2,λW1 x1 H3 d3 hW1 hW3 lx1 rx1=>?_⟩
 have aC9:=hd2.fP hW2
 have aDa:=d3.keep _ _ aC9 hW2
 have d13:=d2.trans d3
 have Y5:=d3.eR hd2
 refine⟨by decide,λLW hLW=>?_⟩
 have s34:=aD hLW (.lst [V.ref W0,V.ref W1])
 have d14:Dr h H1 (upd H3 LW (.lst [V.ref W0,V.ref W1])):=d13.new hLW
 have hL4:upd H3 LW (.lst [V.ref W0,V.ref W1]) LW=some (.lst [V.ref W0,V.ref W1]):=ah
 have Xr:=s34 _ _ aDa
 have Xq:=s34 _ _ hW3
 generalize upd H3 LW (.lst [V.ref W0,V.ref W1])=H4 at s34 d14 hL4 Xr Xq ⊢
 have hd4:=d14.eR hd
 have Za:LW≠h:=xm (bs:=[W0,W1]) hd4 hL4
 walk_at "r"
 unfold Ng
 obtain⟨vX,yU⟩:∃vX:St->Hp->Prop,∀σ' H',vX σ' H'↔∃(V1:Addr) (y1:List Int),σ'=[some (.ref a),some (.ref h),some (.ref LW),none,none,none,none,none,none,none,none,none,none,none,none]/\Dr h H1 H'/\H' LW=some (.lst [V.ref W0,V.ref V1])/\H' W0=some (.tup (List.map V.int x0))/\H' V1=some (.tup (List.map V.int y1))/\y1.length<=5/\fG y1:=⟨_,λ_ _=>dZ⟩
 refine⟨vX,?_,λσ' H5 hh=>?_⟩
 ·walk_at "r"
  have aC8:=hd4.fP Xr
  have aC7:=hd4.fP Xq
  refine dA hd4 Dr.refl (by decide) (by decide) λr H5 r0 r2 d5 k5=>⟨rfl,?_⟩
  have Xx:=(k5 LW Za).trans hL4
  have xS:=(k5 W0 aC8).trans Xr
  have aGb:=(k5 W1 aC7).trans Xq
  by_cases e:r=1
  ·subst e
   rw[aC rfl]
   refine⟨_,Xx,V.ref W0,rfl,_,Xx,1,rfl,?_⟩
   have ne:W0≠LW:=aN xS Xx (by intro z;cases z)
   exact(yU _ _).mpr ⟨W0,x0,rfl,(d14.trans d5).put (d13.free hd hLW),ah,by rw[aj ne];exact xS,by rw[aj ne];exact xS,lx0,rx0⟩
  ·rw[aB (λz=>e (V.int.inj z))]
   exact(yU _ _).mpr ⟨W1,x1,rfl,d14.trans d5,Xx,xS,aGb,lx1,rx1⟩
 obtain⟨V1,y1,rfl,d15,Xx,xS,hV5,ly1,ry1⟩:=(yU _ _).mp hh
 clear hh yU vX Xq Xr hL4 d14 s34 hd4 Za d13 aDa hW3 Y5 aC9 d3 d2 hd2 hW2 hLW hW1 hW0 lx1 rx1
 clear W1 x1
 have Oj:=d15.eR hd
 have Za:LW≠h:=xm (bs:=[W0,V1]) Oj Xx
 have nx0:x0.Nodup:=rx0.imp λh=>Int.ne_of_lt h
 have ny1:y1.Nodup:=ry1.imp λh=>Int.ne_of_lt h
 repeat (first | walk_at "rl" | simp only[Xx])
 refine⟨h,W0,rfl,Oj,x0,xS,by omega,nx0,λM0 md0 H6 d6 hM0 ma6=>?_⟩
 have hd6:=d6.eR Oj
 have hL6:=d6.keep _ _ Za Xx
 have hV6:=d6.keep _ _ (Oj.fP hV5) hV5
 repeat (first | walk_at "rl" | simp only[hL6])
 refine⟨h,V1,rfl,hd6,y1,hV6,by omega,ny1,λM1 md1 H7 d7 hM1 mb7=>?_⟩
 have ma7:=ma6.dr0 hd6 d7
 have d17:=(d15.trans d6).trans d7
 refine⟨by decide,λLM hLM=>?_⟩
 have Z6:=aD hLM (.lst [V.ref M0,V.ref M1])
 have d18:Dr h H1 (upd H7 LM (.lst [V.ref M0,V.ref M1])):=d17.new hLM
 have hM8:upd H7 LM (.lst [V.ref M0,V.ref M1]) LM=some (.lst [V.ref M0,V.ref M1]):=ah
 have ma8:=ma7.same Z6
 have mb8:=mb7.same Z6
 have hL8:=Z6 _ _ (d7.keep _ _ Za hL6)
 have Jy:=Z6 _ _ (d7.keep _ _ (hd6.fP (d6.keep _ _ (Oj.fP xS) xS)) (d6.keep _ _ (Oj.fP xS) xS))
 have hV8:=Z6 _ _ (d7.keep _ _ (hd6.fP hV6) hV6)
 generalize upd H7 LM (.lst [V.ref M0,V.ref M1])=H8 at Z6 d18 hM8 ma8 mb8 hL8 Jy hV8 ⊢
 clear ma6 mb7 ma7 d17 d15 d6 d7 Xx hL6 xS hV5 hV6 Oj hd6 Z6
 have Xn:=d18.eR hd
 have hMh:LM≠h:=xm (bs:=[M0,M1]) Xn hM8
 repeat (first | walk_at "rl" | simp only[hL8])
 refine⟨h,W0,rfl,Xn,x0,Jy,by omega,λp0 S0 H9 d9 Xg aA7 sS0=>?_⟩
 have hd9:=d9.eR Xn
 have hL9:=d9.keep _ _ Za hL8
 have hV9:=d9.keep _ _ (Xn.fP hV8) hV8
 repeat (first | walk_at "rl" | simp only[hL9])
 refine⟨h,V1,rfl,hd9,y1,hV9,by omega,λp1 S1 Pz O0 ng Tc sS1=>?_⟩
 have Te:=O0.keep _ _ (hd9.fP aA7) aA7
 have aAN:=(ma8.dr0 Xn d9).dr0 hd9 O0
 have aAL:=(mb8.dr0 Xn d9).dr0 hd9 O0
 have Xw:=O0.keep _ _ hMh (d9.keep _ _ hMh hM8)
 have aBx:=O0.keep _ _ Za hL9
 have aBo:=O0.keep _ _ (hd9.fP hV9) hV9
 have Tt:=O0.keep _ _ (hd9.fP (d9.keep _ _ (Xn.fP Jy) Jy)) (d9.keep _ _ (Xn.fP Jy) Jy)
 have aBE:=(d18.trans d9).trans O0
 have aDc:=aBE.keep _ _ hTh hT1
 have aDg:=aBE.keep _ _ hSh hS1
 clear ma8 mb8 hM8 hL8 hV8 Jy d18 d9 O0 Xn hd9 hL9 hV9 aA7 hMh Za aBE hd hT1 hS1 hTh hSh
 refine⟨by decide,λLP hLP=>?_⟩
 have Ei:=aD hLP (.lst [V.ref p0,V.ref p1])
 have Xv:upd Pz LP (.lst [V.ref p0,V.ref p1]) LP=some (.lst [V.ref p0,V.ref p1]):=ah
 generalize upd Pz LP (.lst [V.ref p0,V.ref p1])=H11 at Ei Xv ⊢
 walk_at "r"
 refine⟨by decide,λN hN=>?_⟩
 have s12:=aD hN (.lst [])
 have aBw:upd H11 N (.lst []) N=some (.lst []):=ah
 have kX:=Ei.trans s12
 have aBr:=s12 _ _ Xv
 have nLN:LM≠N:=av (Ei _ _ Xw) hN
 generalize upd H11 N (.lst [])=Zt at s12 aBw kX aBr ⊢
 have Tv:=kX _ _ aDc
 have aDf:=kX _ _ aDg
 have aGg:=kX _ _ Xw
 have aGh:=kX _ _ aBx
 have aDb:=kX _ _ Tt
 have aGc:=kX _ _ aBo
 have aCO:=kX _ _ Te
 have aCN:=kX _ _ Tc
 have aFv:=aAN.same kX
 have aFu:=aAL.same kX
 have nMd:∀b o,Pz b=some o->b≠N:=λb o e=>av (Ei _ _ e) hN
 walk_at "r"
 refine⟨#[],Tv,trivial,rfl,λcl0 f0 c0 oc0 aHj tq0 aGH aGp aC4 YL aCF hf0 hc0 aC1 aCR hq0=>?_⟩
 generalize aBf:PySem.W.fnMade (Str.ofString "_law_first") _ _ _ _ cl0 aGp _ c0 aGH=fo0
 have aDC:gH P w K mg base 8 f0 (w5 f0 c0 fo0 oc0 cl0 bX LM N M0 M1 M0):=by rw[<-aBf];exact O4 T aCR hq0 YL aCF
 obtain⟨fd0,aCZ⟩:∃fd,fo0.data=.func fd:=by rw[<-aBf];exact⟨_,rfl⟩
 clear aBf hq0 aCR aCF YL
 generalize etb:(#[] ++ #[rawInt _,rawInt _,Value.ref c0]:Array Value)=ZF
 have tr1:TriplesOk ZF.toList:=by
  rw[<-etb,Hc]
  exact TriplesOk_snoc _ _ _ _ trivial
 generalize e13:made Zt pT ZF c0 oc0 f0 fo0=H13
 have X8:∀{b:Addr} {o:HO},Zt b=some o->b≠pT->H13 b=some o:=λ{b o} e nb=>by
  rw[<-e13];unfold made
  rw[aj (av e hf0),aj (av e hc0),aj nb];exact e
 have aBg:H13 f0=some (cB fo0):=by rw[<-e13];exact ah
 have aBl:H13 c0=some (cB oc0):=by rw[<-e13];unfold made;rw[aj aC1.symm];exact ah
 have aBp:H13 pT=some (.nL ZF):=by rw[<-e13];unfold made;rw[aj (av Tv hf0),aj (av Tv hc0)];exact ah
 have nT:∀{b:Addr} {o:HO},Zt b=some o->o≠.nL #[]->b≠pT:=λe n=>aN e Tv n
 clear e13
 walk_at "r"
 refine⟨ZF,aBp,tr1,by rw[<-etb];rfl,λcl1 f1 c1' oc1 aHi tq1 aGG aGo aC3 YK aCE hf1 hc1 aC0 aCQ U8=>?_⟩
 generalize aBe:PySem.W.fnMade (Str.ofString "_law_second") _ _ _ _ cl1 aGo _ c1' aGG=fo1
 have aDB:gH P w K mg base 8 f1 (w5 f1 c1' fo1 oc1 cl1 bQ LM N M0 M1 M1):=by rw[<-aBe];exact JX T aCQ U8 YK aCE
 obtain⟨fd1,aCY⟩:∃fd,fo1.data=.func fd:=by rw[<-aBe];exact⟨_,rfl⟩
 clear aBe U8 aCQ aCE YK
 generalize Pt:made H13 pT _ c1' oc1 f1 fo1=UT
 have Uz:∀{b:Addr} {o:HO},H13 b=some o->b≠pT->UT b=some o:=λ{b o} e nb=>by
  rw[<-Pt];unfold made
  rw[aj (av e hf1),aj (av e hc1),aj nb];exact e
 have aC2:UT f1=some (cB fo1):=by rw[<-Pt];exact ah
 have aC6:UT c1'=some (cB oc1):=by rw[<-Pt];unfold made;rw[aj aC0.symm];exact ah
 clear Pt etb
 have nT1:∀{b:Addr} {o:HO},H13 b=some o->o≠.nL ZF->b≠pT:=λe n=>aN e aBp n
 have k14:∀{b:Addr} {o:HO},Zt b=some o->(∀ps,o≠.nL ps)->UT b=some o:=λe n=>Uz (X8 e (nT e (n _))) (nT1 (X8 e (nT e (n _))) (n _))
 have Jz:UT pS=some (.nL #[]):=Uz (X8 aDf hTS.symm) hTS.symm
 have Y2:UT f0=some (cB fo0):=Uz aBg (nT1 aBg (by intro z;cases z))
 have Y6:UT c0=some (cB oc0):=Uz aBl (nT1 aBl (by intro z;cases z))
 have Tz:=k14 aBw (by intro o z;cases z)
 walk_at "r"
 refine⟨by decide,λKL hKL=>?_⟩
 have Z9:=aD hKL (.lst [])
 have aDp:upd UT KL (.lst []) KL=some (.lst []):=ah
 generalize upd UT KL (.lst [])=UL at Z9 aDp ⊢
 have nKL:∀{b:Addr} {o:HO},UT b=some o->b≠KL:=λe=>av e hKL
 have toB:∀{b:Addr} {o:HO},Pz b=some o->(∀ps,o≠.nL ps)->bu N KL pS UL b=some o:=λ{b o} e n=>by
  have Pt:=k14 (kX _ _ e) n
  rw[Gw (nMd b o e) (nKL Pt) (aN Pt Jz (n _))];exact Z9 _ _ Pt
 have toF:∀{b:Addr} {o:Obj},UT b=some (cB o)->bu N KL pS UL b=some (cB o):=λ{b o} e=>by
  rw[Gw (aN e Tz (by intro z;cases z)) (nKL e) (aN e Jz (by intro z;cases z))];exact Z9 _ _ e
 have sd0:Sd P w K mg base (bu N KL pS UL) (cellsFrom (s.heap.objs.size+1) (ag iN).names []) LM N M0 M1 f0 W0 p0 M0 x0 S0 md0:=⟨⟨c0,fo0,oc0,fd0,cl0,aCZ,aDC,toF Y2,toF Y6,aC4⟩,toB Tt (by intro o z;cases z),toB Te (by intro o z;cases z),aAN.move λb o e n _=>toB e n,rx0,lx0,sS0⟩
 have sd1:Sd P w K mg base (bu N KL pS UL) (cellsFrom (s.heap.objs.size+1) (ag iN).names []) LM N M0 M1 f1 V1 p1 M1 y1 S1 md1:=⟨⟨c1',fo1,oc1,fd1,cl1,aCY,aDB,toF aC2,toF aC6,aC3⟩,toB aBo (by intro o z;cases z),toB Tc (by intro o z;cases z),aAL.move λb o e n _=>toB e n,ry1,ly1,sS1⟩
 have bLM:=toB Xw (by intro o z;cases z)
 have bLW:=toB aBx (by intro o z;cases z)
 have bLP:bu N KL pS UL LP=some (.lst [V.ref p0,V.ref p1]):=by
  have Pt:=k14 aBr (by intro o z;cases z)
  rw[Gw (av Xv hN) (nKL Pt) (aN Pt Jz (by intro z;cases z))];exact Z9 _ _ Pt
 have aGf:=Z9 _ _ Tz
 have aGd:=Z9 _ _ Jz
 have hNK:N≠KL:=nKL Tz
 have hSK:pS≠KL:=nKL Jz
 have hNS:N≠pS:=aN Tz Jz (by intro z;cases z)
 have ofB:∀b o,bu N KL pS UL b=some o->UL b=some o:=λb o e=>(Dg e).2.2.2
 have bN:bu N KL pS UL N=none:=aC (.inl rfl)
 have bK:bu N KL pS UL KL=none:=aC (.inr (.inl rfl))
 have bS:bu N KL pS UL pS=none:=aC (.inr (.inr rfl))
 generalize bu N KL pS UL=B at toB toF sd0 sd1 bLM bLW bLP ofB bN bK bS
 clear toB toF nKL Z9 k14 Uz X8 Y2 Y6 aC2 aC6 aBg aBl aDC aDB Tz Jz nT nT1 aBp Tv aDf aGg aGh aDb aGc aCO aCN aFv aFu nMd kX aBr aBw s12 Xv Ei aAN aAL Xw aBx aBo Tt Te Tc aDc aDg hKL hf0 hc0 hf1 hc1 aC1 aC0 aC4 aC3 aCZ aCY tr1 hLP hN hLM hM0 hM1 Xg ng rx0 lx0 sS0 ry1 ly1 sS1
 walk_at "r"
 obtain⟨Pv,dz⟩:∃Pv:Nat->St->Hp->Prop,∀i σ' H',Pv i σ' H'↔∃(z9 z10 z11 z12 Ym Yl:Option V) (bs:List Addr) (ts:List (List Int)) (ks:List Addr) (tb:Array Value),σ'=[some (.ref a),some (.ref h),some (.ref LW),some (.ref LM),some (.ref LP),some (.ref N),some (.ref f0),some (.ref f1),some (.ref KL),z9,z10,z11,z12,Ym,Yl]/\(∀b o,B b=some o->H' b=some o)/\H' N=some (.lst (List.map V.ref bs))/\aI H' bs ts/\ts.length<=100/\H' KL=some (.lst (List.map V.ref ks))/\ks.length=i/\
  (∀j r,ks[j]?=some r->(j%2=0->mJ (bu N KL pS H') r x0 md0.tells)/\(j%2=1->mJ (bu N KL pS H') r y1 md1.tells))/\H' pS=some (.nL tb)/\TriplesOk tb.toList/\(codeAmong (tJ aE) tb.toList=none\/∃c2 oc vs tq,codeAmong (tJ aE) tb.toList=some (.ref c2)/\H' c2=some (cB oc)/\oc.data=.fields vs/\vs[1]?=some (.str qS tq)/\B c2=none):=⟨_,λ_ _ _=>dZ⟩
 refine xX Pv ((dz _ _ _).mpr ⟨none,none,none,none,none,none,[],[],[],#[],rfl,ofB,aGf,⟨rfl,λ_ _ _ z=>by cases z⟩,dc _,aDp,rfl,(λj r e=>by cases e),aGd,trivial,.inl rfl⟩) (λi σ' H16 hi pv=>?_) (λσ' H16 pv=>?_)
 ·obtain⟨z9,z10,z11,z12,Ym,Yl,bs,ts,ks,tb,rfl,sB,aBv,aCa,lts,aBy,lks,kept,aDe,aD4,Qk⟩:=(dz _ _ _).mp pv
  have side:∃(f W p M:Addr) (x S:List Int) (md:Md),Sd P w K mg base B (cellsFrom (s.heap.objs.size+1) (ag iN).names []) LM N M0 M1 f W p M x S md/\(if (i:Int)%2=1 then f1 else f0)=f/\yg [V.ref W0,V.ref V1] ((i:Int)%2)=some (.ref W)/\yg [V.ref p0,V.ref p1] ((i:Int)%2)=some (.ref p)/\yg [V.ref M0,V.ref M1] ((i:Int)%2)=some (.ref M)/\
    ∀Hx r j,j%2=i%2->(((j%2=0->mJ Hx r x0 md0.tells)/\(j%2=1->mJ Hx r y1 md1.tells))↔mJ Hx r x md.tells):=by
   by_cases e:i%2=1
   ·have e':(i:Int)%2=1:=by omega
    refine⟨f1,V1,p1,M1,y1,S1,md1,sd1,aC e',by rw[e'];rfl,by rw[e'];rfl,by rw[e'];rfl,λHx r j hj=>⟨λz=>z.2 (by omega),λz=>⟨λy=>by omega,λ_=>z⟩⟩⟩
   ·have e':(i:Int)%2=0:=by omega
    refine⟨f0,W0,p0,M0,x0,S0,md0,sd0,aB (by omega),by rw[e'];rfl,by rw[e'];rfl,by rw[e'];rfl,λHx r j hj=>⟨λz=>z.1 (by omega),λz=>⟨λ_=>z,λy=>by omega⟩⟩⟩
  obtain⟨f,W,p,M,x,S,md,sd,ef,eW,ep,eM,ek⟩:=side
  have ep':=ep
  walk_at "r"
  refine⟨λσ' H'=>σ'=[some (.ref a),some (.ref h),some (.ref LW),some (.ref LM),some (.ref LP),some (.ref N),some (.ref f0),some (.ref f1),some (.ref KL),some (.int (i:Int)),some (.ref f),z11,z12,Ym,Yl]/\H'=H16,?_,λσ' Yi hh=>?_⟩
  ·by_cases e:(i:Int)%2=1
   ·rw[aC e]at ef ⊢
    rw[ef]
    exact⟨rfl,rfl⟩
   ·rw[aB e]at ef ⊢
    rw[ef]
    exact⟨rfl,rfl⟩
  obtain⟨rfl,rfl⟩:=hh
  have hLW:=sB _ _ bLW
  have hLM:=sB _ _ bLM
  have hLP:=sB _ _ bLP
  obtain⟨⟨c',fo,oc,fd,cl,hfd,G0,bf,bc,vW⟩,bW,bp,bm,rise,lx,sub⟩:=sd
  repeat (first | walk_at "rl" | simp only[hLW,hLP,eW,ep])
  refine⟨λq hq=>?_,λC ca po=>?_⟩
  ·rcases bT.mp hq with rfl | hq
   ·exact⟨_,rfl⟩
   ·rw[df.mp hq];exact⟨_,rfl⟩
  have yc:=Sd.yc (P:=P) (w:=w) (K:=K) (mg:=mg) (base:=base) vW ca rfl rfl
  have ak:=Ms (P:=P) (w:=w) (base:=base) hfd G0.ok yc bf bc bLM bm bN
  have sC:cp Yi (eU C Yi):=uM po
  have nN:∀{b:Addr} {o:HO},B b=some o->b≠N:=λe=>av e bN
  refine⟨f,W,p,rfl,_,_,_,_,_,_,md.tells,λk ts=>ts.length<=100+k,ts,x,S,ak.g.up (by decide),⟨_,gH.mono G0 (by decide),GF yc bf bc bLM bm bN⟩,lts,λk ts T h=>by have h':ts.length<=100+k:=h;show(ts++[T]).length<=100+(k+1);rw[cP,uZ];omega,λk ts hk h=>by have h':ts.length<=100+k:=h;show ts.length<=300;omega,
   ⟨λb o e=>sC _ _ (sB b o e),cT.added,bs,sC _ _ aBv,aCa.mono λ_ _ e=>sC _ _ e⟩,sC _ _ (sB _ _ bW),sC _ _ (sB _ _ bp),rise,sub,lx,λT hT=>⟨hT,lx⟩,λr q1 n' H18 aGk k18 aCK aCM=>?_⟩
  obtain⟨_,pin,aHn,aDj,aEb⟩:=aGk
  have keep:∀{b:Addr} {o:HO},Yi b=some o->b≠N->aO C H18 b=some o:=λ{b o} e nb=>by
   rw[aL (po.out e)];exact k18 b o nb (sC _ _ e)
  have out:∀{b:Addr} {o:HO},H18 b=some o->(∀o',o≠cB o')->aO C H18 b=some o:=λe n=>by rw[aL (pin.out e n)];exact e
  have aA2:=out aCK (by intro o z;cases z)
  have aA4:=out aCM (by intro o z;cases z)
  have aBu:=out aDj (by intro o z;cases z)
  try dsimp only
  generalize aO C H18=H19 at keep aA2 aA4 aBu ⊢
  have zR:∀b o,B b=some o->H19 b=some o:=λb o e=>keep (sB b o e) (nN e)
  clear out pin aEb aDj k18 aCK aCM sC ak yc ca po ep
  refine⟨_,zR _ _ bLM,.ref M,eM,_,zR _ _ bLP,.ref p,?_,M,W,p,rfl,md,x,S,bm.same zR,zR _ _ bW,zR _ _ bp,rise,sub,lx,λr2 q2 H20 s20 _ aCJ aCL=>?_⟩
  ·assumption
  refine⟨r,rfl,r2,rfl,_,_,s20 _ _ aA2,_,aCJ,_,s20 _ _ aA4,aCL,?_⟩
  have SQ:∀{b:Addr} {o:HO},Yi b=some o->b≠N->H20 b=some o:=λe n=>s20 _ _ (keep e n)
  have aBt:=s20 _ _ aBu
  clear keep zR aA2 aA4 aBu s20 aCJ aCL
  walk_at "r"
  refine⟨.inl ⟨rfl,_,bw aBt⟩,_,aBt,?_⟩
  have aBs:upd H20 N (.lst []) N=some (.lst []):=ah
  have oo:∀{b:Addr} {o:HO},Yi b=some o->b≠N->upd H20 N (.lst []) b=some o:=λe n=>by rw[aj n];exact SQ e n
  generalize upd H20 N (.lst [])=Zr at aBs oo ⊢
  clear SQ aBt
  have Tw:=oo aDe hNS.symm
  have Z5:∀b o,B b=some o->Zr b=some o:=λb o e=>oo (sB b o e) (nN e)
  obtain⟨Bk,Lr,Xo⟩:∃Bk:Hp,(∀b,(b=N\/b=pS\/codeAmong (tJ aE) tb.toList=some (.ref b))->Bk b=none)/\∀b,¬(b=N\/b=pS\/codeAmong (tJ aE) tb.toList=some (.ref b))->Bk b=Zr b:=by
   classical
   exact⟨λb=>if b=N\/b=pS\/codeAmong (tJ aE) tb.toList=some (.ref b) then none else Zr b,λb h=>aC h,λb h=>aB h⟩
  have Sq:∀{b:Addr},codeAmong (tJ aE) tb.toList=some (.ref b)->∃oc:Obj,Yi b=some (cB oc)/\B b=none:=λ{b} e=>by
   rcases Qk with z | ⟨c2,oc,vs,tq,a1,a2,_,_,a5⟩
   ·rw[z]at e;cases e
   ·rw[a1]at e;cases e;exact⟨oc,a2,a5⟩
  have toBk:∀{b:Addr} {o:HO},B b=some o->Bk b=some o:=λ{b o} e=>by
   rw[Xo b (λz=>?_)]
   ·exact Z5 b o e
   ·rcases z with z | z | z
    ·exact nN e z
    ·rw[z,bS]at e;cases e
    ·obtain⟨_,_,z2⟩:=Sq z
     rw[z2]at e;cases e
  have Zz:∀{b:Addr} {o:HO},Yi b=some o->b≠N->b≠pS->(∀o',o≠cB o')->Bk b=some o:=λ{b o} e n1 n2 n3=>by
   rw[Xo b (λz=>?_)]
   ·exact oo e n1
   ·rcases z with z | z | z
    ·exact n1 z
    ·exact n2 z
    ·obtain⟨oc,z1,_⟩:=Sq z
     rw[z1]at e;cases e;exact n3 oc rfl
  have aCr:∀b o,Bk b=some o->Zr b=some o:=λb o e=>by
   by_cases z:b=N\/b=pS\/codeAmong (tJ aE) tb.toList=some (.ref b)
   ·rw[Lr b z]at e;cases e
   ·rw[Xo b z]at e;exact e
  have kN:=Lr N (.inl rfl)
  have kS:=Lr pS (.inr (.inl rfl))
  walk_at "r"
  refine⟨λq hq=>?_,λC ca po=>?_⟩
  ·rcases bT.mp hq with rfl | hq
   ·exact⟨_,rfl⟩
   ·rw[df.mp hq];exact⟨_,rfl⟩
  have yc:=Sd.yc (P:=P) (w:=w) (K:=K) (mg:=mg) (base:=base) vW ca rfl rfl
  have ak:=Ms (P:=P) (w:=w) (base:=base) hfd G0.ok yc (toBk bf) (toBk bc) (toBk bLM) (bm.same λb o e=>toBk e) kN
  have sC:cp Zr (eU C Zr):=uM po
  have Ys:vB (λb=>b=N\/(∃o,Bk b=some o)\/∃o,C.lookup b=some o) (eU C Zr) pS qS:=by
   refine⟨tb,sC _ _ Tw,aD4,Qk.imp id ?_⟩
   rintro⟨c2,oc,vs,tq,a1,a2,a3,a4,a5⟩
   have nc:c2≠N:=aN a2 aBv (by intro z;cases z)
   refine⟨c2,oc,vs,tq,a1,sC _ _ (oo a2 nc),a3,a4,?_⟩
   rintro(z | ⟨o,z⟩ | ⟨o,z⟩)
   ·exact nc z
   ·rw[Lr c2 (.inr (.inr a1))]at z;cases z
   ·have:=po _ _ z
    rw[oo a2 nc]at this;cases this
  refine⟨W,f,rfl,_,_,_,_,_,_,_,md.tells,[],x,ak,⟨λb o e=>sC _ _ (aCr b o e),cT.added,[],sC _ _ aBs,⟨rfl,λ_ _ _ z=>by cases z⟩⟩,λts Tb=>?_,sC _ _ (Z5 _ _ bW),rise,lx,λT hT=>⟨hT,lx⟩,WY rise bm,Ys,?_,λr3 Vi LC LQ LA cs qs yB clashes kx as ps aCI zW sc hL2 sq hL3 sb aDr k22 aAK aAJ pwc pwp aCe Xe tu Dm nda aBZ Yr ncp ncl npl Sj nop Pk=>?_⟩
  ·rw[xY]
   show([]++ts).length<=300
   rw[qu];omega
  ·rintro(z | ⟨o,z⟩ | ⟨o,z⟩)
   ·exact hNS z.symm
   ·rw[kS]at z;cases z
   ·rw[po _ _ z]at Tw;cases Tw
  rw[xY,qu]at aDr
  obtain⟨_,pin,aAE,aDi,aB6⟩:=aDr
  have Jk:∀{b:Addr} {o:HO},Zr b=some o->b≠N->b≠pS->aO C Vi b=some o:=λ{b o} e n1 n2=>by
   rw[aL (po.out e)];exact k22 b o n1 n2 (sC _ _ e)
  have out:∀{b:Addr} {o:HO},Vi b=some o->(∀o',o≠cB o')->aO C Vi b=some o:=λe n=>by rw[aL (pin.out e n)];exact e
  have FZ:=out aCI (by intro o z;cases z)
  have Gh:=out zW (by intro o z;cases z)
  have Gg:=out hL2 (by intro o z;cases z)
  have CQ:=out hL3 (by intro o z;cases z)
  have Ov:=out aDi (by intro o z;cases z)
  have QV:aI (aO C Vi) cs clashes:=sc.mono λb xs e=>out e (by intro o z;cases z)
  have QB:aI (aO C Vi) qs kx:=sq.mono λb xs e=>out e (by intro o z;cases z)
  have Nt:aI (aO C Vi) yB as:=sb.mono λb xs e=>out e (by intro o z;cases z)
  have QK:aI (aO C Vi) aAE as:=aB6.mono λb xs e=>out e (by intro o z;cases z)
  have Qj:∃tb,aO C Vi pS=some (.nL tb)/\TriplesOk tb.toList/\(codeAmong (tJ aE) tb.toList=none\/∃c2 oc vs tq,codeAmong (tJ aE) tb.toList=some (.ref c2)/\aO C Vi c2=some (cB oc)/\oc.data=.fields vs/\vs[1]?=some (.str qS tq)/\B c2=none):=by
   obtain⟨tb,h1,h2,h3⟩:=Yr
   refine⟨tb,by rw[aL (po.out Tw)];exact h1,h2,h3.imp id ?_⟩
   rintro⟨c2,oc,vs,tq,a1,a2,a3,a4,a5⟩
   refine⟨c2,oc,vs,tq,a1,?_,a3,a4,?_⟩
   ·cases e:C.lookup c2 with
    | none=>rw[aL e];exact a2
    | some o=>exact absurd (.inr (.inr ⟨o,e⟩)) a5
   ·cases e:B c2 with
    | none=>rfl
    | some o=>exact absurd (.inr (.inl ⟨o,toBk e⟩)) a5
  have res:Res x md.tells clashes kx as:=⟨aAK,aAJ,pwc,pwp,ps,aCe,Xe,tu,Dm⟩
  have las:as.length<=32:=by
   have h1:=eG nda λs hs=>(Xe s).mp (aBZ s hs)
   rw[o7]at h1
   have h2:2 ^ x.length<=2 ^ 5:=Bd (by decide) lx
   omega
  have ndl:∀{l:List (List Int)},l.Pairwise (λa b=>cu a b=true)->l.Nodup:=λh=>h.imp λe z=>by rw[z,o8]at e;cases e
  have lcl:clashes.length<=32:=fJ (eG (ndl pwc) λs hs=>(fL.mp ((aAK s).mp hs).1).1) las
  have lpe:kx.length<=32:=fJ (eG (ndl pwp) λs hs=>(fL.mp ((aAJ s).mp hs).1).1) las
  have hCN:LC≠N:=λz=>Sj (.inl z)
  have hQN:LQ≠N:=λz=>nop (.inl z)
  have hAN:LA≠N:=λz=>Pk (.inl z)
  have noL:∀{b:Addr} {o:HO},Bk b=some o->b≠LC/\b≠LQ/\b≠LA:=λe=>⟨λz=>Sj (.inr (.inl ⟨_,z ▸ e⟩)),λz=>nop (.inr (.inl ⟨_,z ▸ e⟩)),λz=>Pk (.inr (.inl ⟨_,z ▸ e⟩))⟩
  have lcs:=QV.1
  have lqs:=QB.1
  have lbs:=Nt.1
  have lns:=QK.1
  try dsimp only
  generalize aO C Vi=Py at Jk FZ Gh Gg CQ Ov QV QB Nt QK Qj ⊢
  clear out pin aB6 aDi k22 aCI zW hL2 hL3 sc sq sb sC ak yc ca po Yr Ys aAK aAJ pwc pwp aCe Xe tu Dm nda aBZ Sj nop Pk Lr Xo Sq aCr kN kS ndl Qk
  have Li:∀{b:Addr} {o:HO},Yi b=some o->b≠N->b≠pS->Py b=some o:=λe n1 n2=>Jk (oo e n1) n1 n2
  have uC:=Li aBy hNK.symm hSK.symm
  have hKB:=noL (Zz aBy hNK.symm hSK.symm (by intro o z;cases z))
  repeat (first | walk_at "rl" | simp only[FZ])
  rename_i R0 hR0
  refine⟨yB,CQ,aAE,Ov,as,Nt,as,QK,?_⟩
  rw[aB (by simp)]
  suffices G:R0 [some (.ref a),some (.ref h),some (.ref LW),some (.ref LM),some (.ref LP),some (.ref N),some (.ref f0),some (.ref f1),some (.ref KL),some (.int (i:Int)),some (.ref f),some (.ref W),some (.ref r3),Ym,Yl] Py by
   by_cases e1:1<(i:Int)
   ·rw[aC e1]
    have zV:i-2<ks.length:=by omega
    have er:ks[i-2]?=some ks[i-2]:=bP zV
    obtain⟨k1,k2,k3,b1,b2,b3,cl',pe',as',g1,g2,g3,g4,t1,t2,t3,aEw⟩:=((ek _ _ (i-2) (by omega)).mp (kept (i-2) _ er)).same (Dh λb o n1 _ n3 e=>Li e n1 n3)
    obtain⟨rfl,rfl,rfl⟩:=res.one aEw
    have u:∀{b:Addr} {o:HO},bu N KL pS Py b=some o->Py b=some o:=λe=>(Dg e).2.2.2
    refine⟨_,uC,.ref ks[i-2],?_,_,rfl,[LC,LQ,LA],rfl,[k1,k2,k3],u g1,_,Zj Gh Gg CQ QV QB Nt,_,Zj (u g2) (u g3) (u g4) (t1.mono λ_ _ e=>u e) (t2.mono λ_ _ e=>u e) (t3.mono λ_ _ e=>u e),?_⟩
    ·rw[show(i:Int)-2=((i-2:Nat):Int) by omega]
     exact iY (by rw[cU,er];rfl)
    ·rw[aB (by simp)];exact G
   ·rw[aB e1];exact G
  repeat (first | walk_at "rl" | simp only[FZ,Gh])
  refine⟨.inl ⟨rfl,_,bw uC⟩,λK1 hK1=>?_⟩
  have U3:=aD hK1 (.lst (List.map V.ref cs))
  have TK:upd Py K1 (.lst (List.map V.ref cs)) K1=some (.lst (List.map V.ref cs)):=ah
  generalize upd Py K1 (.lst (List.map V.ref cs))=H24 at U3 TK ⊢
  refine⟨_,U3 _ _ FZ,.ref LQ,rfl,LQ,rfl,_,U3 _ _ Gg,λK2 hK2=>?_⟩
  have Yy:=aD hK2 (.lst (List.map V.ref qs))
  have TJ:upd H24 K2 (.lst (List.map V.ref qs)) K2=some (.lst (List.map V.ref qs)):=ah
  generalize upd H24 K2 (.lst (List.map V.ref qs))=H25 at Yy TJ ⊢
  refine⟨_,Yy _ _ (U3 _ _ FZ),.ref LA,rfl,LA,rfl,_,Yy _ _ (U3 _ _ CQ),λK3 hK3=>?_⟩
  have s26:=aD hK3 (.lst (List.map V.ref yB))
  have TF:upd H25 K3 (.lst (List.map V.ref yB)) K3=some (.lst (List.map V.ref yB)):=ah
  generalize upd H25 K3 (.lst (List.map V.ref yB))=H26 at s26 TF ⊢
  refine⟨by decide,λKT hKT=>?_⟩
  have s27:=aD hKT (.tup [V.ref K1,V.ref K2,V.ref K3])
  have TB:upd H26 KT (.tup [V.ref K1,V.ref K2,V.ref K3]) KT=some (.tup [V.ref K1,V.ref K2,V.ref K3]):=ah
  generalize upd H26 KT (.tup [V.ref K1,V.ref K2,V.ref K3])=H27 at s27 TB ⊢
  have QW:=((U3.trans Yy).trans s26).trans s27
  have Ze:=s27 _ _ (s26 _ _ (Yy _ _ TK))
  have Zd:=s27 _ _ (s26 _ _ TJ)
  have Zc:=s27 _ _ TF
  have nK:∀{b:Addr} {o:HO},Py b=some o->b≠K1/\b≠K2/\b≠K3/\b≠KT:=λe=>⟨av e hK1,av (U3 _ _ e) hK2,av (Yy _ _ (U3 _ _ e)) hK3,av (s26 _ _ (Yy _ _ (U3 _ _ e))) hKT⟩
  refine⟨_,QW _ _ uC,by rw[aQ];exact cz (by omega),?_⟩
  have Zb:upd H27 KL (.lst (List.map V.ref ks++[V.ref KT])) KL=some (.lst (List.map V.ref (ks++[KT]))):=by rw[ah,fK];rfl
  have k28:∀{b:Addr} {o:HO},H27 b=some o->b≠KL->upd H27 KL (.lst (List.map V.ref ks++[V.ref KT])) b=some o:=λe n=>by rw[aj n];exact e
  generalize upd H27 KL (.lst (List.map V.ref ks++[V.ref KT]))=H28 at Zb k28 ⊢
  have kz:∀{b:Addr} {o:HO},Py b=some o->b≠KL->H28 b=some o:=λe n=>k28 (QW _ _ e) n
  have aDq:=k28 Ze (nK uC).1.symm
  have aDo:=k28 Zd (nK uC).2.1.symm
  have aDn:=k28 Zc (nK uC).2.2.1.symm
  have aDm:=k28 TB (nK uC).2.2.2.symm
  have Oc:=kz FZ (aN FZ uC (by intro z;cases z))
  have TL:=kz Gh hKB.1.symm
  have Tx:=kz Gg hKB.2.1.symm
  have TQ:=kz CQ hKB.2.2.symm
  clear U3 Yy s26 s27 hK1 hK2 hK3 hKT TK TJ TF TB Ze Zd Zc k28 QW
  have fin:∀Ym Yl H',(∀b o,H28 b=some o->b≠LC->b≠LQ->b≠LA->H' b=some o)->Pv (i+1) [some (.ref a),some (.ref h),some (.ref LW),some (.ref LM),some (.ref LP),some (.ref N),some (.ref f0),some (.ref f1),some (.ref KL),some (.int (i:Int)),some (.ref f),some (.ref W),some (.ref r3),Ym,Yl] H':=λYm Yl H' kF=>by
   have kT:∀{b:Addr} {xs:List V},H28 b=some (.tup xs)->H' b=some (.tup xs):=λe=>kF _ _ e (aN e TL (by intro z;cases z)) (aN e Tx (by intro z;cases z)) (aN e TQ (by intro z;cases z))
   have aCB:∀{b:Addr} {xs:List V},Py b=some (.tup xs)->H' b=some (.tup xs):=λe=>kT (kz e (aN e uC (by intro z;cases z)))
   have aCC:∀{b:Addr} {o:Obj},Py b=some (cB o)->H' b=some (cB o):=λe=>kF _ _ (kz e (aN e uC (by intro z;cases z))) (aN e Gh (by intro z;cases z)) (aN e Gg (by intro z;cases z)) (aN e CQ (by intro z;cases z))
   have kO:∀b o,b≠N->b≠KL->b≠pS->Yi b=some o->H' b=some o:=λb o n1 n2 n3 e=>by
    have e23:=Li e n1 n3
    by_cases hp:∃o',o=cB o'
    ·obtain⟨o',rfl⟩:=hp
     exact aCC e23
    ·have:=noL (Zz e n1 n3 λo' z=>hp ⟨o',z⟩)
     exact kF b o (kz e23 n2) this.1 this.2.1 this.2.2
   obtain⟨tb',Ou,aD3,aD5⟩:=Qj
   have ne3:∀{b:Addr},b≠N->b≠KL->b≠pS->bu N KL pS H' b=H' b:=λn1 n2 n3=>Gw n1 n2 n3
   have aFq:mJ (bu N KL pS H') KT x md.tells:=by
    have nn:∀{k:Addr} {o:HO},H28 k=some o->(∀{b:Addr} {o:HO},Py b=some o->b≠k)->bu N KL pS H' k=some o:=λ{k o} e n=>by
     rw[ne3 (n Ov).symm (n uC).symm (n Ou).symm]
     exact kF _ _ e (n Gh).symm (n Gg).symm (n CQ).symm
    have mv:∀{bs:List Addr} {ts:List (List Int)},aI Py bs ts->aI (bu N KL pS H') bs ts:=λs=>s.mono λb xs e=>by
     rw[ne3 (aN e Ov (by intro z;cases z)) (aN e uC (by intro z;cases z)) (aN e Ou (by intro z;cases z))];exact aCB e
    exact⟨K1,K2,K3,cs,qs,yB,clashes,kx,as,nn aDm λe=>(nK e).2.2.2,nn aDq λe=>(nK e).1,nn aDo λe=>(nK e).2.1,nn aDn λe=>(nK e).2.2.1,mv QV,mv QB,mv Nt,res⟩
   refine(dz _ _ _).mpr ⟨_,_,_,_,_,_,aAE,as,ks++[KT],tb',rfl,λb o e=>kO b o (nN e) (λz=>by rw[z,bK]at e;cases e) (λz=>by rw[z,bS]at e;cases e) (sB b o e),kF _ _ (kz Ov hNK) hCN.symm hQN.symm hAN.symm,QK.mono λb xs e=>aCB e,by omega,kF _ _ Zb hKB.1 hKB.2.1 hKB.2.2,by rw[cP,lks];rfl,λj r e=>?_,kF _ _ (kz Ou hSK) (aN Ou Gh (by intro z;cases z)) (aN Ou Gg (by intro z;cases z)) (aN Ou CQ (by intro z;cases z)),aD3,aD5.imp id ?_⟩
   ·by_cases hj:j<ks.length
    ·rw[nE hj]at e
     have:=kept j r e
     exact⟨λz=>(this.1 z).same (Dh kO),λz=>(this.2 z).same (Dh kO)⟩
    ·have ej:j=i:=by
      have:=(dO.mp e).1
      rw[cP,uZ]at this
      omega
     subst ej
     rw[mQ (by omega),show j-ks.length=0 by omega]at e
     cases e
     exact(ek _ _ j rfl).mpr aFq
   ·rintro⟨c2,oc,vs,tq,a1,a2,a3,a4,a5⟩
    exact⟨c2,oc,vs,tq,a1,aCC a2,a3,a4,a5⟩
  walk_at "r"
  by_cases e2:(i:Int)<2
  ·rw[aC e2]
   clear Li oo Jk kz toBk Zz noL kept ek sB Z5 uC Ov FZ Gh Gg CQ QV QB Nt QK Qj res nN bf bc bW bp bm vW hfd G0 hLW hLM hLP aDe Tw aBs aBv aCa aBy
   walk_at "r"
   refine⟨⟨_,bH Oc⟩,?_⟩
   refine je (zs:=[V.ref LC,V.ref LQ,V.ref LA]) (λj=>([cs.length,qs.length,yB.length]:List Nat)[j]?.map λn=>(n:Int)+1) (λ_ _ v d=>v=V.int d) (λ_ _ _ _ _ _ r=>r) (λ_ _ _ _ _ _ _ r=>r) Oc (by show 3<=900000;decide) (λDD cb H29 j z yes no hj Z8 Ve Vd fq yA=>?_) (λMn H29 vs Z8 hMn aDl rl=>?_)
   ·have pick:∃(b:Addr) (l:List Addr),z=.ref b/\H28 b=some (.lst (List.map V.ref l))/\([cs.length,qs.length,yB.length]:List Nat)[j]?=some l.length:=by
     match j,hj with
     | 0,hj=>cases hj;exact⟨LC,cs,rfl,TL,rfl⟩
     | 1,hj=>cases hj;exact⟨LQ,qs,rfl,Tx,rfl⟩
     | 2,hj=>cases hj;exact⟨LA,yB,rfl,TQ,rfl⟩
     | _+3,hj=>cases hj
    obtain⟨b,l,rfl,hb,el⟩:=pick
    rw[el]at fq
    have aGa:=Z8 _ _ hb
    walk_at "rc"
    repeat (first | walk_at "rl" | simp only[aGa])
    exact fq _ rfl _ _ (λ_ _ e=>e) rfl
   have ev:vs=[V.int ((cs.length:Int)+1),V.int ((qs.length:Int)+1),V.int ((yB.length:Int)+1)]:=by rw[tK rl];rfl
   subst ev
   have aCH:=Z8 _ _ Oc
   walk_at "r"
   refine⟨⟨_,bH aCH⟩,?_⟩
   have nMn:∀{b:Addr} {o:HO},H28 b=some o->b≠Mn:=λe=>av e hMn
   obtain⟨Pw,hPw⟩:∃Pw:Nat->St->Hp->Prop,∀k σ' H',Pw k σ' H'↔∃(z:Option V) (c' q' a':List V),σ'=[some (.ref a),some (.ref h),some (.ref LW),some (.ref LM),some (.ref LP),some (.ref N),some (.ref f0),some (.ref f1),some (.ref KL),some (.int (i:Int)),some (.ref f),some (.ref W),some (.ref r3),some (.ref Mn),z]/\(∀b o,H29 b=some o->b≠LC->b≠LQ->b≠LA->H' b=some o)/\
    H' LC=some (.lst c')/\H' LQ=some (.lst q')/\H' LA=some (.lst a')/\c'.length=cs.length+min 1 k/\q'.length=qs.length+min 1 (k-1)/\a'.length=yB.length+min 1 (k-2):=⟨_,λ_ _ _=>dZ⟩
   have kr:∀{H':Hp},(∀b o,H29 b=some o->b≠LC->b≠LQ->b≠LA->H' b=some o)->H' r3=some (.tup [V.ref LC,V.ref LQ,V.ref LA]):=λk=>k _ _ aCH (aN Oc TL (by intro z;cases z)) (aN Oc Tx (by intro z;cases z)) (aN Oc TQ (by intro z;cases z))
   refine ft (xs:=[V.ref LC,V.ref LQ,V.ref LA]) Pw ((hPw _ _ _).mpr ⟨_,_,_,_,rfl,λb o e _ _ _=>e,Z8 _ _ TL,Z8 _ _ Tx,Z8 _ _ TQ,by rw[aQ];rfl,by rw[aQ];rfl,by rw[aQ];rfl⟩) (λk σ' H30 _ pw=>?_) (λk z σ' H30 hz pw=>?_) (λσ' H30 pw=>?_)
   ·obtain⟨_,_,_,_,_,k30,_⟩:=(hPw _ _ _).mp pw
    exact kr k30
   ·obtain⟨z',c',q',a',rfl,k30,Ol,Od,Ot,lc,lq,la⟩:=(hPw _ _ _).mp pw
    have pick:∃(b:Addr) (l:List V),z=.ref b/\H30 b=some (.lst l)/\l.length<=100/\∀(o:V) (H':Hp),(∀b' o,H30 b'=some o->b'≠b->H' b'=some o)->H' b=some (.lst (l++[o]))->Pw (k+1) [some (.ref a),some (.ref h),some (.ref LW),some (.ref LM),some (.ref LP),some (.ref N),some (.ref f0),some (.ref f1),some (.ref KL),some (.int (i:Int)),some (.ref f),some (.ref W),some (.ref r3),some (.ref Mn),some z] H':=by
     match k,hz,lc,lq,la with
     | 0,hz,lc,lq,la=>cases hz;exact⟨LC,c',rfl,Ol,by omega,λo H' kp e=>(hPw _ _ _).mpr ⟨_,c'++[o],q',a',rfl,λb o e n1 n2 n3=>kp _ _ (k30 b o e n1 n2 n3) n1,e,kp _ _ Od ncp.symm,kp _ _ Ot ncl.symm,by rw[cP,uZ];omega,by omega,by omega⟩⟩
     | 1,hz,lc,lq,la=>cases hz;exact⟨LQ,q',rfl,Od,by omega,λo H' kp e=>(hPw _ _ _).mpr ⟨_,c',q'++[o],a',rfl,λb o e n1 n2 n3=>kp _ _ (k30 b o e n1 n2 n3) n2,kp _ _ Ol ncp,e,kp _ _ Ot npl.symm,by omega,by rw[cP,uZ];omega,by omega⟩⟩
     | 2,hz,lc,lq,la=>cases hz;exact⟨LA,a',rfl,Ot,by omega,λo H' kp e=>(hPw _ _ _).mpr ⟨_,c',q',a'++[o],rfl,λb o e n1 n2 n3=>kp _ _ (k30 b o e n1 n2 n3) n3,kp _ _ Ol ncl,kp _ _ Od npl,e,by omega,by omega,by rw[cP,uZ];omega⟩⟩
     | _+3,hz,_,_,_=>cases hz
    obtain⟨b,l,rfl,hb,ll,go⟩:=pick
    walk_at "r"
    exact⟨.inl ⟨rfl,_,bw hb⟩,by decide,λp hp=>⟨l,(aD hp _) _ _ hb,cz (by omega),go _ _ (λb' o e n=>by rw[aj n];exact(aD hp _) _ _ e) ah⟩⟩
   obtain⟨z',c',q',a',rfl,k30,Ol,Od,Ot,lc,lq,la⟩:=(hPw _ _ _).mp pw
   have aA1:=kr k30
   have lc':c'.length=cs.length+1:=lc
   have lq':q'.length=qs.length+1:=lq
   have la':a'.length=yB.length+1:=la
   have aDk:=k30 _ _ aDl (nMn TL).symm (nMn Tx).symm (nMn TQ).symm
   walk_at "r"
   refine⟨⟨_,bH aA1⟩,?_⟩
   refine je (zs:=[V.ref LC,V.ref LQ,V.ref LA]) (λj=>([c'.length,q'.length,a'.length]:List Nat)[j]?.map λn=>(n:Int)) (λ_ _ v d=>v=V.int d) (λ_ _ _ _ _ _ r=>r) (λ_ _ _ _ _ _ _ r=>r) aA1 (by show 3<=900000;decide) (λDD cb H31 j z yes no hj Yx Ve Vd fq yA=>?_) (λD3 H31 vs Yx GZ aGi rl=>?_)
   ·have pick:∃(b:Addr) (l:List V),z=.ref b/\H30 b=some (.lst l)/\([c'.length,q'.length,a'.length]:List Nat)[j]?=some l.length:=by
     match j,hj with
     | 0,hj=>cases hj;exact⟨LC,c',rfl,Ol,rfl⟩
     | 1,hj=>cases hj;exact⟨LQ,q',rfl,Od,rfl⟩
     | 2,hj=>cases hj;exact⟨LA,a',rfl,Ot,rfl⟩
     | _+3,hj=>cases hj
    obtain⟨b,l,rfl,hb,el⟩:=pick
    rw[el]at fq
    have aF9:=Yx _ _ hb
    walk_at "rc"
    repeat (first | walk_at "rl" | simp only[aF9])
    exact fq _ rfl _ _ (λ_ _ e=>e) rfl
   have ev:vs=[V.int ((cs.length:Int)+1),V.int ((qs.length:Int)+1),V.int ((yB.length:Int)+1)]:=by
    rw[tK rl]
    show [V.int (c'.length:Int),V.int (q'.length:Int),V.int (a'.length:Int)]=_
    rw[lc',lq',la']
    rfl
   subst ev
   refine⟨D3,rfl,_,aGi,_,Yx _ _ aDk,rfl,rfl,?_⟩
   rw[show x6 [V.int ((cs.length:Int)+1),V.int ((qs.length:Int)+1),V.int ((yB.length:Int)+1)] [V.int ((cs.length:Int)+1),V.int ((qs.length:Int)+1),V.int ((yB.length:Int)+1)]=true by simp[x6,Dz,List.range,List.range.loop]]
   rw[aB (by decide)]
   have aFW:=Yx _ _ aA1
   walk_at "r"
   refine⟨⟨_,bH aFW⟩,?_⟩
   obtain⟨Pu,hPu⟩:∃Pu:Nat->St->Hp->Prop,∀k σ' H',Pu k σ' H'↔∃(z:Option V) (c' q' a':List V),σ'=[some (.ref a),some (.ref h),some (.ref LW),some (.ref LM),some (.ref LP),some (.ref N),some (.ref f0),some (.ref f1),some (.ref KL),some (.int (i:Int)),some (.ref f),some (.ref W),some (.ref r3),some (.ref Mn),z]/\(∀b o,H29 b=some o->b≠LC->b≠LQ->b≠LA->H' b=some o)/\H' LC=some (.lst c')/\H' LQ=some (.lst q')/\H' LA=some (.lst a'):=⟨_,λ_ _ _=>dZ⟩
   refine ft (xs:=[V.ref LC,V.ref LQ,V.ref LA]) Pu ((hPu _ _ _).mpr ⟨_,_,_,_,rfl,λb o e n1 n2 n3=>Yx _ _ (k30 b o e n1 n2 n3),Yx _ _ Ol,Yx _ _ Od,Yx _ _ Ot⟩) (λk σ' H32 _ pw=>?_) (λk z σ' H32 hz pw=>?_) (λσ' H32 pw=>?_)
   ·obtain⟨_,_,_,_,_,k32,_⟩:=(hPu _ _ _).mp pw
    exact kr k32
   ·obtain⟨z',c2,q2,a2,rfl,k32,aBk,aA3,aBm⟩:=(hPu _ _ _).mp pw
    have pick:∃(b:Addr) (l:List V),z=.ref b/\H32 b=some (.lst l)/\Pu (k+1) [some (.ref a),some (.ref h),some (.ref LW),some (.ref LM),some (.ref LP),some (.ref N),some (.ref f0),some (.ref f1),some (.ref KL),some (.int (i:Int)),some (.ref f),some (.ref W),some (.ref r3),some (.ref Mn),some z] (upd H32 b (.lst [])):=by
     have up:∀{b b':Addr} {o:HO},H32 b'=some o->b'≠b->upd H32 b (.lst []) b'=some o:=λe n=>by rw[aj n];exact e
     match k,hz with
     | 0,hz=>cases hz;exact⟨LC,c2,rfl,aBk,(hPu _ _ _).mpr ⟨_,_,_,_,rfl,λb o e n1 n2 n3=>up (k32 b o e n1 n2 n3) n1,ah,up aA3 ncp.symm,up aBm ncl.symm⟩⟩
     | 1,hz=>cases hz;exact⟨LQ,q2,rfl,aA3,(hPu _ _ _).mpr ⟨_,_,_,_,rfl,λb o e n1 n2 n3=>up (k32 b o e n1 n2 n3) n2,up aBk ncp,ah,up aBm npl.symm⟩⟩
     | 2,hz=>cases hz;exact⟨LA,a2,rfl,aBm,(hPu _ _ _).mpr ⟨_,_,_,_,rfl,λb o e n1 n2 n3=>up (k32 b o e n1 n2 n3) n3,up aBk ncl,up aA3 npl,ah⟩⟩
     | _+3,hz=>cases hz
    obtain⟨b,l,rfl,hb,go⟩:=pick
    walk_at "r"
    exact⟨.inl ⟨rfl,_,bw hb⟩,l,hb,go⟩
   obtain⟨z',c2,q2,a2,rfl,k32,_⟩:=(hPu _ _ _).mp pw
   exact fin _ _ _ λb o e n1 n2 n3=>k32 b o (Z8 _ _ e) n1 n2 n3
  ·rw[aB e2]
   exact fin _ _ _ λb o e _ _ _=>e
 ·obtain⟨z9,z10,z11,z12,Ym,Yl,bs,ts,ks,tb,rfl,_⟩:=(dz _ _ _).mp pv
  walk_at "r"
  exact q _
local macro_rules | `(tactic| walk_at "rd") => `(tactic| walk_at "rc")
local macro_rules | `(tactic| walk_at "rl") => `(tactic| first | (refine eN fun R hR => ?_) | walk_at "ry" | (refine Nx.to (by assumption) _ _ ?_))
theorem all_mk{l:PySem.W.OpenLaw}{w:World}{K:PySem.W.Frag}{h:Heap}{mg:Str->Option Value}{fa f0 f1 f2 f3 f4 f5 f6 f7 f8 f9 f10 f11 f12 f13 f14 f15 f16 f17 f18 f19 f20 f21 f22 f23 f24 f25:Addr}(X:K.In h)(G:h.Ns mainGlobals mg)(hfa:mg "law" = some (.ref fa))
  {od0 an0 od1 an1 od2 an2 od3 an3 od4 an4 od5 an5 od6 an6 od7 an7 od8 an8 od9 an9 aE7 aHb aE6 aHa aE5 aG9 aE4 aG8 aE3 aG7 aE2 aG6 aE1 aG5 aE0 aG4 aEZ aG3 aEY aG2 aEX aG1 aEW aG0 aEV aGZ aEU aGY aET aGX aES aDX:Option Addr} {sl0 sl1 GR sl3 sl4 sl5 sl6 sl7 sl8 sl9 aEu aEt aEs aEr aEq aEp aEo aEn aEm aEk aEj aEi aEh aEg aEf aEe:Array (Option Value)} {oc0 kV0 dc0 pm0 cd0 ct0 oc1 kV1 dc1 pm1 cd1 ct1 oc2 kV2 dc2 pm2 cd2 ct2 oc3 kV3 dc3 pm3 cd3 ct3 oc4 kV4 dc4 pm4 cd4 ct4 oc5 kV5 dc5 pm5 cd5 ct5 oc6 kV6 dc6 pm6 cd6 ct6 oc7 kV7 dc7 pm7 cd7 ct7 oc8 kV8 dc8 pm8 cd8 ct8 oc9 kV9 dc9 pm9 cd9 ct9 aFo aFN aGE aEQ aDR aGW aFn aFM aGD aEP aDQ aGV aFm aFL aGC aEO aDP aGU aFl aFK aGB aEN aGT aFk aFJ aGA aEM aDO aGS aFj aFI aGz aEL aDN aGR aFi aFH aGy aEK aDM aGQ aFh aFG aGx aEJ aDL aGP aFg aFF aGw aEI aDK aGO aFf aFE aGv aEH aDJ aGN aFe aFD aGu aEG aDI aGM aFd aFC aGt aEF aDH aGL aFc aFB aGs aEE aDG aGK aFb aFA aGr aED aDF aGJ aFa aFz aGq aEC aDE aGI aE9 aCA aDz aCh aDA:Value}
  {cC_law pT_law:Addr} (aBA:PySem.W.codeHdIn K cC_law pT_law=true)
  {cC_sounded pT_sounded:Addr} (JB:PySem.W.codeHdIn K cC_sounded pT_sounded=true)
  (a0:PySem.W.nsIn K mainGlobals "each_once_in_order" = some (some (.ref f0))) (l0:K.lookup f0=some ⟨oc0,od0,.func (PySem.W.fnOf "each_once_in_order" "each_once_in_order" (aS bV) (aK bV) (ag bV) .none kV0 dc0 pm0 an0 cd0 ct0),sl0⟩) (c0:PySem.W.codeIn K cd0 "each_once_in_order" = true) (k0:PySem.W.keepIn K (.ref f0)=true)
  (a1:PySem.W.nsIn K mainGlobals "order_of" = some (some (.ref f1))) (l1:K.lookup f1=some ⟨oc1,od1,.func (PySem.W.fnOf "order_of" "order_of" (aS gL) (aK gL) (ag gL) .none kV1 dc1 pm1 an1 cd1 ct1),sl1⟩) (c1:PySem.W.codeIn K cd1 "order_of" = true) (k1:PySem.W.keepIn K (.ref f1)=true)
  (a2:PySem.W.nsIn K mainGlobals "set_of" = some (some (.ref f2))) (l2:K.lookup f2=some ⟨oc2,od2,.func (PySem.W.fnOf "set_of" "set_of" (aS kW) (aK kW) (ag kW) .none kV2 dc2 pm2 an2 cd2 ct2),GR⟩) (c2:PySem.W.codeIn K cd2 "set_of" = true) (k2:PySem.W.keepIn K (.ref f2)=true)
  (a3:PySem.W.nsIn K mainGlobals "is_part" = some (some (.ref f3))) (l3:K.lookup f3=some ⟨oc3,od3,.func (PySem.W.fnOf "is_part" "is_part" (aS jc) (aK jc) (ag jc) .none kV3 dc3 pm3 an3 cd3 ct3),sl3⟩) (c3:PySem.W.codeIn K cd3 "is_part" = true) (k3:PySem.W.keepIn K (.ref f3)=true)
  (a4:PySem.W.nsIn K mainGlobals "in_order" = some (some (.ref f4))) (l4:K.lookup f4=some ⟨oc4,od4,.func (PySem.W.fnOf "in_order" "in_order" (aS gN) (aK gN) (ag gN) .none kV4 dc4 pm4 an4 cd4 ct4),sl4⟩) (c4:PySem.W.codeIn K cd4 "in_order" = true) (k4:PySem.W.keepIn K (.ref f4)=true)
  (a5:PySem.W.nsIn K mainGlobals "least_of" = some (some (.ref f5))) (l5:K.lookup f5=some ⟨oc5,od5,.func (PySem.W.fnOf "least_of" "least_of" (aS gM) (aK gM) (ag gM) .none kV5 dc5 pm5 an5 cd5 ct5),sl5⟩) (c5:PySem.W.codeIn K cd5 "least_of" = true) (k5:PySem.W.keepIn K (.ref f5)=true)
  (a6:PySem.W.nsIn K mainGlobals "greatest_of" = some (some (.ref f6))) (l6:K.lookup f6=some ⟨oc6,od6,.func (PySem.W.fnOf "greatest_of" "greatest_of" (aS eK) (aK eK) (ag eK) .none kV6 dc6 pm6 an6 cd6 ct6),sl6⟩) (c6:PySem.W.codeIn K cd6 "greatest_of" = true) (k6:PySem.W.keepIn K (.ref f6)=true)
  (a7:PySem.W.nsIn K mainGlobals "holds_one_of" = some (some (.ref f7))) (l7:K.lookup f7=some ⟨oc7,od7,.func (PySem.W.fnOf "holds_one_of" "holds_one_of" (aS dP) (aK dP) (ag dP) .none kV7 dc7 pm7 an7 cd7 ct7),sl7⟩) (c7:PySem.W.codeIn K cd7 "holds_one_of" = true) (k7:PySem.W.keepIn K (.ref f7)=true)
  (a8:PySem.W.nsIn K mainGlobals "lies_in_one_of" = some (some (.ref f8))) (l8:K.lookup f8=some ⟨oc8,od8,.func (PySem.W.fnOf "lies_in_one_of" "lies_in_one_of" (aS cW) (aK cW) (ag cW) .none kV8 dc8 pm8 an8 cd8 ct8),sl8⟩) (c8:PySem.W.codeIn K cd8 "lies_in_one_of" = true) (k8:PySem.W.keepIn K (.ref f8)=true)
  (a9:PySem.W.nsIn K mainGlobals "rest_of" = some (some (.ref f9))) (l9:K.lookup f9=some ⟨oc9,od9,.func (PySem.W.fnOf "rest_of" "rest_of" (aS jb) (aK jb) (ag jb) .none kV9 dc9 pm9 an9 cd9 ct9),sl9⟩) (c9:PySem.W.codeIn K cd9 "rest_of" = true) (k9:PySem.W.keepIn K (.ref f9)=true)
  (a10:PySem.W.nsIn K mainGlobals "parts_of" = some (some (.ref f10))) (l10:K.lookup f10=some ⟨aFo,aE7,.func (PySem.W.fnOf "parts_of" "parts_of" (aS gK) (aK gK) (ag gK) .none aFN aGE aEQ aHb aDR aGW),aEu⟩) (c10:PySem.W.codeIn K aDR "parts_of" = true) (k10:PySem.W.keepIn K (.ref f10)=true)
  (a11:PySem.W.nsIn K mainGlobals "grown" = some (some (.ref f11))) (l11:K.lookup f11=some ⟨aFn,aE6,.func (PySem.W.fnOf "grown" "grown" (aS o9) (aK o9) (ag o9) .none aFM aGD aEP aHa aDQ aGV),aEt⟩) (c11:PySem.W.codeIn K aDQ "grown" = true) (k11:PySem.W.keepIn K (.ref f11)=true)
  (a12:PySem.W.nsIn K mainGlobals "shrunk" = some (some (.ref f12))) (l12:K.lookup f12=some ⟨aFm,aE5,.func (PySem.W.fnOf "shrunk" "shrunk" (aS kR) (aK kR) (ag kR) .none aFL aGC aEO aG9 aDP aGU),aEs⟩) (c12:PySem.W.codeIn K aDP "shrunk" = true) (k12:PySem.W.keepIn K (.ref f12)=true)
  (a13:PySem.W.nsIn K mainGlobals "sounded" = some (some (.ref f13))) (l13:K.lookup f13=some ⟨aFl,aE4,.func (PySem.W.fnOf "sounded" "sounded" (aS bL) (aK bL) (ag bL) .none aFK aGB aEN aG8 (.ref cC_sounded) aGT),aEr⟩) (c13:PySem.W.codeIn K (.ref cC_sounded) "sounded" = true) (k13:PySem.W.keepIn K (.ref f13)=true)
  (a14:PySem.W.nsIn K mainGlobals "_law_hand" = some (some (.ref f14))) (l14:K.lookup f14=some ⟨aFk,aE3,.func (PySem.W.fnOf "_law_hand" "_law_hand" (aS gq) (aK gq) (ag gq) .none aFJ aGA aEM aG7 aDO aGS),aEq⟩) (c14:PySem.W.codeIn K aDO "_law_hand" = true) (k14:PySem.W.keepIn K (.ref f14)=true)
  (a15:PySem.W.nsIn K mainGlobals "_law_next" = some (some (.ref f15))) (l15:K.lookup f15=some ⟨aFj,aE2,.func (PySem.W.fnOf "_law_next" "_law_next" (aS gp) (aK gp) (ag gp) .none aFI aGz aEL aG6 aDN aGR),aEp⟩) (c15:PySem.W.codeIn K aDN "_law_next" = true) (k15:PySem.W.keepIn K (.ref f15)=true)
  (a16:PySem.W.nsIn K mainGlobals "_law_take" = some (some (.ref f16))) (l16:K.lookup f16=some ⟨aFi,aE1,.func (PySem.W.fnOf "_law_take" "_law_take" (aS gj) (aK gj) (ag gj) .none aFH aGy aEK aG5 aDM aGQ),aEo⟩) (c16:PySem.W.codeIn K aDM "_law_take" = true) (k16:PySem.W.keepIn K (.ref f16)=true)
  (a17:PySem.W.nsIn K mainGlobals "_law_draw" = some (some (.ref f17))) (l17:K.lookup f17=some ⟨aFh,aE0,.func (PySem.W.fnOf "_law_draw" "_law_draw" (aS gu) (aK gu) (ag gu) .none aFG aGx aEJ aG4 aDL aGP),aEn⟩) (c17:PySem.W.codeIn K aDL "_law_draw" = true) (k17:PySem.W.keepIn K (.ref f17)=true)
  (a18:PySem.W.nsIn K mainGlobals "_law_is_within" = some (some (.ref f18))) (l18:K.lookup f18=some ⟨aFg,aEZ,.func (PySem.W.fnOf "_law_is_within" "_law_is_within" (aS cX) (aK cX) (ag cX) .none aFF aGw aEI aG3 aDK aGO),aEm⟩) (c18:PySem.W.codeIn K aDK "_law_is_within" = true) (k18:PySem.W.keepIn K (.ref f18)=true)
  (a19:PySem.W.nsIn K mainGlobals "_law_members" = some (some (.ref f19))) (l19:K.lookup f19=some ⟨aFf,aEY,.func (PySem.W.fnOf "_law_members" "_law_members" (aS dQ) (aK dQ) (ag dQ) .none aFE aGv aEH aG2 aDJ aGN),aEk⟩) (c19:PySem.W.codeIn K aDJ "_law_members" = true) (k19:PySem.W.keepIn K (.ref f19)=true)
  (a20:PySem.W.nsIn K mainGlobals "_law_some" = some (some (.ref f20))) (l20:K.lookup f20=some ⟨aFe,aEX,.func (PySem.W.fnOf "_law_some" "_law_some" (aS gk) (aK gk) (ag gk) .none aFD aGu aEG aG1 aDI aGM),aEj⟩) (c20:PySem.W.codeIn K aDI "_law_some" = true) (k20:PySem.W.keepIn K (.ref f20)=true)
  (a21:PySem.W.nsIn K mainGlobals "_law_model" = some (some (.ref f21))) (l21:K.lookup f21=some ⟨aFd,aEW,.func (PySem.W.fnOf "_law_model" "_law_model" (aS fF) (aK fF) (ag fF) .none aFC aGt aEF aG0 aDH aGL),aEi⟩) (c21:PySem.W.codeIn K aDH "_law_model" = true) (k21:PySem.W.keepIn K (.ref f21)=true)
  (a22:PySem.W.nsIn K mainGlobals "_law_tells" = some (some (.ref f22))) (l22:K.lookup f22=some ⟨aFc,aEV,.func (PySem.W.fnOf "_law_tells" "_law_tells" (aS fD) (aK fD) (ag fD) .none aFB aGs aEE aGZ aDG aGK),aEh⟩) (c22:PySem.W.codeIn K aDG "_law_tells" = true) (k22:PySem.W.keepIn K (.ref f22)=true)
  (a23:PySem.W.nsIn K mainGlobals "_law_moved" = some (some (.ref f23))) (l23:K.lookup f23=some ⟨aFb,aEU,.func (PySem.W.fnOf "_law_moved" "_law_moved" (aS fE) (aK fE) (ag fE) .none aFA aGr aED aGY aDF aGJ),aEg⟩) (c23:PySem.W.codeIn K aDF "_law_moved" = true) (k23:PySem.W.keepIn K (.ref f23)=true)
  (a24:PySem.W.nsIn K mainGlobals "_law_end" = some (some (.ref f24))) (l24:K.lookup f24=some ⟨aFa,aET,.func (PySem.W.fnOf "_law_end" "_law_end" (aS gO) (aK gO) (ag gO) .none aFz aGq aEC aGX aDE aGI),aEf⟩) (c24:PySem.W.codeIn K aDE "_law_end" = true) (k24:PySem.W.keepIn K (.ref f24)=true)
  (a25:PySem.W.nsIn K mainGlobals "law" = some (some (.ref f25))) (l25:K.lookup f25=some ⟨aE9,aES,.func (PySem.W.fnOf "law" "law" (aS iN) (aK iN) (ag iN) .none aCA aDz aCh aDX (.ref cC_law) aDA),aEe⟩) (c25:PySem.W.codeIn K (.ref cC_law) "law" = true) (k25:PySem.W.keepIn K (.ref f25)=true)
  (Kl:PySem.W.nsIn K mainGlobals "abs" = some none)
  (Kk:PySem.W.nsIn K mainGlobals "all" = some none)
  (DR:PySem.W.nsIn K mainGlobals "any" = some none)
  (nH:PySem.W.nsIn K mainGlobals "len" = some none)
  (qA:PySem.W.nsIn K mainGlobals "list" = some none)
  (oZ:PySem.W.nsIn K mainGlobals "range" = some none)
  (lR:PySem.W.nsIn K mainGlobals "reversed" = some none)
  (Kj:PySem.W.nsIn K mainGlobals "set" = some none)
  (nG:PySem.W.nsIn K mainGlobals "sorted" = some none)
  (Ki:PySem.W.nsIn K mainGlobals "sum" = some none)
  (iT:PySem.W.nsIn K mainGlobals "tuple" = some none)
  (cx7:PySem.W.specialIn K (.builtin "object.__class__") "__get__" = some (some (.builtin "getset_descriptor.__get__"))) (cx8:PySem.W.takesIn K (.builtin "object.__class__")=some true)
  {aR aP bD:Addr}
  {bA bM:Addr} {Fv FT Fw FV:Option Addr} {Fp Fq:Array (Option Value)} {Fx FH FK Ft vn FP Fy FJ FN Fu vo FQ:Value}
  (qh:PySem.W.nsIn K mainGlobals "TruceError" = some (some (.ref aR))) (p7:pH K aR=true) (p6:PySem.W.hasDictIn K aR=true) (p5:PySem.W.findIn K (.ref aR) "__setattr__" = some (some (.builtin "object.__setattr__"))) (pZ:PySem.W.findIn K (.ref aR) "__getattribute__" = some (some (.builtin "BaseException.__getattribute__"))) (pY:PySem.W.findIn K (.ref aR) "__getattr__" = some none) (pX:PySem.W.findIn K (.ref aR) "__class__" = some (some (.builtin "object.__class__"))) (pW:PySem.W.mroIn K aR (.type "object")=some true)
  (yh:PySem.W.nsIn K mainGlobals "NoPeace" = some (some (.ref aP))) (wO:pH K aP=true) (wM:PySem.W.hasDictIn K aP=true) (wK:PySem.W.findIn K (.ref aP) "__setattr__" = some (some (.builtin "object.__setattr__"))) (wI:PySem.W.findIn K (.ref aP) "__getattribute__" = some (some (.builtin "BaseException.__getattribute__"))) (wG:PySem.W.findIn K (.ref aP) "__getattr__" = some none) (wD:PySem.W.findIn K (.ref aP) "__class__" = some (some (.builtin "object.__class__"))) (wB:PySem.W.mroIn K aP (.type "object")=some true)
  (yi:PySem.W.nsIn K mainGlobals "NoClash" = some (some (.ref bD))) (wQ:pH K bD=true) (wN:PySem.W.hasDictIn K bD=true) (wL:PySem.W.findIn K (.ref bD) "__setattr__" = some (some (.builtin "object.__setattr__"))) (wJ:PySem.W.findIn K (.ref bD) "__getattribute__" = some (some (.builtin "BaseException.__getattribute__"))) (wH:PySem.W.findIn K (.ref bD) "__getattr__" = some none) (wF:PySem.W.findIn K (.ref bD) "__class__" = some (some (.builtin "object.__class__"))) (wC:PySem.W.mroIn K bD (.type "object")=some true)
  (kB:PySem.W.keepIn K (.ref aR)=true)
  (kG:PySem.W.findIn K (.ref aR) "__init__" = some (some (.builtin "ValueError.__init__")))
  (hV:PySem.W.readsIn K aR (.type "type")=true)
  (ia:PySem.W.findCls K (.ref aR) (.type "type") "__init__" = some (.val (.builtin "ValueError.__init__")))
  (g9:PySem.W.specialIn K (.ref aR) "__getattribute__" = some (some (.builtin "type.__getattribute__")))
  (mj:PySem.W.keepIn K (.ref aP)=true)
  (xK:K.lookup bA=some ⟨Fx,Fv,.func (PySem.W.fnOf "__init__" "NoPeace.__init__" (aS cF) (aK cF) (ag cF) .none FH FK Ft FT vn FP),Fp⟩) (xP:PySem.W.codeIn K vn "NoPeace.__init__" = true) (xN:PySem.W.keepIn K (.ref bA)=true)
  (ml:PySem.W.findIn K (.ref aP) "__init__" = some (some (.ref bA)))
  (mn:PySem.W.typeIn K (.ref bA)=some (.type "function"))
  (lT:PySem.W.takerIn K aP "part" = some none)
  (qX:PySem.W.findIn K (.ref aP) "part" = some none)
  (rj:PySem.W.keepIn K (.ref bD)=true)
  (xM:K.lookup bM=some ⟨Fy,Fw,.func (PySem.W.fnOf "__init__" "NoClash.__init__" (aS cG) (aK cG) (ag cG) .none FJ FN Fu FV vo FQ),Fq⟩) (xQ:PySem.W.codeIn K vo "NoClash.__init__" = true) (xO:PySem.W.keepIn K (.ref bM)=true)
  (rk:PySem.W.findIn K (.ref bD) "__init__" = some (some (.ref bM)))
  (rz:PySem.W.typeIn K (.ref bM)=some (.type "function"))
  (qR:PySem.W.takerIn K bD "part" = some none)
  (qY:PySem.W.findIn K (.ref bD) "part" = some none)
  (dY:PySem.W.subIn K (.ref aP) (.ref aP)=some true)
  (rg:PySem.W.kitOne K (.ref aP) (.type "ValueError")=some true)
  (rh:PySem.W.kitOne K (.ref bD) (.type "ValueError")=some true)
  {aA:Addr} {bG:Addr} {bY:Addr} {bZ:Addr}
  (vd:PySem.W.nsIn K mainGlobals "Sounding" = some (some (.ref aA)))
  (vi:PySem.W.plainGet K aA Str.empty=true)
  (vh:PySem.W.hasDictIn K aA=true)
  (vg:PySem.W.plainOver K aA=true)
  (vf:PySem.W.findIn K (.ref aA) "__setattr__" = some (some (.builtin "object.__setattr__")))
  (mS:PySem.W.findIn K (.ref aA) "ask" = some none)
  (iP:PySem.W.findIn K (.ref aA) "askings" = some none)
  (jX:PySem.W.findIn K (.ref aA) "known" = some none)
  (iO:PySem.W.findIn K (.ref aA) "unknown" = some none)
  (vb:PySem.W.makesIn K aA=true)
  (va:PySem.W.findIn K (.ref aA) "__init__" = some (some (.ref bG)))
  (u6:PySem.W.isFn K (.ref bG)=true)
  (u0:PySem.W.keepIn K (.ref aA)=true)
  {mX m7:Option Addr} {mV:Array (Option Value)} {mY mZ m5 mW gJ m6:Value}
  (iq:K.lookup bG=some ⟨mY,mX,.func (PySem.W.fnOf "__init__" "Sounding.__init__" (aS cA) (aK cA) (ag cA) .none mZ m5 mW m7 gJ m6),mV⟩)
  (iw:PySem.W.codeIn K gJ "Sounding.__init__" = true)
  (iu:PySem.W.keepIn K (.ref bG)=true)
  (jV:PySem.W.findIn K (.ref aA) "tells" = some (some (.ref bY)))
  (jT:PySem.W.isFn K (.ref bY)=true)
  {qF qP:Option Addr} {qB:Array (Option Value)} {qH qJ qL qD jl qN:Value}
  (jY:K.lookup bY=some ⟨qH,qF,.func (PySem.W.fnOf "tells" "Sounding.tells" (aS cY) (aK cY) (ag cY) .none qJ qL qD qP jl qN),qB⟩)
  (j3:PySem.W.codeIn K jl "Sounding.tells" = true)
  (gC:PySem.W.keepIn K (.ref bY)=true)
  (jW:PySem.W.findIn K (.ref aA) "learn" = some (some (.ref bZ)))
  (jU:PySem.W.isFn K (.ref bZ)=true)
  {qG qQ:Option Addr} {qC:Array (Option Value)} {qI qK qM qE jm qO:Value}
  (jZ:K.lookup bZ=some ⟨qI,qG,.func (PySem.W.fnOf "learn" "Sounding.learn" (aS cZ) (aK cZ) (ag cZ) .none qK qM qE qQ jm qO),qC⟩)
  (j4:PySem.W.codeIn K jm "Sounding.learn" = true)
  (gD:PySem.W.keepIn K (.ref bZ)=true)
  : ∃fd:FuncData,(∀(s:Shared) (v:Value),BindsTo s fd ⟨[v],[]⟩ [("_law_script",v)])/\∀base:Heap,K.In base->base.Ns mainGlobals mg->BMain mg base->cq l.prog w K mg base eV 20 fa fd ["_law_script"] (Ku K pT_law pT_sounded):=by
 have e:=hfa.symm.trans (de X G a25)
 cases e
 have F0:=bU (st:=bV) l0 c0 k0
 have b0:=F0.binds (ps:=["tuples"]) λ_ _ _ _ _ _=>Sh λ_=>rfl
 have F1:=bU (st:=gL) l1 c1 k1
 have b1:=F1.binds (ps:=["one"]) λ_ _ _ _ _ _=>Sh λ_=>rfl
 have F2:=bU (st:=kW) l2 c2 k2
 have b2:=F2.binds (ps:=["numbers"]) λ_ _ _ _ _ _=>Sh λ_=>rfl
 have F3:=bU (st:=jc) l3 c3 k3
 have b3:=F3.binds (ps:=["one","other"]) λ_ _ _ _ _ _=>of2 λ_ _=>rfl
 have F4:=bU (st:=gN) l4 c4 k4
 have b4:=F4.binds (ps:=["family"]) λ_ _ _ _ _ _=>Sh λ_=>rfl
 have F5:=bU (st:=gM) l5 c5 k5
 have b5:=F5.binds (ps:=["family"]) λ_ _ _ _ _ _=>Sh λ_=>rfl
 have F6:=bU (st:=eK) l6 c6 k6
 have b6:=F6.binds (ps:=["family"]) λ_ _ _ _ _ _=>Sh λ_=>rfl
 have F7:=bU (st:=dP) l7 c7 k7
 have b7:=F7.binds (ps:=["part","family"]) λ_ _ _ _ _ _=>of2 λ_ _=>rfl
 have F8:=bU (st:=cW) l8 c8 k8
 have b8:=F8.binds (ps:=["part","family"]) λ_ _ _ _ _ _=>of2 λ_ _=>rfl
 have F9:=bU (st:=jb) l9 c9 k9
 have b9:=F9.binds (ps:=["whole","part"]) λ_ _ _ _ _ _=>of2 λ_ _=>rfl
 have F10:=bU (st:=gK) l10 c10 k10
 have b10:=F10.binds (ps:=["whole"]) λ_ _ _ _ _ _=>Sh λ_=>rfl
 have F11:=bU (st:=o9) l11 c11 k11
 have b11:=F11.binds (ps:=["whole","ask","part"]) λ_ _ _ _ _ _=>of3 λ_ _ _=>rfl
 have F12:=bU (st:=kR) l12 c12 k12
 have b12:=F12.binds (ps:=["ask","part"]) λ_ _ _ _ _ _=>of2 λ_ _=>rfl
 have F13:=bU (st:=bL) l13 c13 k13
 have b13:=F13.binds (ps:=["whole","ask"]) λ_ _ _ _ _ _=>of2 λ_ _=>rfl
 have F14:=bU (st:=gq) l14 c14 k14
 have b14:=F14.binds (ps:=["_law_script"]) λ_ _ _ _ _ _=>Sh λ_=>rfl
 have F15:=bU (st:=gp) l15 c15 k15
 have b15:=F15.binds (ps:=["_law_hand_here"]) λ_ _ _ _ _ _=>Sh λ_=>rfl
 have F16:=bU (st:=gj) l16 c16 k16
 have b16:=F16.binds (ps:=["_law_hand_here"]) λ_ _ _ _ _ _=>Sh λ_=>rfl
 have F17:=bU (st:=gu) l17 c17 k17
 have b17:=F17.binds (ps:=["_law_hand_here","_law_many"]) λ_ _ _ _ _ _=>of2 λ_ _=>rfl
 have F18:=bU (st:=cX) l18 c18 k18
 have b18:=F18.binds (ps:=["_law_one","_law_other"]) λ_ _ _ _ _ _=>of2 λ_ _=>rfl
 have F19:=bU (st:=dQ) l19 c19 k19
 have b19:=F19.binds (ps:=["_law_hand_here","_law_most"]) λ_ _ _ _ _ _=>of2 λ_ _=>rfl
 have F20:=bU (st:=gk) l20 c20 k20
 have b20:=F20.binds (ps:=["_law_hand_here","_law_whole"]) λ_ _ _ _ _ _=>of2 λ_ _=>rfl
 have F21:=bU (st:=fF) l21 c21 k21
 have b21:=F21.binds (ps:=["_law_hand_here","_law_whole"]) λ_ _ _ _ _ _=>of2 λ_ _=>rfl
 have F22:=bU (st:=fD) l22 c22 k22
 have b22:=F22.binds (ps:=["_law_model_here","_law_part"]) λ_ _ _ _ _ _=>of2 λ_ _=>rfl
 have F23:=bU (st:=fE) l23 c23 k23
 have b23:=F23.binds (ps:=["_law_ask","_law_whole","_law_part"]) λ_ _ _ _ _ _=>of3 λ_ _ _=>rfl
 have F24:=bU (st:=gO) l24 c24 k24
 have b24:=F24.binds (ps:=["_law_model_here","_law_whole","_law_part"]) λ_ _ _ _ _ _=>of3 λ_ _ _=>rfl
 have F25:=bU (st:=iN) l25 c25 k25
 have b25:=F25.binds (ps:=["_law_script"]) λ_ _ _ _ _ _=>Sh λ_=>rfl
 have yo:=bU (st:=cF) xK xP xN
 have J':=yo.binds (ps:=cQ) λ_ _ _ _ _ _=>of2 λ_ _=>rfl
 have yp:=bU (st:=cG) xM xQ xO
 have Ka:=yp.binds (ps:=dJ) λ_ _ _ _ _ _=>of2 λ_ _=>rfl
 have iB:=bU (st:=cA) iq iw iu
 have oP:=iB.binds (ps:=["self","ask","parts"]) λ_ _ _ _ _ _=>of3 λ_ _ _=>rfl
 have ka:=bU (st:=cY) jY j3 gC
 have tV:=ka.binds (ps:=["self","part"]) λ_ _ _ _ _ _=>of2 λ_ _=>rfl
 have kc:=bU (st:=cZ) jZ j4 gD
 have tW:=kc.binds (ps:=["self","part","peaceful"]) λ_ _ _ _ _ _=>of3 λ_ _ _=>rfl
 have T:Txt K mg ⟨_,_,_,_,_,_,_,_,_,_,_,_,_,_,_,_,_,_,_,_,_,_,_,_,_,_,_,_,_,_,_,_,_,_,_,_,_,_,_,_,_,_,_,_,_,_,_,_,_,_,_,_,_,_,_,_,_,_,_,_,_,_,_,_,_,_⟩:=⟨F0,b0,de X G a0,F1,b1,de X G a1,F2,b2,de X G a2,F3,b3,de X G a3,F4,b4,de X G a4,F5,b5,de X G a5,F6,b6,de X G a6,F7,b7,de X G a7,F8,b8,de X G a8,F9,b9,de X G a9,F10,b10,de X G a10,F11,b11,de X G a11,F12,b12,de X G a12,F13,b13,de X G a13,F14,b14,de X G a14,F15,b15,de X G a15,F16,b16,de X G a16,F17,b17,de X G a17,F18,b18,de X G a18,F19,b19,de X G a19,F20,b20,de X G a20,F21,b21,de X G a21,F22,b22,de X G a22,F23,b23,de X G a23,F24,b24,de X G a24,F25,b25,de X G a25,nv X G Kl,nv X G Kk,nv X G DR,nv X G nH,nv X G qA,nv X G oZ,nv X G lR,nv X G Kj,nv X G nG,nv X G Ki,nv X G iT,de X G qh,⟨p7,p6,p5,pZ,pY,pX,cx7,cx8,pW⟩,kB,kG,hV,ia,g9,de X G yh,⟨wO,wM,wK,wI,wG,wD,cx7,cx8,wB⟩,mj,yo,J',ml,mn,lT,qX,de X G yi,⟨wQ,wN,wL,wJ,wH,wF,cx7,cx8,wC⟩,rj,yp,Ka,rk,rz,qR,qY,dY,rg,rh,de X G vd,⟨vi,vh,vg,vf⟩,mS,iP,jX,iO,⟨vb,va,u6,u0⟩,iB,oP,ka,tV,⟨jV,jT,gC⟩,kc,tW,⟨jW,jU,gD⟩⟩
 exact⟨PySem.W.fnOf "law" "law" (aS iN) (aK iN) (ag iN) .none aCA aDz aCh aDX (.ref cC_law) aDA,λs v=>.of_eq rfl,λbase kb _ hB=>aAC (P:=l.prog) (w:=w) (base:=base) T rfl (PySem.W.codeHd_of_K kb aBA) rfl (PySem.W.codeHd_of_K kb JB) hB⟩
theorem walk{l:PySem.W.OpenLaw}{q:Program}{loose:List Str}{XP:(Str->Option Value)->Heap->Prop}{YP:World->Heap->Prop}{d:DefRec}{K:Params->PySem.W.Frag}{cC_law pT_law cC_sounded pT_sounded:Addr}(hn:l.most=some 63)(hNE:pT_law≠pT_sounded)(hdf:d.params.defaults=[])
  (hY:∀(w:World) (h:Heap),YP w h->(K w.params).In h/\∀q∈[(cC_law,pT_law),(cC_sounded,pT_sounded)],h.get? q.2=some (PySem.W.tabObj #[]))
  (hCd:∀w:World,∀q∈[(cC_law,pT_law),(cC_sounded,pT_sounded)],PySem.W.codeHdIn (K w.params) q.1 q.2=true/\(K w.params).lookup q.2=none)
  (F:∀(w:World) (mg:Str->Option Value) (fa:Addr) (h:Heap),(K w.params).In h->h.Ns mainGlobals mg->mg d.name=some (.ref fa)->
   ∃fd:FuncData,(∀(s:Shared) (u:Value),BindsTo s fd ⟨[u],[]⟩ [("_law_script",u)])/\∀base:Heap,(K w.params).In base->base.Ns mainGlobals mg->BMain mg base->cq l.prog w (K w.params) mg base eV 20 fa fd ["_law_script"] (Ku (K w.params) pT_law pT_sounded)) :
  PySem.W.WalkO q loose XP YP l.row.toRowW d [] (λf vs=>PySem.call f vs):=
 L2.Qd (n:=63) (k:=20) (x:="_law_script") (ts:=[(cC_law,pT_law),(cC_sounded,pT_sounded)]) (CX:=λ_=>eV) (sp:=λw=>Ku (K w.params) pT_law pT_sounded) hn (by decide) hdf ⟨rfl,by decide,by decide⟩ hY hCd F (λ_ _ a ns hl hT hS=>⟨a,ns,rfl,hS,hl,hT (cC_law,pT_law) (by simp),hT (cC_sounded,pT_sounded) (by simp),hNE,λ_=>rfl⟩) λ_ _ _ _ _ z=>z
def view:Program:={ PySem.Challenge.pw_truceroll_k58_two_askers_by_turns with main:={ PySem.Challenge.pw_truceroll_k58_two_askers_by_turns.main with body:=[top 1,top 2,top 3,top 5,top 6,top 8,top 9,top 10,top 11,top 12,top 13,top 14,top 15,top 16,top 18,top 19,top 21,top 22,top 24,top 25,top 26,top 27,top 28,top 29,top 30,top 31,top 32,top 33,top 34,top 35] } }
end
end My
open PySem PySem.W PyProof.Rows
local macro_rules | `(tactic| o_head $H:term) => `(tactic| (
  refine holds_open (q := My.view) (loose := []) (Xt := fun s => xlAt My.view [] s && recOk (RowW.records (OpenRow.toRowW PySem.Challenge.rw_truceroll_k58_two_askers_by_turns.row)) s) (XP := XL My.view []) (Yf := Hook.obs $H) (Ya := Hook.val $H) (YP := Hook.says $H) (N := 40000) ?hl (Hook.of $H) (Hook.keeps $H) (fun s e => xl_of s (Bool.and_eq_true_iff.mp e).1) XL.keeps (by rfl) (by rfl) (by rfl) (fun s e => recFacts_of (Bool.and_eq_true_iff.mp e).2) (by rfl) (by first | assumption | decide +kernel) (by decide +kernel) ⟨rfl, rfl, rfl, rfl, rfl, by decide +kernel⟩ ?hw ?hc
  case hl => intro w; kernel_rfl))
theorem PySem.Challenge.cw_truceroll_k58_two_askers_by_turns_holds : PySem.Challenge.rw_truceroll_k58_two_askers_by_turns.Holds := by
 w_on;o_law;k_head;(case hw=>w_witness2)
 k_fill
 refine My.walk (l:=PySem.Challenge.rw_truceroll_k58_two_askers_by_turns) (cC_law:=263) (pT_law:=261) (cC_sounded:=156) (pT_sounded:=154) rfl (by decide) rfl (λw h Y=>⟨PySem.W.km_in_of Y,λq hq=>PySem.W.km_tabs_of Y _ (by simp only[List.mem_cons,List.not_mem_nil,or_false]at hq ⊢;rcases hq with rfl | rfl <;> simp)⟩) (λw q hq=>by simp only[List.mem_cons,List.not_mem_nil,or_false]at hq;rcases hq with rfl | rfl <;> exact⟨by kernel_rfl,by kernel_rfl⟩) ?F
 case F=>
  intro w mg fa h KX G hmg
  refine' My.all_mk KX G hmg (by kernel_rfl) (by kernel_rfl) ?a0 ?l0 ?c0 ?k0 ?a1 ?l1 ?c1 ?k1 ?a2 ?l2 ?c2 ?k2 ?a3 ?l3 ?c3 ?k3 ?a4 ?l4 ?c4 ?k4 ?a5 ?l5 ?c5 ?k5 ?a6 ?l6 ?c6 ?k6 ?a7 ?l7 ?c7 ?k7 ?a8 ?l8 ?c8 ?k8 ?a9 ?l9 ?c9 ?k9 ?a10 ?l10 ?c10 ?k10 ?a11 ?l11 ?c11 ?k11 ?a12 ?l12 ?c12 ?k12 ?a13 ?l13 ?c13 ?k13 ?a14 ?l14 ?c14 ?k14 ?a15 ?l15 ?c15 ?k15 ?a16 ?l16 ?c16 ?k16 ?a17 ?l17 ?c17 ?k17 ?a18 ?l18 ?c18 ?k18 ?a19 ?l19 ?c19 ?k19 ?a20 ?l20 ?c20 ?k20 ?a21 ?l21 ?c21 ?k21 ?a22 ?l22 ?c22 ?k22 ?a23 ?l23 ?c23 ?k23 ?a24 ?l24 ?c24 ?k24 ?a25 ?l25 ?c25 ?k25 ?Kl ?Kk ?DR ?nH ?qA ?oZ ?lR ?Kj ?nG ?Ki ?iT ?cx7 ?cx8 ?qh ?p7 ?p6 ?p5 ?pZ ?pY ?pX ?pW ?yh ?wO ?wM ?wK ?wI ?wG ?wD ?wB ?yi ?wQ ?wN ?wL ?wJ ?wH ?wF ?wC ?kB ?kG ?hV ?ia ?g9 ?mj ?xK ?xP ?xN ?ml ?mn ?lT ?qX ?rj ?xM ?xQ ?xO ?rk ?rz ?qR ?qY ?dY ?rg ?rh ?vd ?vi ?vh ?vg ?vf ?mS ?iP ?jX ?iO ?vb ?va ?u6 ?u0 ?iq ?iw ?iu ?jV ?jT ?jY ?j3 ?gC ?jW ?jU ?jZ ?j4 ?gD
  all_goals (first | k_is | rfl | skip)
  all_goals (first | k_is | rfl | skip)
